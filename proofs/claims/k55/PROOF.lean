import PyProof.Rows.All
import Wide.All
import OpenK.AllK
import Wide.FinOn
import Lean
import PyProof.EqAt
import PyProof.EqKinds
import PyProof.NeData
import PyProof.TupleCall
import KE.KRevIter
import KE.KRevSl
import PyProof.MinMaxWalk
import PyProof.ZipIter
import PyProof.Rows.Range3
import PyProof.Rows.CallKwBuiltin
import PyProof.DictWalks
import PyProof.ReprRoads
import PyProof.ReprLen
import PyProof.CallFns
import KE.KEqDict
import PyProof.P3In
import PyProof.MeetsDictList
import PyProof.Cells
import PySem.Challenge.RW_trudge_k55_whole_rows_are_highest
set_option Elab.async false
set_option linter.all false
set_option maxRecDepth 100000
set_option genInjectivity false
set_option genSizeOf false
namespace L2
open PySem PySem.Spec PyProof.Rows
theorem el3 {α β γ : Type} {R T K : α → β → γ → Prop} {p : Prop} (h : ∃ a b c, R a b c ∧ T a b c ∧ K a b c) (f : ∀ a b c, R a b c → T a b c → K a b c → p) : p := h.elim fun a h => h.elim fun b h => h.elim fun c h => f a b c h.1 h.2.1 h.2.2
theorem el5 {α β : Type} {R T K : α → β → Prop} {p : Prop} (h : ∃ a b, R a b ∧ T a b ∧ K a b) (f : ∀ a b, R a b → T a b → K a b → p) : p := h.elim fun a h => h.elim fun b h => f a b h.1 h.2.1 h.2.2
theorem el2 {α : Type} {A B : α → Prop} {p : Prop} (h : ∃ a, A a ∧ B a) (f : ∀ a, A a → B a → p) : p := h.elim fun a h => f a h.1 h.2
abbrev Key := Sum Int Str
def keyIs : Key → Value → Bool
  | .inl k, v => Value.isInt k v
  | .inr x, v => Value.isStrOf x v
def keyH (w : World) : Key → Int
  | .inl k => hashInt k
  | .inr x => hashStr w x
theorem keyIs_shape : ∀ {k : Key} {v : Value}, keyIs k v = true → (∃ i t, k = Sum.inl i ∧ v = Value.int i t) ∨ (∃ x t, k = Sum.inr x ∧ v = Value.str x t)
  | .inl i, v, h => by
    obtain ⟨t, e⟩ := Value.isInt_shape (k := i) (v := v) h
    exact .inl ⟨i, t, rfl, e⟩
  | .inr x, v, h => by
    obtain ⟨t, e⟩ := Value.isStrOf_shape (x := x) (v := v) h
    exact .inr ⟨x, t, rfl, e⟩
theorem key_ll (a b : Int) : decide ((Sum.inl a : Key) = Sum.inl b) = (a == b) := by
  by_cases e : a = b
  · subst e; simp
  · have h : ¬ (Sum.inl a : Key) = Sum.inl b := fun q => e (Sum.inl.inj q)
    rw [decide_eq_false h]
    exact (beq_eq_false_iff_ne.mpr e).symm
theorem key_rr (a b : Str) : decide ((Sum.inr a : Key) = Sum.inr b) = decide (a = b) := by
  by_cases e : a = b
  · subst e; simp
  · have h : ¬ (Sum.inr a : Key) = Sum.inr b := fun q => e (Sum.inr.inj q)
    rw [decide_eq_false h, decide_eq_false e]
theorem key_lr (a : Int) (b : Str) : decide ((Sum.inl a : Key) = Sum.inr b) = false := decide_eq_false (fun q => nomatch q)
theorem key_rl (a : Str) (b : Int) : decide ((Sum.inr a : Key) = Sum.inl b) = false := decide_eq_false (fun q => nomatch q)
def mixKind (prog : Program) (w : World) : PySem.KeyKind prog w Key where
  is := keyIs
  hash := keyH w
  inj := fun v a b ha hb => by
    rcases keyIs_shape ha with ⟨i, t, rfl, rfl⟩ | ⟨x, t, rfl, rfl⟩
    · rcases keyIs_shape hb with ⟨j, u, rfl, e⟩ | ⟨y, u, rfl, e⟩
      · injection e with e1 _; rw [e1]
      · exact nomatch e
    · rcases keyIs_shape hb with ⟨j, u, rfl, e⟩ | ⟨y, u, rfl, e⟩
      · exact nomatch e
      · injection e with e1 _; rw [e1]
  byValue := fun k v h => by
    rcases keyIs_shape h with ⟨i, t, rfl, rfl⟩ | ⟨x, t, rfl, rfl⟩ <;> rfl
  pyHash := fun hv h => by
    rcases keyIs_shape hv with ⟨i, t, rfl, rfl⟩ | ⟨x, t, rfl, rfl⟩
    · exact wpAny_pyHash_int h
    · exact wpAny_pyHash_str h
  eqBool := fun hu hv h => by
    rcases keyIs_shape hu with ⟨i, t, rfl, rfl⟩ | ⟨x, t, rfl, rfl⟩
    · rcases keyIs_shape hv with ⟨j, u, rfl, rfl⟩ | ⟨y, u, rfl, rfl⟩
      · rw [key_ll] at h; exact wpAny_eqBool_int h
      · rw [key_lr] at h; exact SeqAt.EqAt.int_str i t y u _ _ _ _ h
    · rcases keyIs_shape hv with ⟨j, u, rfl, rfl⟩ | ⟨y, u, rfl, rfl⟩
      · rw [key_rl] at h; exact SeqAt.EqAt.str_int x t j u _ _ _ _ h
      · rw [key_rr] at h; exact wpAny_eqBool_str h
  «strs» := fun k x t v h => by
    rcases keyIs_shape h with ⟨i, u, rfl, e⟩ | ⟨y, u, rfl, e⟩
    · exact nomatch e
    · injection e with e1 _
      subst e1
      cases v <;> rfl
end L2
namespace L2
open PySem PySem.Spec PyProof.Rows
set_option genInjectivity true in
inductive V where
  | non | bl (b : Bool) | int (i : Int) | str (x : Str) | byt (b : Array UInt8) | flt (b : UInt64) | ref (a : Addr) | ty (n : String)
  deriving DecidableEq
def RelV : V → Value → Prop
  | .non, u => u = Value.none
  | .bl b, u => u = Value.bool b
  | .int i, u => ∃ t, u = Value.int i t
  | .str x, u => ∃ t, u = Value.str x t
  | .byt b, u => ∃ t, u = Value.bytes b t
  | .flt b, u => ∃ t, u = Value.float b t
  | .ref a, u => u = Value.ref a
  | .ty n, u => u = Value.type n
abbrev Vals : List V → List Value → Prop := Paired RelV
theorem Vals.length {xs : List V} {us : List Value} (r : Vals xs us) : xs.length = us.length := Paired.length r
theorem Vals.get : ∀ {xs : List V} {us : List Value} {i : Nat} {x : V}, Vals xs us → xs[i]? = some x → ∃ u, us[i]? = some u ∧ RelV x u
  | _, _, _, _, .nil, e => by simp at e
  | _, _, 0, _, .cons r _, e => by simp at e; subst e; exact ⟨_, rfl, r⟩
  | _, _, i + 1, x, .cons _ t, e => by
    obtain ⟨u, h1, h2⟩ := Vals.get (i := i) (x := x) t (by simpa using e)
    exact ⟨u, by simpa using h1, h2⟩
theorem Vals.set {x : V} {u : Value} (r : RelV x u) : ∀ {xs : List V} {us : List Value} (i : Nat), Vals xs us → Vals (xs.set i x) (us.set i u)
  | _, _, _, .nil => .nil
  | _, _, 0, .cons _ t => .cons r t
  | _, _, i + 1, .cons q t => .cons q (Vals.set r i t)
theorem Vals.append {xs ys : List V} {us ws : List Value} (h : Vals xs us) (s : Vals ys ws) : Vals (xs ++ ys) (us ++ ws) := by
  induction h with
  | nil => exact s
  | cons r t ih => exact .cons r ih
theorem Vals.take : ∀ {xs : List V} {us : List Value} (n : Nat), Vals xs us → Vals (xs.take n) (us.take n)
  | _, _, 0, _ => .nil
  | _, _, _ + 1, .nil => .nil
  | _, _, n + 1, .cons r t => .cons r (Vals.take n t)
theorem Vals.drop : ∀ {xs : List V} {us : List Value} (n : Nat), Vals xs us → Vals (xs.drop n) (us.drop n)
  | _, _, 0, r => r
  | _, _, _ + 1, .nil => .nil
  | _, _, n + 1, .cons _ t => Vals.drop n t
def RelO : Option V → Option Value → Prop
  | some v, some u => RelV v u
  | none, none => True
  | _, _ => False
def KV {κ : Type} : List (κ × V) → List (κ × Value) → Prop := Paired fun (p : κ × V) (q : κ × Value) => p.1 = q.1 ∧ RelV p.2 q.2
def kV : Key → V
  | .inl i => .int i
  | .inr x => .str x
inductive HO where
  | lst (xs : List V)
  | tup (xs : List V)
  | dK (kvs : List (Key × V)) | dT (kvs : List (List Key × V))
  | set (S : Int → Bool) (n : Nat)
  | ins (C dx : Addr) (fs : List (Str × V))
  | own (x : Addr)
  | xd (fs : List (Str × V))
  | met (f x : Addr)
  | rng (lo hi : Int)
  | frz (o : Obj) (u : HO)
  | tbl (ps : Array Value)
  | ext (φ : Heap → Prop)
abbrev Hp := Addr → Option HO
def upd (H : Hp) (a : Addr) (o : HO) : Hp := fun b => if b = a then some o else H b
theorem upd_same {H : Hp} {a : Addr} {o : HO} : upd H a o a = some o := by unfold upd; rw [if_pos rfl]
theorem upd_ne {H : Hp} {a b : Addr} {o : HO} (h : b ≠ a) : upd H a o b = H b := by unfold upd; rw [if_neg h]
theorem ne_of {H : Hp} {a b : Addr} {o u : HO} (h : H a = some o) (h' : H b = some u) (d : o ≠ u) : a ≠ b := by
  intro e; subst e; rw [h] at h'; exact d (Option.some.inj h')
theorem ne_of_none {H : Hp} {a b : Addr} {o : HO} (h : H a = some o) (h' : H b = none) : a ≠ b := by
  intro e; subst e; rw [h] at h'; cases h'
section
variable (P : Program) (w : World)
def ObjOk (H : Hp) (h : Heap) (a : Addr) : HO → Prop
  | .lst xs => xs.length ≤ sizeLine ∧ ∃ (its : List Value) (n : Nat), Vals xs its ∧ h.get? a = some { cls := .type "list", data := .seq its.toArray n }
  | .tup xs => xs.length ≤ sizeLine ∧ ∃ its : List Value, Vals xs its ∧ IsTup h a its.toArray
  | .dK kvs => kvs.length ≤ sizeLine ∧ (a == sysModules) = false ∧ ∃ vs, KV kvs vs ∧ h.DictOf (mixKind P w) a vs
  | .dT kvs => kvs.length ≤ sizeLine ∧ (a == sysModules) = false ∧ ∃ xs : List (List Key × Addr × Value),
      Paired (fun (p : List Key × V) (q : List Key × Addr × Value) => p.1 = q.1 ∧ H q.2.1 = some (.tup (p.1.map kV)) ∧ RelV p.2 q.2.2) kvs xs ∧
      ∃ o es ep, h.get? a = some o ∧ o.ExactDict ∧ o.data = .dict es ep ∧ es.toList = xs.map (entryOfKey (tupleKind (mixKind P w))) ∧ (xs.map (·.1)).Nodup
  | .set S n => h.SetOf (intKind P w) a S n
  | .ins C dx fs => H dx = some (.own a) ∧ fs.length ≤ 1000 ∧ dx ≠ a ∧ h.get? a = some (PySem.W.instObj C dx) ∧
      ∃ mA, h.Ns1 dx mA ∧ (∀ f, RelO (fs.lookup f) (mA f)) ∧ PySem.Within mA (fs.map (·.1))
  | .own _ => ∃ o, h.get? a = some o
  | .xd fs => ∃ mA, h.Ns1 a mA ∧ ∀ f, RelO (fs.lookup f) (mA f)
  | .rng lo hi => ∃ t u v, h.get? a = some { cls := .type "range", data := .fields #[.int lo t, .int hi u, .int 1 v] }
  | .frz o u => h.get? a = some o ∧ ObjOk H h a u
  | .tbl ps => h.get? a = some { cls := .none, data := .fields ps }
  | .met f x => h.get? a = some (PySem.W.methodObj (.ref f) (.ref x))
  | .ext φ => φ h ∧ (∃ o, h.get? a = some o) ∧ ∀ h1 h2 : Heap, φ h1 → (∀ o, h1.get? a = some o → h2.get? a = some o) → φ h2
def HOk (H : Hp) (h : Heap) : Prop := ∀ a o, H a = some o → ObjOk P w H h a o
end
section
variable {P : Program} {w : World} {H H' : Hp} {h h' : Heap} {a : Addr} {o : HO}
theorem ObjOk.lt (x : ObjOk P w H h a o) : a < h.objs.size := by
  cases o with
  | lst xs => obtain ⟨_, _, _, _, e⟩ := x; exact Heap.lt_size e
  | tup xs => obtain ⟨_, _, _, p⟩ := x; exact p.lt
  | dK kvs => obtain ⟨_, _, _, _, o, _, _, e, _⟩ := x; exact Heap.lt_size e
  | dT kvs => obtain ⟨_, _, _, _, o, _, _, e, _⟩ := x; exact Heap.lt_size e
  | set S n => obtain ⟨o, _, _, _, e, _⟩ := x; exact Heap.lt_size e
  | ins C dx fs => obtain ⟨_, _, _, e, _⟩ := x; exact Heap.lt_size e
  | own y => obtain ⟨_, e⟩ := x; exact Heap.lt_size e
  | xd fs => obtain ⟨_, ⟨_, _, _, e, _⟩, _⟩ := x; exact Heap.lt_size e
  | rng lo hi => obtain ⟨_, _, _, e⟩ := x; exact Heap.lt_size e
  | frz ob u => obtain ⟨e, _⟩ := x; exact Heap.lt_size e
  | tbl ps => exact Heap.lt_size (show h.get? a = some _ from x)
  | met f y => exact Heap.lt_size (show h.get? a = some _ from x)
  | ext φ => obtain ⟨_, ⟨_, e⟩, _⟩ := x; exact Heap.lt_size e
theorem Paired.mapP {α β : Type} {F G : α → β → Prop} {l₁ : List α} {l₂ : List β} (h : Paired F l₁ l₂) (f : ∀ a b, F a b → G a b) : Paired G l₁ l₂ := by
  induction h with
  | nil => exact .nil
  | cons r t ih => exact .cons (f _ _ r) ih
theorem ObjOk.stay (x : ObjOk P w H h a o) (k : ∀ b u, (b = a ∨ H b = some (.own a)) → h.get? b = some u → h'.get? b = some u)
    (ho : ∀ b, H b = some (.own a) → H' b = some (.own a)) (ht : ∀ b xs, H b = some (.tup xs) → H' b = some (.tup xs)) : ObjOk P w H' h' a o := by
  induction o with
  | lst xs => obtain ⟨z, its, n, r, e⟩ := x; exact ⟨z, its, n, r, k _ _ (.inl rfl) e⟩
  | tup xs => obtain ⟨z, its, r, ob, e, c⟩ := x; exact ⟨z, its, r, ob, k _ _ (.inl rfl) e, c⟩
  | dK kvs => obtain ⟨z, y, vs, r, ob, es, ep, e, c⟩ := x; exact ⟨z, y, vs, r, ob, es, ep, k _ _ (.inl rfl) e, c⟩
  | dT kvs =>
    obtain ⟨z, y, xs, r, ob, es, ep, e, c⟩ := x
    exact ⟨z, y, xs, Paired.mapP r fun p q z => ⟨z.1, ht _ _ z.2.1, z.2.2⟩, ob, es, ep, k _ _ (.inl rfl) e, c⟩
  | set S n => obtain ⟨ob, es, ep, t, e, c⟩ := x; exact ⟨ob, es, ep, t, k _ _ (.inl rfl) e, c⟩
  | ins C dx fs =>
    obtain ⟨d, z, ne, e, mA, ⟨od, es, ep, e2, c⟩, r⟩ := x
    exact ⟨ho _ d, z, ne, k _ _ (.inl rfl) e, mA, ⟨od, es, ep, k _ _ (.inr d) e2, c⟩, r⟩
  | own y => obtain ⟨ob, e⟩ := x; exact ⟨ob, k _ _ (.inl rfl) e⟩
  | xd fs => obtain ⟨mA, ⟨od, es, ep, e, c⟩, r⟩ := x; exact ⟨mA, ⟨od, es, ep, k _ _ (.inl rfl) e, c⟩, r⟩
  | rng lo hi => obtain ⟨t, u, v, e⟩ := x; exact ⟨t, u, v, k _ _ (.inl rfl) e⟩
  | frz ob u ih => obtain ⟨e, q⟩ := x; exact ⟨k _ _ (.inl rfl) e, ih q⟩
  | tbl ps =>
    have e : h.get? a = some { cls := .none, data := .fields ps } := x
    show h'.get? a = some { cls := .none, data := .fields ps }
    exact k a _ (.inl rfl) e
  | met f y =>
    have e : h.get? a = some (PySem.W.methodObj (.ref f) (.ref y)) := x
    show h'.get? a = some (PySem.W.methodObj (.ref f) (.ref y))
    exact k a _ (.inl rfl) e
  | ext φ => obtain ⟨p, ⟨o, e⟩, st⟩ := x; exact ⟨st _ _ p fun o q => k _ _ (.inl rfl) q, ⟨o, k _ _ (.inl rfl) e⟩, st⟩
theorem HOk.lt (x : HOk P w H h) (e : H a = some o) : a < h.objs.size := (x a o e).lt
theorem HOk.fresh (x : HOk P w H h) (e : h.objs.size ≤ a) : H a = none := by
  cases q : H a with
  | none => rfl
  | some u => exact absurd (Nat.lt_of_lt_of_le (x.lt q) e) (Nat.lt_irrefl _)
theorem HOk.kept (x : HOk P w H h) (k : ∀ b u, h.get? b = some u → h'.get? b = some u) : HOk P w H h' := fun a o e =>
  (x a o e).stay (fun b u _ q => k b u q) (fun _ q => q) fun _ _ q => q
theorem HOk.laid (x : HOk P w H h) (k : ∀ b u, h.get? b = some u → h'.get? b = some u) (hp : h.objs.size ≤ a) (new : ObjOk P w (upd H a o) h' a o) : HOk P w (upd H a o) h' := fun b u e => by
  have hn := x.fresh hp
  by_cases hb : b = a
  · subst hb; rw [upd_same] at e; cases e; exact new
  · rw [upd_ne hb] at e
    exact (x b u e).stay (fun c v _ q => k c v q) (fun c q => by rw [upd_ne (ne_of_none q hn)]; exact q) fun c xs q => by rw [upd_ne (ne_of_none q hn)]; exact q
end
def Rd (H : Hp) (a : Addr) (u : HO) : Prop := H a = some u ∨ ∃ o, H a = some (.frz o u)
theorem Rd.ok {P : Program} {w : World} {H : Hp} {h : Heap} {a : Addr} {u : HO} (r : Rd H a u) (x : HOk P w H h) : ObjOk P w H h a u := by
  rcases r with r | ⟨o, r⟩
  · exact x a u r
  · obtain ⟨_, q⟩ := x a _ r
    exact q
def Mut : Option HO → Prop
  | some (.lst _) => True
  | some (.dK _) => True
  | some (.dT _) => True
  | some (.set _ _) => True
  | some (.ins _ _ _) => True
  | some (.ext _) => True
  | _ => False
section
variable {P : Program} {w : World} {H : Hp} {h h' : Heap} {x e : Addr} {o' : HO}
theorem HOk.write (ok : HOk P w H h) (mu : Mut (H x)) (he : e = x ∨ H e = some (.own x)) (k : ∀ b u, b ≠ e → h.get? b = some u → h'.get? b = some u) (heo : ∃ u, h'.get? e = some u)
    (new : ObjOk P w (upd H x o') h' x o') : HOk P w (upd H x o') h' := fun b u q => by
  have nown : ∀ c y, H c = some (.own y) → c ≠ x := fun c y r z => by subst z; rw [r] at mu; exact mu
  have ntup : ∀ c xs, H c = some (.tup xs) → c ≠ x := fun c xs r z => by subst z; rw [r] at mu; exact mu
  by_cases hb : b = x
  · subst hb; rw [upd_same] at q; cases q; exact new
  · rw [upd_ne hb] at q
    by_cases hbe : b = e
    · have q' : H b = some (.own x) := by
        rcases he with z | z
        · exact absurd (hbe.trans z) hb
        · rw [hbe]; exact z
      rw [q] at q'; cases q'
      obtain ⟨v, hv⟩ := heo
      exact ⟨v, by rw [hbe]; exact hv⟩
    · refine (ok b u q).stay (fun c v hc r => k c v ?_ r) (fun c r => by rw [upd_ne (nown c b r)]; exact r) fun c xs r => by rw [upd_ne (ntup c xs r)]; exact r
      rcases hc with rfl | hc
      · exact hbe
      · rintro rfl
        rcases he with z | z
        · exact nown c b hc z
        · rw [hc] at z; cases z; exact hb rfl
end
structure Un (fs ex : List Addr) (H H' : Hp) (h h' : Heap) : Prop where
  keep : ∀ b o, h.get? b = some o → H b = none → b ∉ fs → b ∉ ex → h'.get? b = some o
  slot : ∀ b o, h.get? b = some o → H b = none → b ∈ fs → b ∉ ex → ∃ sl, h'.get? b = some { o with slots := sl }
  free : ∀ b o, h.get? b = some o → H b = none → b ∉ ex → H' b = none
  there : ∀ b o, h.get? b = some o → b ∉ ex → ∃ o', h'.get? b = some o'
  tups : ∀ b xs, H b = some (.tup xs) → H' b = some (.tup xs)
  frzs : ∀ b o u, H b = some (.frz o u) → H' b = some (.frz o u)
  tbls : ∀ b ps, H b = some (.tbl ps) → ∃ more, H' b = some (.tbl (ps ++ more))
section
variable {fs fs' ex ex' : List Addr} {H H1 H2 : Hp} {h h1 h2 h' : Heap} {a x e : Addr} {o : HO}
theorem Un.any (u : Un fs ex H H1 h h1) {b : Addr} {ob : Obj} (q : h.get? b = some ob) (n : H b = none) (hx : b ∉ ex) : ∃ sl, h1.get? b = some { ob with slots := sl } := by
  by_cases hb : b ∈ fs
  · exact u.slot b ob q n hb hx
  · exact ⟨ob.slots, u.keep b ob q n hb hx⟩
theorem Un.kept (k : ∀ b u, h.get? b = some u → h'.get? b = some u) : Un fs ex H H h h' :=
  ⟨fun b ob q _ _ _ => k b ob q, fun b ob q _ _ _ => ⟨ob.slots, k b ob q⟩, fun _ _ _ n _ => n, fun b ob q _ => ⟨ob, k b ob q⟩, fun _ _ q => q, fun _ _ _ q => q, fun _ ps q => ⟨#[], by rw [q]; simp⟩⟩
theorem Un.refl : Un fs ex H H h h := Un.kept fun _ _ q => q
theorem Un.laid (k : ∀ b u, h.get? b = some u → h'.get? b = some u) (hp : h.objs.size ≤ a) (hn : H a = none) : Un fs ex H (upd H a o) h h' where
  keep := fun b u q _ _ _ => k b u q
  slot := fun b u q _ _ _ => ⟨u.slots, k b u q⟩
  free := fun b u q n _ => by rw [upd_ne (Nat.ne_of_lt (Nat.lt_of_lt_of_le (Heap.lt_size q) hp))]; exact n
  there := fun b u q _ => ⟨u, k b u q⟩
  tups := fun b xs q => by rw [upd_ne (ne_of_none q hn)]; exact q
  frzs := fun b u xs q => by rw [upd_ne (ne_of_none q hn)]; exact q
  tbls := fun b ps q => ⟨#[], by rw [upd_ne (ne_of_none q hn), q]; simp⟩
theorem Un.write (mu : Mut (H x)) (he : e = x ∨ H e = some (.own x)) (k : ∀ b u, b ≠ e → h.get? b = some u → h'.get? b = some u) (heo : ∃ u, h'.get? e = some u) : Un fs ex H (upd H x o) h h' := by
  have hx : ∀ b, H b = none → b ≠ x := fun b n z => by subst z; rw [n] at mu; exact mu
  have hb : ∀ b, H b = none → b ≠ e := fun b n z => by
    subst z
    rcases he with r | r
    · exact hx b n r
    · rw [n] at r; cases r
  have hm : ∀ b u, H b = some u → ¬ Mut (some u) → b ≠ x := fun b u q nm z => by subst z; rw [q] at mu; exact nm mu
  refine ⟨fun b u q n _ _ => k b u (hb b n) q, fun b u q n _ _ => ⟨u.slots, k b u (hb b n) q⟩, fun b u q n _ => by rw [upd_ne (hx b n)]; exact n, fun b u q _ => ?_,
    fun b xs q => by rw [upd_ne (hm b _ q fun z => z)]; exact q, fun b u xs q => by rw [upd_ne (hm b _ q fun z => z)]; exact q, fun b ps q => ⟨#[], by rw [upd_ne (hm b _ q fun z => z), q]; simp⟩⟩
  by_cases hbe : b = e
  · subst hbe; exact heo
  · exact ⟨u, k b u hbe q⟩
end
def trk (h : Heap) (H : Hp) : List Addr := (List.range h.objs.size).filter fun a => (H a).isSome
def hidT (h : Heap) (H : Hp) : Heap := PySem.W.hideAll h (trk h H)
theorem hidT_size (h : Heap) (H : Hp) : (hidT h H).objs.size = h.objs.size := PySem.W.hideAll_size _ _
theorem hidT_get {h : Heap} {H : Hp} {b : Addr} {o : Obj} (e : h.get? b = some o) (n : H b = none) : (hidT h H).get? b = some o :=
  PySem.W.hideAll_get _ e fun hm => by
    have q : (H b).isSome = true := (List.mem_filter.mp hm).2
    rw [n] at q; simp at q
theorem of_hidT {h : Heap} {H : Hp} {b : Addr} {o : Obj} (e : (hidT h H).get? b = some o) : h.get? b = some o ∧ H b = none := by
  have e' : h.get? b = some o := PySem.W.of_hideAll (trk h H) e
  refine ⟨e', ?_⟩
  cases q : H b with
  | none => rfl
  | some x =>
    have hm : b ∈ trk h H := List.mem_filter.mpr ⟨List.mem_range.mpr (Heap.lt_size e'), by simp [q]⟩
    have z : (hidT h H).get? b = none := PySem.W.hideAll_none (trk h H) hm
    rw [z] at e; cases e
def allNews (g h : Heap) (L : Addr) : List (Addr × Obj) := (List.range h.objs.size).filterMap fun a => if a = L ∨ (g.get? a).isSome = true then none else (h.get? a).map fun o => (a, o)
def rest (g h : Heap) (L d : Addr) : List (Addr × Obj) := (allNews g h L).filter fun p => decide (p.1 ≠ d)
end L2
namespace L2
open PySem PySem.Spec PyProof.Rows
structure Mod (K : PySem.W.Frag) (mg : Str → Option Value) (base : Heap) : Prop where
  kin : K.In base
  glob : base.Ns mainGlobals mg
  blt : ∃ mb, base.Ns builtinsNs mb ∧ ∀ x : Str, x ≠ "__name__" → mb x = bootBuiltins x
  nolimit : base.NoLimit
structure Cx where
  prog : Program
  w : World
  K : PySem.W.Frag
  mg : Str → Option Value
  base : Heap
  A : Around
  N : List Str
  s₀ : Shared
  H₀ : Hp
  env : Env
  outer : List Env
  stack : List Env
  ex : List Addr
  fn : Str → Bool
  calm : Bool
  pn : List (Addr × Obj)
  xe : Value → Shared → Prop
def frs (l : List Env) : List Addr := l.filterMap (·.frame)
abbrev Cx.fs (X : Cx) : List Addr := frs X.outer
def Vis (sc : Scope) (x : Str) : Prop := sc.names.lookup x = some .local ∨ sc.names.lookup x = some .cell ∨ sc.names.lookup x = some .free
def Loc (sc : Scope) (x : Str) : Prop := sc.names.lookup x = some .local ∨ sc.names.lookup x = some .cell
def Look (env : Env) (h : Heap) (m : Str → Option Value) (x : Str) (u : Value) : Prop :=
  (env.kindOf x = some .local ∧ m x = some u) ∨ ((env.kindOf x = some .cell ∨ env.kindOf x = some .free) ∧ ∃ c, env.cells.lookup x = some c ∧ h.IsCell c (some u))
structure Cx.Ok (X : Cx) : Prop where
  mod : Mod X.K X.mg X.base
  kind : X.env.scope.kind = .function
  glob : X.env.globals = mainGlobals
  blt : X.env.builtins = builtinsNs
  above : X.s₀.heap.objs.size ≤ X.env.locals
  inj : ∀ x y c, X.env.cells.lookup x = some c → X.env.cells.lookup y = some c → x = y
  has : ∀ x, (X.env.kindOf x = some .cell ∨ X.env.kindOf x = some .free) → ∃ c, X.env.cells.lookup x = some c
  cab : ∀ x c, X.fn x = true → X.env.cells.lookup x = some c → X.s₀.heap.objs.size ≤ c
  hd : X.calm = true → X.A.handled = none
  frames : X.A.frames = some X.stack
  stk : X.stack = X.outer ∨ (X.stack = X.env :: X.outer ∧ X.env.frame = some X.env.locals)
  exf : ∀ b ∈ X.ex, b ≠ X.env.locals ∧ ∀ x c, X.env.cells.lookup x = some c → c ≠ b
  bs : ∀ b o, X.base.get? b = some o → X.s₀.heap.get? b = some o ∧ X.H₀ b = none
  bsz : X.base.objs.size ≤ X.s₀.heap.objs.size
  noex : ∀ b o, X.base.get? b = some o → b ∉ X.ex
  exfs : ∀ b ∈ X.ex, b ∉ X.fs
  funs : X.s₀.heap.FunFrames X.base X.outer
  frf : ∀ b ∈ X.fs, X.H₀ b = none
structure Inv (X : Cx) (pins : List (Addr × Obj)) (σ : List (Option V)) (H : Hp) (s : Shared) : Prop where
  ok : X.Ok
  os : s.os = X.s₀.os
  bare : AllBare s.gens
  base : Un X.fs X.ex X.H₀ H X.s₀.heap s.heap
  loc : ∃ m, s.heap.Ns X.env.locals m ∧ ∀ (i : Nat) (x : Str) (v : V), X.N[i]? = some x → σ[i]? = some (some v) → Vis X.env.scope x → ∃ u, RelV v u ∧ Look X.env s.heap m x u
  cell : ∀ x c, X.env.cells.lookup x = some c → ∃ v, s.heap.IsCell c v
  free : H X.env.locals = none
  freeC : ∀ x c, X.env.cells.lookup x = some c → H c = none
  pin : ∀ p ∈ X.pn ++ pins, s.heap.get? p.1 = some p.2 ∧ H p.1 = none ∧ p.1 ≠ X.env.locals ∧ p.1 ∉ X.fs ∧ ∀ v, p.2.data ≠ .cell v
  hok : HOk X.prog X.w H s.heap
  len : σ.length = X.N.length
section
variable {X : Cx} {pins : List (Addr × Obj)} {σ : List (Option V)} {H H' : Hp} {s : Shared} {h' : Heap}
theorem Cx.Ok.nofr (ok : X.Ok) {b : Addr} {o : Obj} (e : X.base.get? b = some o) : b ∉ X.fs := fun hb => by
  have := (ok.funs.mem hb).1
  rw [e] at this; cases this
theorem Inv.bs (I : Inv X pins σ H s) : ∀ b o, X.base.get? b = some o → s.heap.get? b = some o ∧ H b = none := fun b o e =>
  ⟨I.base.keep b o (I.ok.bs b o e).1 (I.ok.bs b o e).2 (I.ok.nofr e) (I.ok.noex b o e), I.base.free b o (I.ok.bs b o e).1 (I.ok.bs b o e).2 (I.ok.noex b o e)⟩
theorem Inv.bk (I : Inv X pins σ H s) : ∀ b o, X.base.get? b = some o → s.heap.get? b = some o := fun b o e => (I.bs b o e).1
theorem Inv.mod (I : Inv X pins σ H s) : Mod X.K X.mg X.base := I.ok.mod
theorem Inv.kIn (I : Inv X pins σ H s) : X.K.In s.heap := I.ok.mod.kin.keeps I.bk
theorem Inv.lt (I : Inv X pins σ H s) : X.env.locals < s.heap.objs.size := let ⟨_, hn, _⟩ := I.loc; hn.lt
theorem Inv.sz (I : Inv X pins σ H s) : X.s₀.heap.objs.size ≤ s.heap.objs.size := Nat.le_trans I.ok.above (Nat.le_of_lt I.lt)
theorem Inv.nofs (I : Inv X pins σ H s) {a : Addr} (h : s.heap.objs.size ≤ a) : a ∉ X.fs := fun hb => by
  obtain ⟨_, o, ho, _⟩ := I.ok.funs.mem hb
  exact absurd (Nat.lt_of_lt_of_le (Heap.lt_size ho) (Nat.le_trans I.sz h)) (Nat.lt_irrefl _)
theorem Inv.cne (I : Inv X pins σ H s) : ∀ x c, X.env.cells.lookup x = some c → c ≠ X.env.locals := fun x c e z => by
  obtain ⟨v, o, ho, hd⟩ := I.cell x c e
  obtain ⟨m, ⟨o', es, ep, ho', hd', _⟩, _⟩ := I.loc
  rw [z, ho'] at ho; cases ho; rw [hd'] at hd; cases hd
theorem Inv.funs (I : Inv X pins σ H s) : s.heap.FunFrames X.base X.outer := by
  have all : ∀ (l : List Env), (∀ b ∈ frs l, b ∈ X.fs) → X.s₀.heap.FunFrames X.base l → s.heap.FunFrames X.base l := by
    intro l
    induction l with
    | nil => intro _ _; trivial
    | cons env r ih =>
      intro hs hl
      obtain ⟨hk, ⟨L, o, hf, hn, ho, hd⟩, hr⟩ := hl
      have hL : L ∈ X.fs := hs L (by unfold frs; rw [List.filterMap_cons, hf]; exact List.mem_cons_self)
      obtain ⟨sl, e⟩ := I.base.slot L o ho (I.ok.frf L hL) hL fun z => I.ok.exfs L z hL
      exact ⟨hk, ⟨L, _, hf, hn, e, hd⟩, ih (fun b hb => hs b (by unfold frs; rw [List.filterMap_cons, hf]; exact List.mem_cons_of_mem _ hb)) hr⟩
  exact all X.outer (fun _ hb => hb) I.ok.funs
theorem Inv.stack (I : Inv X pins σ H s) : s.heap.FunFrames X.base X.stack := by
  rcases I.ok.stk with e | ⟨e, hf⟩
  · rw [e]; exact I.funs
  · rw [e]
    obtain ⟨m, hn, _⟩ := I.loc
    refine .cons (by rw [I.ok.kind]; decide) hf hn ?_ I.funs
    exact Heap.get?_none_of_le (Nat.le_trans I.ok.bsz I.ok.above)
theorem Inv.stkSub (I : Inv X pins σ H s) : ∀ b ∈ frs X.stack, b ∈ X.env.locals :: X.fs := fun b hb => by
  rcases I.ok.stk with e | ⟨e, hf⟩
  · rw [e] at hb; exact List.mem_cons_of_mem _ hb
  · rw [e] at hb
    unfold frs at hb
    rw [List.filterMap_cons, hf] at hb
    exact hb
theorem Inv.stkFree (I : Inv X pins σ H s) : ∀ b ∈ frs X.stack, H b = none := fun b hb => by
  rcases List.mem_cons.mp (I.stkSub b hb) with e | hb
  · rw [e]; exact I.free
  · obtain ⟨_, o, ho, _⟩ := I.ok.funs.mem hb
    exact I.base.free b o ho (I.ok.frf b hb) fun z => I.ok.exfs b z hb
theorem Inv.step {g' : Array GenState} {t' : Nat} {d' : Drawn} {ch : List Addr} (I : Inv X pins σ H s)
    (hch : ∀ b ∈ ch, (b ∈ X.ex ∨ X.s₀.heap.objs.size ≤ b) ∧ b ≠ X.env.locals ∧ (∀ x c, X.env.cells.lookup x = some c → c ≠ b) ∧ ∀ p ∈ X.pn ++ pins, p.1 ≠ b)
    (keep : ∀ b o, b ≠ X.env.locals → b ∉ X.fs → b ∉ ch → s.heap.get? b = some o → H b = none → h'.get? b = some o)
    (slot : ∀ b o, b ≠ X.env.locals → b ∈ X.fs → b ∉ ch → s.heap.get? b = some o → H b = none → ∃ sl, h'.get? b = some { o with slots := sl }) (free : ∀ b o, b ∉ ch → s.heap.get? b = some o → H b = none → H' b = none)
    (there : ∀ b o, b ∉ ch → s.heap.get? b = some o → ∃ o', h'.get? b = some o')
    (tups : ∀ b xs, H b = some (.tup xs) → H' b = some (.tup xs)) (frzs : ∀ b o u, H b = some (.frz o u) → H' b = some (.frz o u)) (tbls : ∀ b ps, H b = some (.tbl ps) → ∃ more, H' b = some (.tbl (ps ++ more)))
    (ns : ∀ m, s.heap.Ns X.env.locals m → h'.Ns X.env.locals m) (hok : HOk X.prog X.w H' h') (hg : AllBare g') :
    Inv X pins σ H' { s with heap := h', gens := g', drawn := d', toks := t' } := by
  have neL : ∀ b o, X.s₀.heap.get? b = some o → b ≠ X.env.locals := fun b o e => Nat.ne_of_lt (Nat.lt_of_lt_of_le (Heap.lt_size e) I.ok.above)
  have neC : ∀ b o, X.s₀.heap.get? b = some o → b ∉ X.ex → b ∉ ch := fun b o e hx hb => by
    rcases (hch b hb).1 with z | z
    · exact hx z
    · exact absurd (Nat.lt_of_lt_of_le (Heap.lt_size e) z) (Nat.lt_irrefl _)
  have cellK : ∀ x c, X.env.cells.lookup x = some c → ∀ v, s.heap.IsCell c v → h'.IsCell c v := fun x c e v zz1 => el2 zz1 fun o ho hd => by
    have nch : c ∉ ch := fun z => (hch c z).2.2.1 x c e rfl
    by_cases hc : c ∈ X.fs
    · obtain ⟨sl, q⟩ := slot c o (I.cne x c e) hc nch ho (I.freeC x c e)
      exact ⟨_, q, hd⟩
    · exact ⟨o, keep c o (I.cne x c e) hc nch ho (I.freeC x c e), hd⟩
  refine ⟨I.ok, I.os, hg, ⟨fun b o e n hb hx => ?_, fun b o e n hb hx => ?_, fun b o e n hx => ?_, fun b o e hx => ?_, fun b xs e => tups b xs (I.base.tups b xs e), fun b o xs e => frzs b o xs (I.base.frzs b o xs e), fun b ps e => ?_⟩, ?_, fun x c e => ?_, ?_, fun x c e => ?_, fun p hp => ?_, hok, I.len⟩
  · exact keep b o (neL b o e) hb (neC b o e hx) (I.base.keep b o e n hb hx) (I.base.free b o e n hx)
  · obtain ⟨sl, e1⟩ := I.base.slot b o e n hb hx
    obtain ⟨sl', e2⟩ := slot b _ (neL b o e) hb (neC b o e hx) e1 (I.base.free b o e n hx)
    exact ⟨sl', e2⟩
  · obtain ⟨o', e1⟩ := I.base.there b o e hx
    exact free b o' (neC b o e hx) e1 (I.base.free b o e n hx)
  · obtain ⟨o', e1⟩ := I.base.there b o e hx
    exact there b o' (neC b o e hx) e1
  · obtain ⟨m1, e1⟩ := I.base.tbls b ps e
    obtain ⟨m2, e2⟩ := tbls b _ e1
    exact ⟨m1 ++ m2, by rw [e2, Array.append_assoc]⟩
  · obtain ⟨m, hn, hl⟩ := I.loc
    refine ⟨m, ns m hn, fun i x v e1 e2 e3 => ?_⟩
    obtain ⟨u, r, l⟩ := hl i x v e1 e2 e3
    refine ⟨u, r, ?_⟩
    rcases l with l | ⟨k, c, e, z⟩
    · exact .inl l
    · exact .inr ⟨k, c, e, cellK x c e _ z⟩
  · obtain ⟨v, z⟩ := I.cell x c e
    exact ⟨v, cellK x c e v z⟩
  · obtain ⟨m, ⟨o, _, _, ho, _⟩, _⟩ := I.loc
    exact free _ o (fun z => (hch _ z).2.1 rfl) ho I.free
  · obtain ⟨v, o, ho, hd⟩ := I.cell x c e
    exact free c o (fun z => (hch c z).2.2.1 x c e rfl) ho (I.freeC x c e)
  · obtain ⟨e, n, ne, nf, d⟩ := I.pin p hp
    have nch : p.1 ∉ ch := fun z => (hch p.1 z).2.2.2 p hp rfl
    exact ⟨keep p.1 p.2 ne nf nch e n, free p.1 p.2 nch e n, ne, nf, d⟩
theorem Inv.un {t' : Nat} (I : Inv X pins σ H s) (u : Un X.fs [] H H' s.heap h') (hok : HOk X.prog X.w H' h') : Inv X pins σ H' { s with heap := h', toks := t' } := by
  obtain ⟨m, ⟨o, es, ep, ho, r⟩, _⟩ := id I.loc
  obtain ⟨sl, hL⟩ := u.any ho I.free (by simp)
  exact I.step (g' := s.gens) (d' := s.drawn) (ch := []) (fun _ z => nomatch z) (fun b o _ hb _ e n => u.keep b o e n hb (by simp)) (fun b o _ hb _ e n => u.slot b o e n hb (by simp)) (fun b o _ e n => u.free b o e n (by simp)) (fun b o _ e => u.there b o e (by simp)) u.tups u.frzs u.tbls (fun m' hm => by
    obtain ⟨o', es', ep', ho', r'⟩ := hm
    rw [ho] at ho'; cases ho'
    exact ⟨_, es', ep', hL, r'⟩) hok I.bare
theorem Inv.call {g' : Array GenState} {t' : Nat} {d' : Drawn} {ch : List Addr} (I : Inv X pins σ H s) (u : Un (frs X.stack) ch H H' s.heap h') (hok : HOk X.prog X.w H' h') (hg : AllBare g')
    (hch : ∀ b ∈ ch, (b ∈ X.ex ∨ X.s₀.heap.objs.size ≤ b) ∧ b ≠ X.env.locals ∧ (∀ x c, X.env.cells.lookup x = some c → c ≠ b) ∧ ∀ p ∈ X.pn ++ pins, p.1 ≠ b) :
    Inv X pins σ H' { s with heap := h', gens := g', drawn := d', toks := t' } := by
  obtain ⟨m, ⟨o, es, ep, ho, r⟩, _⟩ := id I.loc
  obtain ⟨sl, hL⟩ := u.any ho I.free fun z => (hch _ z).2.1 rfl
  exact I.step (ch := ch) hch (fun b o hL hb hc e n => u.keep b o e n (fun z => (List.mem_cons.mp (I.stkSub b z)).elim hL hb) hc) (fun b o _ _ hc e n => u.any e n hc) (fun b o hc e n => u.free b o e n hc) (fun b o hc e => u.there b o e hc) u.tups u.frzs u.tbls (fun m' hm => by
    obtain ⟨o', es', ep', ho', r'⟩ := hm
    rw [ho] at ho'; cases ho'
    exact ⟨_, es', ep', hL, r'⟩) hok hg
theorem Inv.turned {t' : Nat} {it : Addr} (I : Inv X pins σ H s) (k : ∀ b o, b ≠ it → s.heap.get? b = some o → h'.get? b = some o) (hn : H it = none) (hL : it ≠ X.env.locals)
    (h1 : it ∈ X.ex ∨ X.s₀.heap.objs.size ≤ it) (h2 : ∀ x c, X.env.cells.lookup x = some c → c ≠ it) (h3 : ∀ p ∈ X.pn ++ pins, p.1 ≠ it) : Inv X pins σ H { s with heap := h', toks := t' } := by
  have nit : ∀ b u, H b = some u → b ≠ it := fun b u e z => by rw [z, hn] at e; cases e
  refine I.step (g' := s.gens) (d' := s.drawn) (ch := [it]) (fun b hb => ?_) (fun b o _ _ hc e _ => k b o (fun z => hc (by simp [z])) e) (fun b o _ _ hc e _ => ⟨o.slots, k b o (fun z => hc (by simp [z])) e⟩) (fun _ _ _ _ n => n)
    (fun b o hc e => ⟨o, k b o (fun z => hc (by simp [z])) e⟩) (fun _ _ e => e) (fun _ _ _ e => e) (fun b ps e => ⟨#[], by rw [e]; simp⟩) (fun m hm => ?_) (fun b u e => ?_) I.bare
  · have e : b = it := by simpa using hb
    subst e
    exact ⟨h1, hL, h2, h3⟩
  · obtain ⟨o, es, ep, ho, r⟩ := hm
    exact ⟨o, es, ep, k _ o (Ne.symm hL) ho, r⟩
  · refine (I.hok b u e).stay (fun c v hc q => k c v ?_ q) (fun _ q => q) fun _ _ q => q
    rcases hc with z | z
    · rw [z]; exact nit b u e
    · exact nit c _ z
theorem Inv.tok (I : Inv X pins σ H s) (t : Nat) : Inv X pins σ H { s with toks := t } := I.un (h' := s.heap) (t' := t) Un.refl I.hok
theorem Inv.kept {t' : Nat} (I : Inv X pins σ H s) (k : ∀ b u, s.heap.get? b = some u → h'.get? b = some u) : Inv X pins σ H { s with heap := h', toks := t' } := I.un (Un.kept k) (I.hok.kept k)
theorem Inv.laid {a : Addr} {o : HO} {t' : Nat} (I : Inv X pins σ H s) (k : ∀ b u, s.heap.get? b = some u → h'.get? b = some u) (hp : s.heap.objs.size ≤ a) (new : ObjOk X.prog X.w (upd H a o) h' a o) :
    Inv X pins σ (upd H a o) { s with heap := h', toks := t' } := I.un (Un.laid k hp (I.hok.fresh hp)) (I.hok.laid k hp new)
theorem Inv.write {x e : Addr} {o : HO} {t' : Nat} (I : Inv X pins σ H s) (mu : Mut (H x)) (he : e = x ∨ H e = some (.own x)) (k : ∀ b u, b ≠ e → s.heap.get? b = some u → h'.get? b = some u) (heo : ∃ u, h'.get? e = some u)
    (new : ObjOk X.prog X.w (upd H x o) h' x o) : Inv X pins σ (upd H x o) { s with heap := h', toks := t' } := I.un (Un.write mu he k heo) (I.hok.write mu he k heo new)
theorem Inv.weak {σ' : List (Option V)} (I : Inv X pins σ H s) (hl : σ'.length = σ.length) (w : ∀ (i : Nat) v, σ'[i]? = some (some v) → σ[i]? = some (some v)) : Inv X pins σ' H s :=
  ⟨I.ok, I.os, I.bare, I.base, let ⟨m, hn, hl'⟩ := I.loc; ⟨m, hn, fun i x v e1 e2 e3 => hl' i x v e1 (w i v e2) e3⟩, I.cell, I.free, I.freeC, I.pin, I.hok, hl.trans I.len⟩
theorem Inv.pins_of {pins' : List (Addr × Obj)} (I : Inv X pins σ H s) (h : ∀ p ∈ pins', s.heap.get? p.1 = some p.2 ∧ H p.1 = none ∧ p.1 ≠ X.env.locals ∧ p.1 ∉ X.fs ∧ ∀ v, p.2.data ≠ .cell v) : Inv X pins' σ H s :=
  ⟨I.ok, I.os, I.bare, I.base, I.loc, I.cell, I.free, I.freeC, fun p hp => (List.mem_append.mp hp).elim (fun z => I.pin p (List.mem_append_left _ z)) (h p), I.hok, I.len⟩
theorem nodup_ix {N : List Str} (hN : N.Nodup) {i j : Nat} {x : Str} (a : N[i]? = some x) (b : N[j]? = some x) : i = j := by
  obtain ⟨h1, e1⟩ := List.getElem?_eq_some_iff.mp a
  obtain ⟨h2, e2⟩ := List.getElem?_eq_some_iff.mp b
  exact (List.getElem_inj hN).mp (e1.trans e2.symm)
theorem store_ok2 {M : Model} {A : Around} {E : Value → Shared → Prop} {i : Nat} {x : Str} {v : V} {u : Value} {Q : Unit → Shared → Prop} (I : Inv X pins σ H s) (hN : X.N.Nodup) (hi : X.N[i]? = some x) (hx : Loc X.env.scope x) (r : RelV v u)
    (h : ∀ s', Inv X pins (σ.set i (some v)) H s' → (∃ a, Heap.SameBut a s.heap s'.heap ∧ (a = X.env.locals ∨ X.env.cells.lookup x = some a)) → Q () s') (hf : X.fn x = true ∨ X.env.scope.names.lookup x = some .local := by first | exact .inl rfl | exact .inr rfl | assumption) : wpAny M A (storeName X.env x u) Q E s := by
  obtain ⟨m, hn, hl⟩ := id I.loc
  have hcls : (X.env.scope.kind == .class || (X.env.scope.kind == .module && X.env.locals != X.env.globals)) = false := by rw [I.ok.kind]; rfl
  have hiσ : i < σ.length := by rw [I.len]; exact (List.getElem?_eq_some_iff.mp hi).1
  have cne := I.cne
  have tracked : ∀ {a : Addr} {h' : Heap}, (∃ o, s.heap.get? a = some o ∧ H a = none) → Heap.SameBut a s.heap h' → HOk X.prog X.w H h' := fun {a h'} ha hs b ob e => by
    obtain ⟨_, _, hfree⟩ := ha
    refine (I.hok b ob e).stay (fun c w' hc q => (hs.2 c ?_).trans q) (fun _ q => q) fun _ _ q => q
    rintro rfl
    rcases hc with rfl | hc
    · rw [hfree] at e; cases e
    · rw [hfree] at hc; cases hc
  rcases hx with hk | hk
  · refine wpAny_storeName_local hk hn (fun h' hn' hs => ?_) hcls
    obtain ⟨oL, _, _, hoL, _⟩ := id hn
    refine h _ ⟨I.ok, I.os, I.bare, ⟨fun b o e n hb hx => ?_, fun b o e n hb hx => ?_, I.base.free, fun b o e hx => ?_, I.base.tups, I.base.frzs, I.base.tbls⟩, ⟨_, hn', fun j y v' e1 e2 e3 => ?_⟩, fun y c e => ?_, I.free, I.freeC, fun p hp => ?_, tracked ⟨oL, hoL, I.free⟩ hs, by simpa using I.len⟩ ⟨_, hs, .inl rfl⟩
    · exact (hs.2 b (Nat.ne_of_lt (Nat.lt_of_lt_of_le (Heap.lt_size e) I.ok.above))).trans (I.base.keep b o e n hb hx)
    · obtain ⟨sl, e1⟩ := I.base.slot b o e n hb hx
      exact ⟨sl, (hs.2 b (Nat.ne_of_lt (Nat.lt_of_lt_of_le (Heap.lt_size e) I.ok.above))).trans e1⟩
    · obtain ⟨o', e1⟩ := I.base.there b o e hx
      exact ⟨o', (hs.2 b (Nat.ne_of_lt (Nat.lt_of_lt_of_le (Heap.lt_size e) I.ok.above))).trans e1⟩
    · by_cases hj : j = i
      · subst hj
        rw [hi] at e1; cases e1
        rw [List.getElem?_set_self hiσ] at e2
        cases e2
        exact ⟨u, r, .inl ⟨hk, by simp⟩⟩
      · rw [List.getElem?_set_ne (Ne.symm hj)] at e2
        obtain ⟨u', r', q⟩ := hl j y v' e1 e2 e3
        refine ⟨u', r', ?_⟩
        rcases q with ⟨k, e⟩ | ⟨k, c, e, z⟩
        · refine .inl ⟨k, ?_⟩
          have : y ≠ x := fun e => hj (nodup_ix hN e1 (e ▸ hi))
          simp [this, e]
        · exact .inr ⟨k, c, e, z.sameBut hs (cne y c e)⟩
    · obtain ⟨w', z⟩ := I.cell y c e
      exact ⟨w', z.sameBut hs (cne y c e)⟩
    · obtain ⟨e, n, ne, nf, d⟩ := I.pin p hp
      exact ⟨(hs.2 p.1 ne).trans e, n, ne, nf, d⟩
  · have hfn : X.fn x = true := by
      rcases hf with z | z
      · exact z
      · rw [z] at hk; cases hk
    obtain ⟨c, hc⟩ := I.ok.has x (.inl hk)
    obtain ⟨w', z⟩ := I.cell x c hc
    refine wpAny_storeName_cell I.ok.kind hk hc z (fun h' hc' hs => ?_)
    obtain ⟨oc, hoc, hocd⟩ := id z
    refine h { s with heap := h' } ⟨I.ok, I.os, I.bare, ⟨fun b o e n hb hx => ?_, fun b o e n hb hx => ?_, I.base.free, fun b o e hx => ?_, I.base.tups, I.base.frzs, I.base.tbls⟩, ⟨m, hn.sameBut hs (Ne.symm (cne x c hc)), fun j y v' e1 e2 e3 => ?_⟩, fun y c' e => ?_, I.free, I.freeC, fun p hp => ?_, tracked ⟨oc, hoc, I.freeC x c hc⟩ hs, by simpa using I.len⟩ ⟨c, hs, .inr hc⟩
    · exact (hs.2 b (Nat.ne_of_lt (Nat.lt_of_lt_of_le (Heap.lt_size e) (I.ok.cab x c hfn hc)))).trans (I.base.keep b o e n hb hx)
    · obtain ⟨sl, e1⟩ := I.base.slot b o e n hb hx
      exact ⟨sl, (hs.2 b (Nat.ne_of_lt (Nat.lt_of_lt_of_le (Heap.lt_size e) (I.ok.cab x c hfn hc)))).trans e1⟩
    · obtain ⟨o', e1⟩ := I.base.there b o e hx
      exact ⟨o', (hs.2 b (Nat.ne_of_lt (Nat.lt_of_lt_of_le (Heap.lt_size e) (I.ok.cab x c hfn hc)))).trans e1⟩
    · by_cases hj : j = i
      · subst hj
        rw [hi] at e1; cases e1
        rw [List.getElem?_set_self hiσ] at e2
        cases e2
        exact ⟨u, r, .inr ⟨.inl hk, c, hc, hc'⟩⟩
      · rw [List.getElem?_set_ne (Ne.symm hj)] at e2
        obtain ⟨u', r', q⟩ := hl j y v' e1 e2 e3
        refine ⟨u', r', ?_⟩
        rcases q with q | ⟨k, c', e, z'⟩
        · exact .inl q
        · refine .inr ⟨k, c', e, z'.sameBut hs ?_⟩
          rintro rfl
          exact hj (nodup_ix hN e1 (I.ok.inj _ _ _ e hc ▸ hi))
    · by_cases hcc : c' = c
      · subst hcc; exact ⟨_, hc'⟩
      · obtain ⟨w2, z2⟩ := I.cell y c' e
        exact ⟨w2, z2.sameBut hs hcc⟩
    · obtain ⟨e, n, ne, nf, d⟩ := I.pin p hp
      refine ⟨(hs.2 p.1 ?_).trans e, n, ne, nf, d⟩
      intro q
      rw [q, hoc] at e
      have q' : oc = p.2 := Option.some.inj e
      exact d w' (by rw [← q']; exact hocd)
theorem store_ok {M : Model} {A : Around} {E : Value → Shared → Prop} {i : Nat} {x : Str} {v : V} {u : Value} {Q : Unit → Shared → Prop} (I : Inv X pins σ H s) (hN : X.N.Nodup) (hi : X.N[i]? = some x) (hx : Loc X.env.scope x) (r : RelV v u)
    (h : ∀ s', Inv X pins (σ.set i (some v)) H s' → Q () s') (hf : X.fn x = true ∨ X.env.scope.names.lookup x = some .local := by first | exact .inl rfl | exact .inr rfl | assumption) : wpAny M A (storeName X.env x u) Q E s :=
  store_ok2 I hN hi hx r (fun s' I' _ => h s' I') hf
theorem Inv.call' {s' : Shared} {ch : List Addr} (I : Inv X pins σ H s) (ho : s'.os = s.os) (u : Un (frs X.stack) ch H H' s.heap s'.heap) (hok : HOk X.prog X.w H' s'.heap) (hg : AllBare s'.gens)
    (hch : ∀ b ∈ ch, (b ∈ X.ex ∨ X.s₀.heap.objs.size ≤ b) ∧ b ≠ X.env.locals ∧ (∀ x c, X.env.cells.lookup x = some c → c ≠ b) ∧ ∀ p ∈ X.pn ++ pins, p.1 ≠ b) : Inv X pins σ H' s' := by
  obtain ⟨h', g', d', t', o'⟩ := s'
  have e : o' = s.os := ho
  subst e
  exact I.call (g' := g') (t' := t') (d' := d') u hok hg hch
end
abbrev XK := Value → Option Addr → Hp → Prop
abbrev St := List (Option V)
abbrev VK := V → Hp → Prop
abbrev TE := St → Hp → VK → Prop
abbrev TT := St → Hp → (Bool → Hp → Prop) → Prop
abbrev TA := St → Hp → (List V → Hp → Prop) → Prop
structure Ends where
  nx : St → Hp → Prop
  rt : VK
  bk : St → Hp → Prop := fun _ _ => False
  ct : St → Hp → Prop := fun _ _ => False
abbrev TS := Ends → St → Hp → Prop
def EP (X : Cx) (pins : List (Addr × Obj)) (σ : St) (Q : VK) (u : Value) (s' : Shared) : Prop := ∃ v H', Inv X pins σ H' s' ∧ RelV v u ∧ Q v H'
def TP (X : Cx) (pins : List (Addr × Obj)) (σ : St) (Q : Bool → Hp → Prop) (b : Bool) (s' : Shared) : Prop := ∃ H', Inv X pins σ H' s' ∧ Q b H'
def AP (X : Cx) (pins : List (Addr × Obj)) (σ : St) (Q : List V → Hp → Prop) (us : List Value) (s' : Shared) : Prop := ∃ vs H', Inv X pins σ H' s' ∧ Vals vs us ∧ Q vs H'
def SP (X : Cx) (pins : List (Addr × Obj)) (D : Ends) (f : Flow) (s' : Shared) : Prop :=
  match f with
  | .next => ∃ σ' H', Inv X pins σ' H' s' ∧ D.nx σ' H'
  | .brk => ∃ σ' H', Inv X pins σ' H' s' ∧ D.bk σ' H'
  | .cont => ∃ σ' H', Inv X pins σ' H' s' ∧ D.ct σ' H'
  | .ret u => ∃ v σ' H', Inv X pins σ' H' s' ∧ RelV v u ∧ D.rt v H'
def PE (X : Cx) (e : Expr) (t : TE) : Prop :=
  ∀ (pins : List (Addr × Obj)) (s : Shared) (σ : St) (H : Hp) (Q : VK), Inv X pins σ H s → t σ H Q → wpAny (model X.prog X.w) X.A (eval e X.env) (EP X pins σ Q) X.xe s
def PT (X : Cx) (e : Expr) (t : TT) : Prop :=
  ∀ (pins : List (Addr × Obj)) (s : Shared) (σ : St) (H : Hp) (Q : Bool → Hp → Prop), Inv X pins σ H s → t σ H Q → wpAny (model X.prog X.w) X.A (isTrue e X.env (eval e X.env)) (TP X pins σ Q) X.xe s
def PW (X : Cx) (e : Expr) (t : TT) : Prop :=
  ∀ (whole : Sem Value) (pins : List (Addr × Obj)) (s : Shared) (σ : St) (H : Hp) (Q : Bool → Hp → Prop), Inv X pins σ H s → t σ H Q → wpAny (model X.prog X.w) X.A (isTrue e X.env whole) (TP X pins σ Q) X.xe s
theorem PW.pt {X : Cx} {e : Expr} {t : TT} (h : PW X e t) : PT X e t := h _
def PA (X : Cx) (es : List Expr) (t : TA) : Prop :=
  ∀ (pos : Pos) (pins : List (Addr × Obj)) (s : Shared) (σ : St) (H : Hp) (Q : List V → Hp → Prop), Inv X pins σ H s → t σ H Q → wpAny (model X.prog X.w) X.A (spliced (backTo pos (starEach es X.env))) (AP X pins σ Q) X.xe s
def PS (X : Cx) (st : Stmt) (t : TS) : Prop :=
  ∀ (pins : List (Addr × Obj)) (s : Shared) (σ : St) (H : Hp) (D : Ends), Inv X pins σ H s → t D σ H → wpAny (model X.prog X.w) X.A (exec st X.env) (SP X pins D) X.xe s
def PSs (X : Cx) (st : List Stmt) (t : TS) : Prop :=
  ∀ (pins : List (Addr × Obj)) (s : Shared) (σ : St) (H : Hp) (D : Ends), Inv X pins σ H s → t D σ H → wpAny (model X.prog X.w) X.A (execs st X.env) (SP X pins D) X.xe s
theorem thn {α : Type} {t : Sem α} {Q Q' : α → Shared → Prop} {M : Model} {A : Around} {E : Value → Shared → Prop} {s : Shared} (h : wpAny M A t Q E s) (hQ : ∀ a s, Q a s → Q' a s) : wpAny M A t Q' E s := wpAny_mono h hQ fun _ _ x => x
end L2
namespace L2
open PySem PySem.Spec PyProof.Rows
section
variable {X : Cx}
def tVar (i : Nat) : TE := fun σ H Q => ∃ v, σ[i]? = some (some v) ∧ Q v H
def tC (v : V) : TE := fun _ H Q => Q v H
theorem pe_var {i : Nat} {x : Str} {pos : Pos} (hN : X.N[i]? = some x) (hv : Vis X.env.scope x) (hd : (x == ("__debug__" : Str)) = false := by decide) (hcd : (x == ("__classdict__" : Str)) = false := by decide) : PE X (.Name x pos) (tVar i) := by
  intro pins s σ H Q I h
  obtain ⟨v, e, h⟩ := h
  obtain ⟨m, hn, hl⟩ := I.loc
  obtain ⟨u, r, l⟩ := hl i x v hN e hv
  have fin : EP X pins σ Q u s := ⟨v, H, I, r, h⟩
  rcases l with ⟨hk, hm⟩ | ⟨hk, c, hc, hcell⟩
  · exact wpAny_Name (wpAny_loadName_local I.ok.kind hk hn hm fin) hd
  · rcases hk with hk | hk
    · exact wpAny_Name (wpAny_loadName_cell I.ok.kind hk hc hcell fin) hd
    · exact wpAny_Name (wpAny_loadName_free I.ok.kind hk hc hcell fin hcd) hd
theorem pe_int {i j pos} : PE X (.Constant (.int i) j pos) (tC (.int i)) := fun _ _ _ H _ I h => wpAny_Constant_int ⟨.int i, H, I.tok _, ⟨_, rfl⟩, h⟩
theorem pe_bl {b j pos} : PE X (.Constant (.bool b) j pos) (tC (.bl b)) := fun _ _ _ H _ I h => Constant_bool ⟨.bl b, H, I, rfl, h⟩
theorem pe_non {j pos} : PE X (.Constant .none j pos) (tC .non) := fun _ _ _ H _ I h => Constant_none ⟨.non, H, I, rfl, h⟩
theorem pe_str {x j pos} : PE X (.Constant (.str x) j pos) (tC (.str x)) := fun _ _ _ H _ I h => Calls.Constant_str ⟨.str x, H, I.tok _, ⟨_, rfl⟩, h⟩
def Gl (X : Cx) (x : Str) : Prop := X.env.kindOf x = some .globalImplicit
theorem ld_glob {E : Value → Shared → Prop} {pins : List (Addr × Obj)} {s : Shared} {σ : St} {H : Hp} {x : Str} {u : Value} {pos : Pos} {Q : Value → Shared → Prop} (I : Inv X pins σ H s) (hg : Gl X x) (hm : X.mg x = some u) (h : Q u s)
    (hd : (x == ("__debug__" : Str)) = false := by decide) : wpAny (model X.prog X.w) X.A (eval (.Name x pos) X.env) Q E s :=
  Calls.Name_function_global I.ok.kind hg (Calls.loadGlobal_global (by rw [I.ok.glob]; exact I.mod.glob.keeps I.bk) hm h) hd
theorem ld_blt {E : Value → Shared → Prop} {pins : List (Addr × Obj)} {s : Shared} {σ : St} {H : Hp} {x : Str} {u : Value} {pos : Pos} {Q : Value → Shared → Prop} (I : Inv X pins σ H s) (hg : Gl X x) (hm : X.mg x = none) (hv : bootBuiltins x = some u) (h : Q u s)
    (hn : x ≠ "__name__" := by decide) (hd : (x == ("__debug__" : Str)) = false := by decide) : wpAny (model X.prog X.w) X.A (eval (.Name x pos) X.env) Q E s := by
  obtain ⟨mb, h1, h2⟩ := I.mod.blt
  exact Calls.Name_function_global I.ok.kind hg (Calls.loadGlobal_builtin (by rw [I.ok.glob]; exact I.mod.glob.keeps I.bk) hm (by rw [I.ok.blt]; exact h1.keeps I.bk) ((h2 x hn).trans hv) h) hd
theorem pe_glob {x : Str} {v : V} {u : Value} {pos : Pos} (hg : Gl X x) (hm : X.mg x = some u) (r : RelV v u) (hd : (x == ("__debug__" : Str)) = false := by decide) : PE X (.Name x pos) (tC v) :=
  fun _ _ _ H _ I h => ld_glob I hg hm ⟨v, H, I, r, h⟩ hd
theorem pe_bltn {x : Str} {v : V} {u : Value} {pos : Pos} (hg : Gl X x) (hm : X.mg x = none) (hv : bootBuiltins x = some u) (r : RelV v u) (hn : x ≠ "__name__" := by decide) (hd : (x == ("__debug__" : Str)) = false := by decide) : PE X (.Name x pos) (tC v) :=
  fun _ _ _ H _ I h => ld_blt I hg hm hv ⟨v, H, I, r, h⟩ hn hd
variable {a b : Expr} {ta tb : TE} {pos : Pos}
def tB (t : TE) : TT := fun σ H Q => t σ H fun x H1 => ∃ c, x = .bl c ∧ Q c H1
theorem pt_val {e : Expr} {t : TE} (h : PE X e t) (he : ∀ whole, isTrue e X.env whole = (do let v ← whole; standAt e.pos; holding [v] (truthy v)) := by intro _; rfl) : PT X e (tB t) := by
  intro pins s σ H Q I hw
  refine isTrue_plain (thn (h pins s σ H _ I hw) fun v s1 zz7 => el5 zz7 fun x H1 I1 r1 q1 => ?_) (he _)
  obtain ⟨d, rfl, q⟩ := q1
  cases r1
  exact wpAny_truthy_bool ⟨H1, I1, q⟩
variable {tA tB' : TT} {rest : List Expr}
def tAnd (t u : TT) : TT := fun σ H Q => t σ H fun c H1 => if c = true then u σ H1 Q else Q false H1
def tOr (t u : TT) : TT := fun σ H Q => t σ H fun c H1 => if c = true then Q true H1 else u σ H1 Q
def tNot (t : TT) : TT := fun σ H Q => t σ H fun c H1 => Q (!c) H1
theorem pw_and1 (ha : PT X a tA) : PW X (.BoolOp .And [a] pos) tA := by
  intro wh pins s σ H Q I h
  refine isTrue_and (thn (ha pins s σ H Q I h) fun c s1 e => ?_)
  cases c with
  | true => exact isTrue_and_nil e
  | false => exact e
theorem pw_or1 (ha : PT X a tA) : PW X (.BoolOp .Or [a] pos) tA := by
  intro wh pins s σ H Q I h
  refine isTrue_or (thn (ha pins s σ H Q I h) fun c s1 e => ?_)
  cases c with
  | false => exact isTrue_or_nil e
  | true => exact e
theorem pw_and (ha : PT X a tA) (hb : PW X (.BoolOp .And (b :: rest) pos) tB') : PW X (.BoolOp .And (a :: b :: rest) pos) (tAnd tA tB') := by
  intro wh pins s σ H Q I h
  refine isTrue_and (thn (ha pins s σ H _ I h) fun c s1 zz8 => el2 zz8 fun H1 I1 q1 => ?_)
  cases c with
  | true => exact hb wh pins s1 σ H1 Q I1 q1
  | false => exact ⟨H1, I1, q1⟩
theorem pw_or (ha : PT X a tA) (hb : PW X (.BoolOp .Or (b :: rest) pos) tB') : PW X (.BoolOp .Or (a :: b :: rest) pos) (tOr tA tB') := by
  intro wh pins s σ H Q I h
  refine isTrue_or (thn (ha pins s σ H _ I h) fun c s1 zz9 => el2 zz9 fun H1 I1 q1 => ?_)
  cases c with
  | true => exact ⟨H1, I1, q1⟩
  | false => exact hb wh pins s1 σ H1 Q I1 q1
theorem pt_not (ha : PT X a tA) : PT X (.UnaryOp .Not a pos) (tNot tA) := by
  intro pins s σ H Q I h
  exact isTrue_not (ha pins s σ H (fun c H1 => Q (!c) H1) I h)
def tAndV (ta tb : TE) : TE := fun σ H Q => ta σ H fun x H1 => ∃ c, x = .bl c ∧ if c = true then tb σ H1 Q else Q (.bl false) H1
def tOrV (ta tb : TE) : TE := fun σ H Q => ta σ H fun x H1 => ∃ c, x = .bl c ∧ if c = true then Q (.bl true) H1 else tb σ H1 Q
def tNotV (ta : TE) : TE := fun σ H Q => ta σ H fun x H1 => ∃ c, x = .bl c ∧ Q (.bl (!c)) H1
theorem pe_one {op} {t : TE} (h : PE X a t) : PE X (.BoolOp op [a] pos) t := fun pins s σ H Q I hw => BoolOp_one (h pins s σ H Q I hw)
theorem pe_and (ha : PE X a ta) (hb : PE X (.BoolOp .And (b :: rest) pos) tb) : PE X (.BoolOp .And (a :: b :: rest) pos) (tAndV ta tb) := by
  intro pins s σ H Q I h
  refine BoolOp_and (thn (ha pins s σ H _ I h) fun v s1 zz10 => el5 zz10 fun x H1 I1 r1 q1 => ?_)
  obtain ⟨c, rfl, q1⟩ := q1
  cases r1
  refine wpAny_truthy_bool ?_
  cases c with
  | true => exact hb pins s1 σ H1 Q I1 q1
  | false => exact ⟨.bl false, H1, I1, rfl, q1⟩
theorem pe_or (ha : PE X a ta) (hb : PE X (.BoolOp .Or (b :: rest) pos) tb) : PE X (.BoolOp .Or (a :: b :: rest) pos) (tOrV ta tb) := by
  intro pins s σ H Q I h
  refine BoolOp_or (thn (ha pins s σ H _ I h) fun v s1 zz11 => el5 zz11 fun x H1 I1 r1 q1 => ?_)
  obtain ⟨c, rfl, q1⟩ := q1
  cases r1
  refine wpAny_truthy_bool ?_
  cases c with
  | false => exact hb pins s1 σ H1 Q I1 q1
  | true => exact ⟨.bl true, H1, I1, rfl, q1⟩
theorem pe_not (ha : PE X a ta) : PE X (.UnaryOp .Not a pos) (tNotV ta) := by
  intro pins s σ H Q I h
  refine UnaryOp_ (thn (ha pins s σ H _ I h) fun v s1 zz12 => el5 zz12 fun x H1 I1 r1 q1 => ?_)
  obtain ⟨c, rfl, q1⟩ := q1
  cases r1
  exact not_of (wpAny_truthy_bool ⟨.bl (!c), H1, I1, rfl, q1⟩)
end
end L2
namespace L2
open PySem PySem.Spec PyProof.Rows
def SqL (K : PySem.W.Frag) (H : Hp) (a : Addr) (xs : List V) : Prop :=
  Rd H a (.lst xs) ∨
    ∃ (o : Obj) (its : Array Value) (n : Nat), K.lookup a = some o ∧ o.cls = .type "list" ∧ o.dict = none ∧ o.data = .seq its n ∧ its.size ≤ sizeLine ∧ Vals xs its.toList
def SqT (K : PySem.W.Frag) (H : Hp) (a : Addr) (xs : List V) : Prop :=
  Rd H a (.tup xs) ∨
    ∃ (o : Obj) (its : Array Value) (n : Nat), K.lookup a = some o ∧ o.cls = .type "tuple" ∧ o.data = .seq its n ∧ its.size ≤ sizeLine ∧ Vals xs its.toList
def absV : Value → Option V
  | .none => some .non
  | .bool b => some (.bl b)
  | .int i _ => some (.int i)
  | .str x _ => some (.str x)
  | .bytes b _ => some (.byt b)
  | .float b _ => some (.flt b)
  | .ref a => some (.ref a)
  | .type n => some (.ty n)
  | _ => none
theorem RelV.abs {x : V} {u : Value} (r : RelV x u) : absV u = some x := by
  cases x with
  | non => cases r; rfl
  | bl _ => cases r; rfl
  | int _ => obtain ⟨t, rfl⟩ := r; rfl
  | str _ => obtain ⟨t, rfl⟩ := r; rfl
  | byt _ => obtain ⟨t, rfl⟩ := r; rfl
  | flt _ => obtain ⟨t, rfl⟩ := r; rfl
  | ref _ => cases r; rfl
  | ty _ => cases r; rfl
theorem RelV.inj {x y : V} {u : Value} (r : RelV x u) (q : RelV y u) : x = y := Option.some.inj (r.abs.symm.trans q.abs)
theorem Vals.inj {xs ys : List V} {us : List Value} (h : Vals xs us) (k : Vals ys us) : xs = ys := by
  induction h generalizing ys with
  | nil => cases k; rfl
  | cons r t ih =>
    cases k with
    | cons r' t' => rw [r.inj r', ih t']
section
variable {X : Cx} {pins : List (Addr × Obj)} {σ : St} {H : Hp} {s : Shared} {a : Addr} {xs ys : List V}
theorem SqL.of {K : PySem.W.Frag} (h : H a = some (.lst xs)) : SqL K H a xs := .inl (.inl h)
theorem SqT.of {K : PySem.W.Frag} (h : H a = some (.tup xs)) : SqT K H a xs := .inl (.inl h)
theorem Inv.list (I : Inv X pins σ H s) (h : SqL X.K H a xs) : ∃ its : List Value, Vals xs its ∧ PlainL s.heap a its.toArray ∧ xs.length ≤ sizeLine := by
  rcases h with h | ⟨o, its, n, hk, hc, hd, hs, hz, r⟩
  · obtain ⟨z, its, n, r, e⟩ := h.ok I.hok
    exact ⟨its, r, ⟨_, n, e, rfl, rfl, rfl⟩, z⟩
  · refine ⟨its.toList, r, ⟨o, n, I.kIn a o hk, hc, hd, by simpa using hs⟩, ?_⟩
    have e := r.length
    simp only [Array.length_toList] at e
    lia
theorem Inv.tuple (I : Inv X pins σ H s) (h : SqT X.K H a xs) : ∃ its : List Value, Vals xs its ∧ IsTup s.heap a its.toArray ∧ xs.length ≤ sizeLine := by
  rcases h with h | ⟨o, its, n, hk, hc, hs, hz, r⟩
  · obtain ⟨z, its, r, p⟩ := h.ok I.hok
    exact ⟨its, r, p, z⟩
  · refine ⟨its.toList, r, ⟨o, I.kIn a o hk, hc, n, by simpa using hs⟩, ?_⟩
    have e := r.length
    simp only [Array.length_toList] at e
    lia
theorem Inv.list_inj (I : Inv X pins σ H s) (h : SqL X.K H a xs) (h' : SqL X.K H a ys) : xs = ys := by
  obtain ⟨its, r, ⟨o, n, e, _, _, d⟩, _⟩ := I.list h
  obtain ⟨its', r', ⟨o', n', e', _, _, d'⟩, _⟩ := I.list h'
  rw [e] at e'; cases e'
  rw [d] at d'
  injection d' with d1 _
  have : its = its' := by simpa using congrArg Array.toList d1
  subst this
  exact r.inj r'
end
abbrev Cx.wish (X : Cx) (E : Value → Shared → Prop) : Cx := { X with xe := E }
abbrev Cx.nox (X : Cx) : Cx := X.wish fun _ _ => False
theorem Cx.Ok.wish {X : Cx} (ok : X.Ok) (E : Value → Shared → Prop) : (X.wish E).Ok :=
  ⟨ok.mod, ok.kind, ok.glob, ok.blt, ok.above, ok.inj, ok.has, ok.cab, ok.hd, ok.frames, ok.stk, ok.exf, ok.bs, ok.bsz, ok.noex, ok.exfs, ok.funs, ok.frf⟩
theorem Cx.Ok.unwish {X : Cx} {E : Value → Shared → Prop} (ok : (X.wish E).Ok) : X.Ok :=
  ⟨ok.mod, ok.kind, ok.glob, ok.blt, ok.above, ok.inj, ok.has, ok.cab, ok.hd, ok.frames, ok.stk, ok.exf, ok.bs, ok.bsz, ok.noex, ok.exfs, ok.funs, ok.frf⟩
section
variable {X : Cx} {pins : List (Addr × Obj)} {σ : St} {H : Hp} {s : Shared} {E : Value → Shared → Prop}
theorem Inv.wish (I : Inv X pins σ H s) (E : Value → Shared → Prop) : Inv (X.wish E) pins σ H s := ⟨I.ok.wish E, I.os, I.bare, I.base, I.loc, I.cell, I.free, I.freeC, I.pin, I.hok, I.len⟩
theorem Inv.unwish (I : Inv (X.wish E) pins σ H s) : Inv X pins σ H s := ⟨I.ok.unwish, I.os, I.bare, I.base, I.loc, I.cell, I.free, I.freeC, I.pin, I.hok, I.len⟩
theorem SP.unwish {D : Ends} {f : Flow} {s' : Shared} (h : SP (X.wish E) pins D f s') : SP X pins D f s' := by
  cases f with
  | next => obtain ⟨σ', H', I, q⟩ := h; exact ⟨σ', H', I.unwish, q⟩
  | brk => obtain ⟨σ', H', I, q⟩ := h; exact ⟨σ', H', I.unwish, q⟩
  | cont => obtain ⟨σ', H', I, q⟩ := h; exact ⟨σ', H', I.unwish, q⟩
  | ret u => obtain ⟨v, σ', H', I, r, q⟩ := h; exact ⟨v, σ', H', I.unwish, r, q⟩
theorem PSs.nox {st : List Stmt} {t : TS} (h : PSs X.nox st t) : PSs X st t := fun pins s σ H D I hw =>
  wpAny_mono (h pins s σ H D (I.wish _) hw) (fun _ _ q => q.unwish) fun _ _ z => False.elim z
end
section
variable {X : Cx} {st : Stmt} {rest : List Stmt} {t u : TS} {e : Expr} {te : TE} {pos : Pos}
def tNext : TS := fun D σ H => D.nx σ H
def tSeq (t u : TS) : TS := fun D σ H => t { D with nx := u D } σ H
theorem pss_nil : PSs X [] tNext := fun _ _ σ H _ I h => wpAny_execs_nil ⟨σ, H, I, h⟩
theorem pss_cons (h1 : PS X st t) (h2 : PSs X rest u) : PSs X (st :: rest) (tSeq t u) := by
  intro pins s σ H D I h
  refine wpAny_execs_cons (thn (h1 pins s σ H { D with nx := u D } I h) fun f s1 q => ?_)
  cases f with
  | next =>
    obtain ⟨σ', H', I', q⟩ := q
    exact h2 pins s1 σ' H' D I' q
  | ret v => exact q
  | brk => exact q
  | cont => exact q
theorem pss_one (h1 : PS X st t) : PSs X [st] t := by
  intro pins s σ H D I h
  refine wpAny_execs_cons (thn (h1 pins s σ H D I h) fun f s1 q => ?_)
  cases f with
  | next => exact wpAny_execs_nil q
  | ret v => exact q
  | brk => exact q
  | cont => exact q
theorem Inv.quiet {pins : List (Addr × Obj)} {σ : St} {H : Hp} {s : Shared} (I : Inv X pins σ H s) : interactive X.env = false := by simp [interactive, I.ok.kind]
def tDrop (te : TE) : TS := fun D σ H => te σ H fun _ H1 => D.nx σ H1
theorem ps_expr (he : PE X e te) (hs : swapsWith e none pos.line X.env = pure false := by rfl) : PS X (.Expr e pos) (tDrop te) := by
  intro pins s σ H D I h
  exact wpAny_Expr_any (thn (he pins s σ H _ I h) fun v s1 zz20 => el5 zz20 fun x H1 I1 r1 q1 => ⟨σ, H1, I1, q1⟩) I.quiet hs
def tRet (te : TE) : TS := fun D σ H => te σ H D.rt
theorem ps_ret (he : PE X e te) : PS X (.Return (some e) pos) (tRet te) := by
  intro pins s σ H D I h
  exact wpAny_Return_some (thn (he pins s σ H _ I h) fun v s1 zz21 => el5 zz21 fun x H1 I1 r1 q1 => ⟨x, σ, H1, I1, r1, q1⟩)
def tIfS (c : TT) (t u : TS) : TS := fun D σ H => c σ H fun b H1 => if b = true then t D σ H1 else u D σ H1
theorem ps_if {c : Expr} {a b : List Stmt} {tc : TT} (hc : PT X c tc) (ha : PSs X a t) (hb : PSs X b u) : PS X (.If c a b pos) (tIfS tc t u) := by
  intro pins s σ H D I h
  refine wpAny_If (thn (hc pins s σ H _ I h) fun d s1 zz22 => el2 zz22 fun H1 I1 q1 => ?_)
  cases d with
  | true => exact ha pins s1 σ H1 D I1 q1
  | false => exact hb pins s1 σ H1 D I1 q1
end
abbrev TG := V → St → Hp → (St → Hp → Prop) → Prop
abbrev TGs := List V → St → Hp → (St → Hp → Prop) → Prop
def PG (X : Cx) (target : Expr) (t : TG) : Prop :=
  ∀ (pins : List (Addr × Obj)) (s : Shared) (σ : St) (H : Hp) (v : V) (u : Value) (Q : St → Hp → Prop), Inv X pins σ H s → RelV v u → t v σ H Q →
    wpAny (model X.prog X.w) X.A (assign target X.env u) (fun _ s' => ∃ σ' H', Inv X pins σ' H' s' ∧ Q σ' H') X.xe s
def PGs (X : Cx) (ts : List Expr) (t : TGs) : Prop :=
  ∀ (pins : List (Addr × Obj)) (s : Shared) (σ : St) (H : Hp) (vs : List V) (us : List Value) (Q : St → Hp → Prop), Inv X pins σ H s → Vals vs us → t vs σ H Q →
    wpAny (model X.prog X.w) X.A (assignInOrder ((assignEach ts X.env).map (·.2)) us) (fun _ s' => ∃ σ' H', Inv X pins σ' H' s' ∧ Q σ' H') X.xe s
abbrev TSet := V → V → V → Hp → (Hp → Prop) → Prop
def PSet (X : Cx) (t : TSet) : Prop :=
  ∀ (pins : List (Addr × Obj)) (s : Shared) (σ : St) (H : Hp) (o i v : V) (ov iv u : Value) (Q : Hp → Prop), Inv X pins σ H s → RelV o ov → RelV i iv → RelV v u → t o i v H Q →
    wpAny (model X.prog X.w) X.A (setItem ov iv u) (fun _ s' => ∃ H', Inv X pins σ H' s' ∧ Q H') X.xe s
abbrev TIp := V → V → Hp → VK → Prop
def PIp (X : Cx) (op : Operator) (t : TIp) : Prop :=
  ∀ (pins : List (Addr × Obj)) (s : Shared) (σ : St) (H : Hp) (x y : V) (v u : Value) (Q : VK), Inv X pins σ H s → RelV x v → RelV y u → t x y H Q →
    wpAny (model X.prog X.w) X.A (inplaceOp op v u) (EP X pins σ Q) X.xe s
section
variable {X : Cx} {pos : Pos}
def gName (i : Nat) : TG := fun v σ H Q => Q (σ.set i (some v)) H
theorem pg_name {i : Nat} {x : Str} (hN : X.N.Nodup) (hi : X.N[i]? = some x) (hx : Loc X.env.scope x) (hf : X.fn x = true ∨ X.env.scope.names.lookup x = some .local := by first | exact .inl rfl | exact .inr rfl | assumption) : PG X (.Name x pos) (gName i) := by
  intro pins s σ H v u Q I r h
  exact wpAny_assign_Name (store_ok I hN hi hx r (fun s' I' => ⟨_, H, I', h⟩) hf)
def gNil : TGs := fun vs σ H Q => vs = [] ∧ Q σ H
def gCons (t : TG) (u : TGs) : TGs := fun vs σ H Q => ∃ v r, vs = v :: r ∧ t v σ H fun σ' H' => u r σ' H' Q
theorem pgs_nil : PGs X [] gNil := by
  intro pins s σ H vs us Q I r h
  obtain ⟨e, h⟩ := h
  subst e
  cases r
  exact assignInOrder_nil ⟨σ, H, I, h⟩
theorem pgs_cons {e : Expr} {es : List Expr} {t : TG} {u : TGs} (h1 : PG X e t) (h2 : PGs X es u)
    (hs : (assignEach (e :: es) X.env).map (·.2) = assign e X.env :: (assignEach es X.env).map (·.2) := by rfl) : PGs X (e :: es) (gCons t u) := by
  intro pins s σ H vs us Q I r h
  obtain ⟨v, vr, e1, h⟩ := h
  subst e1
  cases r with
  | cons r rr =>
    rw [hs]
    refine assignInOrder_cons (thn (h1 pins s σ H _ _ _ I r h) fun _ s1 zz23 => zz23.elim fun σ1 zz24 => zz24.elim fun H1 zz25 => zz25.elim fun I1 q1 => ?_)
    exact h2 pins s1 σ1 H1 _ _ Q I1 rr q1
def gTup (K : PySem.W.Frag) (n : Nat) (t : TGs) : TG := fun v σ H Q => ∃ a xs, v = .ref a ∧ SqT K H a xs ∧ xs.length = n ∧ t xs σ H Q
theorem pg_tup {es : List Expr} {k : Nat} {t : TGs} {n : Nat} (hc : X.calm = true) (h : PGs X es t)
    (hn : (assignEach es X.env).length = n := by rfl) (hst : (assignEach es X.env).findIdx? (·.1) = none := by rfl) : PG X (.Tuple es k pos) (gTup X.K n t) := by
  intro pins s σ H v u Q I r hw
  obtain ⟨a, xs, e1, hq, hl, hw⟩ := hw
  subst e1
  cases r
  obtain ⟨its, rv, ht, hz⟩ := I.tuple hq
  refine assign_Tuple_tuple (I.ok.hd hc) ht (by simp [hn, ← hl, rv.length]) hst fun h' hx => ?_
  have I1 : Inv X pins σ H { s with heap := h' } := I.kept (t' := s.toks) fun b o e => hx b o (Nat.ne_of_lt (Heap.lt_size e)) e
  exact h pins _ σ H xs _ Q I1 (by simpa using rv) hw
def gSub (to ti : TE) (t : TSet) : TG := fun v σ H Q => to σ H fun o H1 => ti σ H1 fun i H2 => t o i v H2 fun H3 => Q σ H3
theorem pg_sub {o i : Expr} {to ti : TE} {t : TSet} (ho : PE X o to) (hi : PE X i ti) (hs : PSet X t)
    (ha : ∀ v, assign (.Subscript o i pos) X.env v = (do
      let ov ← holding [v] (eval o X.env)
      let iv ← holding [v, ov] (eval i X.env)
      standAt pos
      holding [v, ov, iv] (setItem ov iv v)
      release [v, ov, iv] []) := by intro _; rfl) : PG X (.Subscript o i pos) (gSub to ti t) := by
  intro pins s σ H v u Q I r h
  rw [ha]
  refine wpAny_bind (wpAny_holding (thn (ho pins s σ H _ I h) fun ov s1 zz26 => el5 zz26 fun x H1 I1 r1 q1 => ?_))
  refine wpAny_bind (wpAny_holding (thn (hi pins s1 σ H1 _ I1 q1) fun iv s2 zz27 => el5 zz27 fun y H2 I2 r2 q2 => ?_))
  refine wpAny_bind (wpAny_standAt (wpAny_bind (wpAny_holding (thn (hs pins s2 σ H2 x y v ov iv u _ I2 r1 r2 r q2) fun _ s3 zz28 => el2 zz28 fun H3 I3 q3 => ?_))))
  exact wpAny_release ⟨σ, H3, I3, q3⟩
def tAsg (te : TE) (g : TG) : TS := fun D σ H => te σ H fun x H1 => g x σ H1 D.nx
theorem ps_asg {tg e : Expr} {te : TE} {g : TG} (he : PE X e te) (hg : PG X tg g) (hs : swapsWithSole [tg] e pos.line X.env = pure false := by rfl) (hw : swappedStores [tg] e X.env = pure none := by rfl)
    (h1 : (assignEach [tg] X.env).map (·.2) = [assign tg X.env] := by rfl) : PS X (.Assign [tg] e pos) (tAsg te g) := by
  intro pins s σ H D I h
  refine wpAny_Assign_stores (thn (he pins s σ H _ I h) fun v s1 zz29 => el5 zz29 fun x H1 I1 r1 q1 => ?_) hs hw
  rw [h1]
  exact thn (hg pins s1 σ H1 x v _ I1 r1 q1) fun _ s2 q => q
theorem ps_set {i : Nat} {x : Str} {e : Expr} {te : TE} {pos' : Pos} (hN : X.N.Nodup) (hi : X.N[i]? = some x) (hx : Loc X.env.scope x) (he : PE X e te) (hs : swapsWith e (some (.Name x pos')) pos.line X.env = pure false := by rfl) (hf : X.fn x = true ∨ X.env.scope.names.lookup x = some .local := by first | exact .inl rfl | exact .inr rfl | assumption) :
    PS X (.Assign [.Name x pos'] e pos) (tAsg te (gName i)) := by
  intro pins s σ H D I h
  refine wpAny_Assign_Name (thn (he pins s σ H _ I h) fun v s1 zz30 => el5 zz30 fun y H1 I1 r1 q1 => ?_) hs
  exact store_ok I1 hN hi hx r1 (fun s2 I2 => ⟨_, H1, I2, q1⟩) hf
def tAugS (to ti te : TE) (tget : V → V → Hp → VK → Prop) (tip : TIp) (tset : TSet) : TS := fun D σ H => to σ H fun o H1 => ti σ H1 fun i H2 => tget o i H2 fun x H3 => te σ H3 fun y H4 => tip x y H4 fun z H5 => tset o i z H5 fun H6 => D.nx σ H6
def PGet (X : Cx) (t : V → V → Hp → VK → Prop) : Prop :=
  ∀ (pins : List (Addr × Obj)) (s : Shared) (σ : St) (H : Hp) (o i : V) (ov iv : Value) (Q : VK), Inv X pins σ H s → RelV o ov → RelV i iv → t o i H Q →
    wpAny (model X.prog X.w) X.A (getItem ov iv) (EP X pins σ Q) X.xe s
theorem ps_augS {o i e : Expr} {to ti te : TE} {tget : V → V → Hp → VK → Prop} {tip : TIp} {tset : TSet} {op : Operator} {tpos : Pos} (ho : PE X o to) (hi : PE X i ti) (hg : PGet X tget) (he : PE X e te) (hp : PIp X op tip) (hs : PSet X tset)
    (ha : ∀ ov iv new, augStore i ov iv new = (do holding [new, ov, iv] (setItem ov iv new); release [new, ov, iv] []; pure .next) := by intros; rfl) : PS X (.AugAssign (.Subscript o i tpos) op e pos) (tAugS to ti te tget tip tset) := by
  intro pins s σ H D I h
  refine wpAny_AugAssign_SubscriptAny (thn (ho pins s σ H _ I h) fun ov s1 zz34 => el5 zz34 fun x1 H1 I1 r1 q1 => ?_) ha
  refine thn (hi pins s1 σ H1 _ I1 q1) fun iv s2 zz35 => el5 zz35 fun x2 H2 I2 r2 q2 => ?_
  refine thn (hg pins s2 σ H2 x1 x2 ov iv _ I2 r1 r2 q2) fun old s3 zz36 => el5 zz36 fun x3 H3 I3 r3 q3 => ?_
  refine thn (he pins s3 σ H3 _ I3 q3) fun v s4 zz37 => el5 zz37 fun x4 H4 I4 r4 q4 => ?_
  refine thn (hp pins s4 σ H4 x3 x4 old v _ I4 r3 r4 q4) fun new s5 zz38 => el5 zz38 fun x5 H5 I5 r5 q5 => ?_
  exact thn (hs pins s5 σ H5 x1 x2 x5 ov iv new _ I5 r1 r2 r5 q5) fun _ s6 zz39 => el2 zz39 fun H6 I6 q6 => ⟨σ, H6, I6, q6⟩
def ipI (f : Int → Int → Int) : TIp := fun x y H Q => ∃ i j, x = .int i ∧ y = .int j ∧ Q (.int (f i j)) H
theorem ip_add : PIp X .Add (ipI fun i j => i + j) := by
  intro pins s σ H x y v u Q I r1 r2 h
  obtain ⟨i, j, e1, e2, q⟩ := h
  subst e1; subst e2
  obtain ⟨t, rfl⟩ := r1
  obtain ⟨t', rfl⟩ := r2
  exact iadd_int ⟨.int _, H, I.tok _, ⟨_, rfl⟩, q⟩
theorem ip_sub : PIp X .Sub (ipI fun i j => i - j) := by
  intro pins s σ H x y v u Q I r1 r2 h
  obtain ⟨i, j, e1, e2, q⟩ := h
  subst e1; subst e2
  obtain ⟨t, rfl⟩ := r1
  obtain ⟨t', rfl⟩ := r2
  exact isub_int ⟨.int _, H, I.tok _, ⟨_, rfl⟩, q⟩
end
section
variable {X : Cx} {pos : Pos}
def tWhile (c : TT) (tb : TS) : TS := fun D σ H => ∃ W : Nat → St → Hp → Prop, (∃ m, W m σ H) ∧ ∀ m σ H, W m σ H →
  c σ H fun b H1 => if b = true then ∃ N : St → Hp → Prop, (∀ σ' H', N σ' H' → ∃ m', m' < m ∧ W m' σ' H') ∧ tb { D with nx := N, ct := N, bk := D.nx } σ H1 else D.nx σ H1
theorem ps_while {c : Expr} {body : List Stmt} {tc : TT} {tb : TS} (hp : PassesOwn (model X.prog X.w) X.A X.env X.xe) (hc : PT X c tc) (hb : PSs X body tb) : PS X (.While c body [] pos) (tWhile tc tb) := by
  intro pins s σ H D I h
  obtain ⟨W, ⟨m0, w0⟩, turn⟩ := h
  refine wpAny_While (codeAny_whileLoop (fun n s' => ∃ σ' H', Inv X pins σ' H' s' ∧ W n σ' H') ?_ m0 ⟨σ, H, I, w0⟩)
  rintro n s1 ⟨σ1, H1, I1, w1⟩
  refine wpAny_passesOwn hp (thn (hc pins s1 σ1 H1 _ I1 (turn n σ1 H1 w1)) fun b s2 zz40 => el2 zz40 fun H2 I2 q2 => ?_)
  cases b with
  | true =>
    obtain ⟨N, hN, q2⟩ := q2
    rw [if_pos rfl]
    refine wpAny_passesOwn hp (thn (hb pins s2 σ1 H2 _ I2 q2) fun f s3 q3 => ?_)
    cases f with
    | next =>
      obtain ⟨σ3, H3, I3, n3⟩ := q3
      obtain ⟨m', hm, w3⟩ := hN σ3 H3 n3
      exact ⟨m', hm, σ3, H3, I3, w3⟩
    | cont =>
      obtain ⟨σ3, H3, I3, n3⟩ := q3
      obtain ⟨m', hm, w3⟩ := hN σ3 H3 n3
      exact ⟨m', hm, σ3, H3, I3, w3⟩
    | brk => exact q3
    | ret v => exact q3
  | false =>
    rw [if_neg Bool.false_ne_true]
    exact wpAny_execs_nil ⟨σ1, H2, I2, q2⟩
end
structure It where
  go : Nat → Hp → Prop
  yld : Nat → Hp → V → Hp → Prop
  stop : Nat → Hp → Prop
def FpOk (X : Cx) (pins : List (Addr × Obj)) (H : Hp) (b : Addr) : Prop :=
  H b = none ∧ b ≠ X.env.locals ∧ b ∉ X.fs ∧ (b ∈ X.ex ∨ X.s₀.heap.objs.size ≤ b) ∧ (∀ x c, X.env.cells.lookup x = some c → c ≠ b) ∧ ∀ p ∈ X.pn ++ pins, p.1 ≠ b
theorem Inv.fpOk {X : Cx} {pins : List (Addr × Obj)} {σ : St} {H H' : Hp} {s : Shared} {b : Addr} (I : Inv X pins σ H s) (hb : s.heap.objs.size ≤ b) (hn : H' b = none) : FpOk X pins H' b := by
  refine ⟨hn, Nat.ne_of_gt (Nat.lt_of_lt_of_le I.lt hb), I.nofs hb, .inr (Nat.le_trans I.sz hb), fun x c e z => ?_, fun p hp z => ?_⟩
  · obtain ⟨v, q⟩ := I.cell x c e
    exact absurd (Nat.lt_of_lt_of_le q.lt (by rw [z]; exact hb)) (Nat.lt_irrefl _)
  · exact absurd (Nat.lt_of_lt_of_le (Heap.lt_size (I.pin p hp).1) (by rw [z]; exact hb)) (Nat.lt_irrefl _)
structure Turn (P : Program) (w : World) (K : PySem.W.Frag) (tg : Expr) (J : It) (fp : List Addr) (it : Addr) (tn : Nat → Heap → Prop) : Prop where
  mem : it ∈ fp
  obj : ∀ i h, tn i h → ∀ b ∈ fp, ∃ o, h.get? b = some o ∧ ∀ v, o.data ≠ .cell v
  keep : ∀ i h h', tn i h → (∀ b ∈ fp, ∀ o, h.get? b = some o → h'.get? b = some o) → tn i h'
  item : ∀ (X : Cx), X.prog = P → X.w = w → X.K = K → X.calm = true → ∀ (i : Nat) (pins : List (Addr × Obj)) (s : Shared) (σ : St) (H : Hp) (E : Value → Shared → Prop), Inv X pins σ H s → (∀ b ∈ fp, FpOk X pins H b) → tn i s.heap → J.go i H →
    wpAny (model P w) X.A (pyNext (.ref it)) (fun r s1 => ∃ u, r = some u ∧
      wpAny (model P w) X.A (letOwnedTupleGo tg (.ref it) u) (fun _ s2 => ∃ x H', Inv X pins σ H' s2 ∧ RelV x u ∧ J.yld i H x H' ∧ tn (i + 1) s2.heap ∧ ∀ b ∈ fp, H' b = none) E s1) E s
  done : ∀ (X : Cx), X.prog = P → X.w = w → X.K = K → X.calm = true → ∀ (i : Nat) (pins : List (Addr × Obj)) (s : Shared) (σ : St) (H : Hp) (E : Value → Shared → Prop), Inv X pins σ H s → (∀ b ∈ fp, FpOk X pins H b) → tn i s.heap → J.stop i H →
    wpAny (model P w) X.A (pyNext (.ref it)) (fun r s1 => r = none ∧ Inv X pins σ H s1) E s
  self : ∀ (A : Around) (i : Nat) (s : Shared) (Q : Value → Shared → Prop) (E : Value → Shared → Prop), tn i s.heap → Q (.ref it) s → wpAny (model P w) A (pyIter (.ref it)) Q E s
abbrev TI := St → Hp → (It → Hp → Prop) → Prop
def PIE (X : Cx) (pins : List (Addr × Obj)) (σ : St) (tg : Expr) (R : It → Hp → Prop) (itv : Value) (s2 : Shared) : Prop :=
  ∃ (it : Addr) (fp : List Addr) (tn : Nat → Heap → Prop) (J : It) (H' : Hp), itv = .ref it ∧ Inv X pins σ H' s2 ∧ Turn X.prog X.w X.K tg J fp it tn ∧ tn 0 s2.heap ∧ (∀ b ∈ fp, FpOk X pins H' b) ∧ R J H'
def PI (X : Cx) (tg iter : Expr) (wi : TI) : Prop :=
  ∀ (pins : List (Addr × Obj)) (s : Shared) (σ : St) (H : Hp) (R : It → Hp → Prop), Inv X pins σ H s → wi σ H R →
    wpAny (model X.prog X.w) X.A (eval iter X.env) (fun v s1 => wpAny (model X.prog X.w) X.A (pyIter v) (PIE X pins σ tg R) X.xe s1) X.xe s
theorem go_of {M : Model} {A : Around} {E : Value → Shared → Prop} {s : Shared} {tg : Expr} {it : Addr} {u : Value} {o : Obj} {n : String} {vs : Array Value} {Q : Unit → Shared → Prop} (ho : s.heap.get? it = some o) (hc : o.cls = .type n) (hd : o.data = .fields vs)
    (hn : ["enumerate", "zip", "dict_itemiterator", "dict_reverseitemiterator", "odict_iterator", "itertools.zip_longest", "itertools.pairwise"].contains n = false) (hQ : Q () s) : wpAny M A (letOwnedTupleGo tg (.ref it) u) Q E s := by
  unfold letOwnedTupleGo
  cases tg <;> first
    | exact wpAny_pure hQ
    | (cases u <;> first
        | exact wpAny_pure hQ
        | (refine wpAny_bind (wpAny_load ho ?_)
           rw [hc, hd]
           show wpAny M A (if (["enumerate", "zip", "dict_itemiterator", "dict_reverseitemiterator", "odict_iterator", "itertools.zip_longest", "itertools.pairwise"].contains n && vs[0]? == some (rawInt _)) = true then _ else _) Q E s
           rw [if_neg (by intro h; rw [hn, Bool.false_and] at h; cases h)]
           exact wpAny_pure hQ))
def Itl (K : PySem.W.Frag) (a : Addr) : It :=
  ⟨fun i H => ∃ xs x, SqL K H a xs ∧ xs[i]? = some x, fun i H x H' => H' = H ∧ ∀ xs, SqL K H a xs → xs[i]? = some x, fun i H => ∃ xs, SqL K H a xs ∧ xs.length ≤ i⟩
def Itr (lo : Int) (n : Nat) : It := ⟨fun i _ => i < n, fun i H x H' => H' = H ∧ x = .int (lo + i), fun i _ => n ≤ i⟩
theorem turn_list {P : Program} {w : World} {K : PySem.W.Frag} {tg : Expr} (a it : Addr) : Turn P w K tg (Itl K a) [it] it (fun i h => h.IsListIter it a i) where
  mem := by simp
  obj := fun i h st b hb => by
    have e : b = it := by simpa using hb
    subst e
    obtain ⟨o, e, c, d⟩ := st
    exact ⟨o, e, fun v z => by rw [d] at z; cases z⟩
  keep := fun i h h' st k => st.at fun o e => k it (by simp) o e
  item := by
    intro X hP hw hK hc i pins s σ H E I hf st hg
    subst hP hw hK
    obtain ⟨xs, x, hq, hx⟩ := hg
    obtain ⟨its, rv, p, hz⟩ := I.list hq
    obtain ⟨u, hu, ru⟩ := rv.get hx
    obtain ⟨f0, f1, f2, f3, f4, f5⟩ := hf it (by simp)
    refine wpAny_pyNext_list_item st p.isList (x := u) (by simpa using hu) fun h' st' sb => ?_
    have I1 : Inv X pins σ H { s with heap := h' } := I.turned (t' := s.toks) (fun b o hb e => (sb.2 b hb).trans e) f0 f1 f3 f4 f5
    obtain ⟨o, e, c, d⟩ := id st'
    exact ⟨u, rfl, go_of (s := { s with heap := h' }) e c d (by decide) ⟨x, H, I1, ru, ⟨rfl, fun ys hy => by rw [I.list_inj hy hq]; exact hx⟩, st', fun b hb => (hf b hb).1⟩⟩
  done := by
    intro X hP hw hK hc i pins s σ H E I hf st hg
    subst hP hw hK
    obtain ⟨xs, hq, hx⟩ := hg
    obtain ⟨its, rv, p, hz⟩ := I.list hq
    obtain ⟨f0, f1, f2, f3, f4, f5⟩ := hf it (by simp)
    have hl := rv.length
    exact wpAny_pyNext_list_end (I.ok.hd hc) st p.isList (by simp; lia) fun h' eb => ⟨rfl, I.turned (t' := s.toks) (fun b o hb e => eb b o hb e) f0 f1 f3 f4 f5⟩
  self := fun _ _ _ _ _ st h => wpAny_pyIter_listiter st h
theorem turn_range {P : Program} {w : World} {K : PySem.W.Frag} {tg : Expr} (it : Addr) (lo : Int) (n : Nat) : Turn P w K tg (Itr lo n) [it] it (fun i h => IsRangeIter h it (lo + (i : Nat) * 1) ((n : Int) - (i : Nat)) 1) where
  mem := by simp
  obj := fun i h st b hb => by
    have e : b = it := by simpa using hb
    subst e
    exact ⟨_, st, fun v z => by
      have z' : Data.fields _ = Data.cell v := z
      cases z'⟩
  keep := fun i h h' st k => k it (by simp) _ st
  item := by
    intro X hP hw hK hc i pins s σ H E I hf st hg
    subst hP hw hK
    obtain ⟨f0, f1, f2, f3, f4, f5⟩ := hf it (by simp)
    have W := Walks.range (prog := X.prog) (w := X.w) (I.ok.hd hc) it lo 1 n
    refine W.item i s _ _ hg st fun v h' tk hv st' kk => ?_
    obtain ⟨t, rfl⟩ := hv
    have I1 : Inv X pins σ H { s with heap := h', toks := tk } := I.turned (fun b o hb e => kk b o (by simpa using hb) e) f0 f1 f3 f4 f5
    refine ⟨_, rfl, go_of (s := { s with heap := h', toks := tk }) (n := "range_iterator") st' rfl rfl (by decide) ⟨.int (lo + i), H, I1, ⟨t, ?_⟩, ⟨rfl, rfl⟩, st', fun b hb => (hf b hb).1⟩⟩
    rw [Int.mul_one]
  done := by
    intro X hP hw hK hc i pins s σ H E I hf st hg
    subst hP hw hK
    obtain ⟨f0, f1, f2, f3, f4, f5⟩ := hf it (by simp)
    exact wpAny_pyNext_range_end (I.ok.hd hc) st (by have : n ≤ i := hg; lia) fun h' eb => ⟨rfl, I.turned (t' := s.toks) (fun b o hb e => eb b o hb e) f0 f1 f3 f4 f5⟩
  self := fun _ _ _ _ _ st h => wpAny_pyIter_rangeiter st h
end L2
namespace L2
open PySem PySem.Spec PyProof.Rows
section
variable {X : Cx} {tg : Expr}
def iList (K : PySem.W.Frag) (tl : TE) : TI := fun σ H R => tl σ H fun x H1 => ∃ a, x = .ref a ∧ (∃ xs, SqL K H1 a xs) ∧ R (Itl K a) H1
theorem pi_list {l : Expr} {tl : TE} (hl : PE X l tl) : PI X tg l (iList X.K tl) := by
  intro pins s σ H R I h
  refine thn (hl pins s σ H _ I h) fun v s1 zz41 => el5 zz41 fun x H1 I1 r1 q1 => ?_
  obtain ⟨a, e, ⟨xs, hq⟩, q⟩ := q1
  subst e
  cases r1
  obtain ⟨its, rv, p, hz⟩ := I1.list hq
  refine wpAny_pyIter_list p.isList ?_
  refine ⟨s1.heap.objs.size, [s1.heap.objs.size], _, _, H1, rfl, I1.kept (t' := s1.toks) fun b o e => Heap.get?_push_of_some _ e, turn_list a _, ⟨_, Heap.get?_push_size _ rfl, rfl, rfl⟩, fun b hb => ?_, q⟩
  have e : b = s1.heap.objs.size := by simpa using hb
  subst e
  exact I1.fpOk (Nat.le_refl _) (I1.hok.fresh (Nat.le_refl _))
theorem range_it {pins : List (Addr × Obj)} {σ : St} {H : Hp} {s : Shared} {R : It → Hp → Prop} {E : Value → Shared → Prop} {lo hi : Int} {t u v : Tok} {tk : Nat} (I : Inv X pins σ H s) (h1 : -(2 ^ 62) ≤ lo) (h2 : lo < 2 ^ 62) (h3 : -(2 ^ 62) ≤ hi) (h4 : hi < 2 ^ 62)
    (q : R (Itr lo (hi - lo).toNat) H) : wpAny (model X.prog X.w) X.A (pyIter (.ref s.heap.objs.size)) (PIE X pins σ tg R) E { s with heap := s.heap.push { cls := .type "range", data := .fields #[.int lo t, .int hi u, .int 1 v] }, toks := tk } := by
  refine wpAny_pyIter_range (IsRange.new ..) (small_one h1 h2 h3 h4) ?_
  have I1 : Inv X pins σ H { s with heap := s.heap.push { cls := .type "range", data := .fields #[.int lo t, .int hi u, .int 1 v] }, toks := tk } := I.kept fun b o e => Heap.get?_push_of_some _ e
  refine ⟨(s.heap.push { cls := .type "range", data := .fields #[.int lo t, .int hi u, .int 1 v] }).objs.size, [(s.heap.push { cls := .type "range", data := .fields #[.int lo t, .int hi u, .int 1 v] }).objs.size], _, _, H, rfl,
    I1.kept (t' := tk) fun b o e => Heap.get?_push_of_some _ e, turn_range _ lo (hi - lo).toNat, ?_, fun b hb => ?_, q⟩
  · have e1 : lo + ((0 : Nat) : Int) * 1 = lo := by simp
    have e2 : (((hi - lo).toNat : Nat) : Int) - ((0 : Nat) : Int) = Builtin.Range.rangeSize lo hi 1 := by rw [rangeSize_one]; split <;> lia
    show IsRangeIter _ _ (lo + ((0 : Nat) : Int) * 1) ((((hi - lo).toNat : Nat) : Int) - ((0 : Nat) : Int)) 1
    rw [e1, e2]
    exact Heap.get?_push_size _ rfl
  · have e : b = (s.heap.push { cls := .type "range", data := .fields #[.int lo t, .int hi u, .int 1 v] }).objs.size := by simpa using hb
    subst e
    exact I1.fpOk (Nat.le_refl _) (I1.hok.fresh (Nat.le_refl _))
def iRng1 (ta : TA) : TI := fun σ H R => ta σ H fun vs H1 => ∃ j : Int, vs = [.int j] ∧ -(2 ^ 62) ≤ j ∧ j < 2 ^ 62 ∧ R (Itr 0 j.toNat) H1
theorem pi_range1 {a : Expr} {ta : TA} {p pos : Pos} (hg : Gl X "range") (hm : X.mg "range" = none) (ha : PA X [a] ta) (hs : starEach [a] X.env = [(false, eval a X.env)] := by rfl) : PI X tg (.Call (.Name "range" p) [a] [] pos) (iRng1 ta) := by
  intro pins s σ H R I h
  refine Call_ (ld_blt I hg hm boot_range (PyProof.Rows.callWith_type1 (thn (ha pos pins s σ H _ I h) fun us s1 zz43 => el5 zz43 fun vs H1 I1 r1 q1 => ?_) hs rfl))
  obtain ⟨j, e, q1, q2, q⟩ := q1
  subst e
  cases r1 with
  | cons r rr =>
    cases rr
    obtain ⟨t, rfl⟩ := r
    exact call_range_1 (range_it I1 (by lia) (by lia) q1 q2 (by simpa using q))
def tFor (wi : TI) (g : TG) (tb : TS) : TS := fun D σ H => wi σ H fun J H1 => ∃ W : Nat → Nat → St → Hp → Prop, (∃ m, W 0 m σ H1) ∧ ∀ i m σ H, W i m σ H →
  (J.stop i H ∧ D.nx σ H) ∨ (J.go i H ∧ ∃ N : St → Hp → Prop, (∀ σ' H', N σ' H' → ∃ m', m' < m ∧ W (i + 1) m' σ' H') ∧ ∀ x H', J.yld i H x H' → g x σ H' fun σ2 H2 => tb { D with nx := N, ct := N, bk := D.nx } σ2 H2)
def pinsAt (fp : List Addr) (h : Heap) : List (Addr × Obj) := fp.filterMap fun b => (h.get? b).map fun o => (b, o)
theorem mem_pinsAt {fp : List Addr} {h : Heap} {b : Addr} {o : Obj} (hb : b ∈ fp) (e : h.get? b = some o) : (b, o) ∈ pinsAt fp h := List.mem_filterMap.mpr ⟨b, hb, by rw [e]; rfl⟩
theorem of_pinsAt {fp : List Addr} {h : Heap} {p : Addr × Obj} (hp : p ∈ pinsAt fp h) : p.1 ∈ fp ∧ h.get? p.1 = some p.2 := by
  obtain ⟨b, hb, e⟩ := List.mem_filterMap.mp hp
  cases q : h.get? b with
  | none => rw [q] at e; cases e
  | some o =>
    rw [q] at e
    have e' : (b, o) = p := Option.some.inj e
    subst e'
    exact ⟨hb, q⟩
theorem Inv.pinned {pins : List (Addr × Obj)} {σ : St} {H : Hp} {s : Shared} {fp : List Addr} (I : Inv X pins σ H s) (hf : ∀ b ∈ fp, FpOk X pins H b) (ho : ∀ b ∈ fp, ∃ o, s.heap.get? b = some o ∧ ∀ v, o.data ≠ .cell v) : Inv X (pins ++ pinsAt fp s.heap) σ H s :=
  I.pins_of fun p hp => (List.mem_append.mp hp).elim (fun z => I.pin p (List.mem_append_right _ z)) fun z => by
    obtain ⟨hb, e⟩ := of_pinsAt z
    obtain ⟨f0, f1, f2, _⟩ := hf p.1 hb
    obtain ⟨o, e', d⟩ := ho p.1 hb
    rw [e] at e'; cases e'
    exact ⟨e, f0, f1, f2, d⟩
theorem Inv.unpinned {pins pl : List (Addr × Obj)} {σ : St} {H : Hp} {s : Shared} (I : Inv X (pins ++ pl) σ H s) : Inv X pins σ H s := I.pins_of fun p hp => I.pin p (List.mem_append_right _ (List.mem_append_left _ hp))
theorem ps_for {iter : Expr} {body : List Stmt} {wi : TI} {g : TG} {tb : TS} {pos : Pos} (hp : PassesOwn (model X.prog X.w) X.A X.env X.xe) (hc : X.calm = true) (hi : PI X tg iter wi) (hg : PG X tg g) (hb : PSs X body tb)
    (hs : ∀ x, foldedSetIterable iter X.env x = pure x := by intro _; rfl) : PS X (.For tg iter body [] pos) (tFor wi g tb) := by
  intro pins s σ H D I h
  refine wpAny_For (thn (hi pins s σ H _ I h) fun v s1 h1 => thn h1 fun itv s2 h2 => ?_) hs
  obtain ⟨it, fp, tn, J, H2, e, I2, T, st2, f2, W, ⟨m0, w0⟩, turn⟩ := h2
  subst e
  have stat : ∀ {H' : Hp}, (∀ b ∈ fp, H' b = none) → ∀ b ∈ fp, FpOk X pins H' b := fun hn b hb => ⟨hn b hb, (f2 b hb).2⟩
  refine codeAny_forLoop_any (fun n s' => ∃ i σ' H', Inv X pins σ' H' s' ∧ tn i s'.heap ∧ (∀ b ∈ fp, H' b = none) ∧ W i n σ' H') ?_ m0 ⟨0, σ, H2, I2, st2, fun b hb => (f2 b hb).1, w0⟩
  rintro n s3 ⟨i, σ3, H3, I3, st3, fr3, w3⟩
  rcases turn i n σ3 H3 w3 with ⟨stop, qn⟩ | ⟨go, N, hN, step⟩
  · refine wpAny_passesOwn hp (thn (T.done X rfl rfl rfl hc i pins s3 σ3 H3 X.xe I3 (stat fr3) st3 stop) fun r s4 zz45 => zz45.elim fun hr I4 => ?_)
    subst hr
    exact wpAny_execs_nil ⟨σ3, H3, I4, qn⟩
  · refine wpAny_passesOwn hp (thn (T.item X rfl rfl rfl hc i pins s3 σ3 H3 X.xe I3 (stat fr3) st3 go) fun r s4 zz46 => el2 zz46 fun u hr h4 => ?_)
    subst hr
    refine wpAny_passesOwn hp (thn h4 fun _ s5 zz47 => zz47.elim fun x zz48 => zz48.elim fun H5 zz49 => zz49.elim fun I5 zz50 => zz50.elim fun r5 zz51 => zz51.elim fun y5 zz52 => zz52.elim fun st5 fr5 => ?_)
    have I5' := I5.pinned (stat fr5) (T.obj _ _ st5)
    refine wpAny_passesOwn hp (thn (hg _ s5 σ3 H5 x u _ I5' r5 (step x H5 y5)) fun _ s6 zz53 => zz53.elim fun σ6 zz54 => zz54.elim fun H6 zz55 => zz55.elim fun I6 q6 => ?_)
    refine wpAny_passesOwn hp (thn (hb _ s6 σ6 H6 _ I6 q6) fun f s7 q7 => ?_)
    have again : ∀ {σ7 : St} {H7 : Hp}, Inv X (pins ++ pinsAt fp s5.heap) σ7 H7 s7 → N σ7 H7 → ∃ m, m < n ∧ ∃ i σ' H', Inv X pins σ' H' s7 ∧ tn i s7.heap ∧ (∀ b ∈ fp, H' b = none) ∧ W i m σ' H' := fun {σ7 H7} I7 n7 => by
      obtain ⟨m', hm, w7⟩ := hN σ7 H7 n7
      refine ⟨m', hm, i + 1, σ7, H7, I7.unpinned, T.keep _ _ _ st5 fun b hb o e => (I7.pin (b, o) (List.mem_append_right _ (List.mem_append_right _ (mem_pinsAt hb e)))).1, fun b hb => ?_, w7⟩
      obtain ⟨o, e, d⟩ := T.obj _ _ st5 b hb
      exact (I7.pin (b, o) (List.mem_append_right _ (List.mem_append_right _ (mem_pinsAt hb e)))).2.1
    cases f with
    | next => obtain ⟨σ7, H7, I7, n7⟩ := q7; exact again I7 n7
    | cont => obtain ⟨σ7, H7, I7, n7⟩ := q7; exact again I7 n7
    | brk => obtain ⟨σ7, H7, I7, q7⟩ := q7; exact ⟨σ7, H7, I7.unpinned, q7⟩
    | ret v => obtain ⟨x7, σ7, H7, I7, r7, q7⟩ := q7; exact ⟨x7, σ7, H7, I7.unpinned, r7, q7⟩
end
theorem for_range {lo : Int} {n : Nat} {g : TG} {tb : TS} {D : Ends} {σ : St} {H : Hp} (Pv : Nat → St → Hp → Prop) (h0 : Pv 0 σ H)
    (hs : ∀ i σ H, i < n → Pv i σ H → g (.int (lo + i)) σ H fun σ2 H2 => tb { D with nx := Pv (i + 1), ct := Pv (i + 1), bk := D.nx } σ2 H2) (hd : ∀ σ H, Pv n σ H → D.nx σ H) :
    ∃ W : Nat → Nat → St → Hp → Prop, (∃ m, W 0 m σ H) ∧ ∀ i m σ H, W i m σ H →
      ((Itr lo n).stop i H ∧ D.nx σ H) ∨ ((Itr lo n).go i H ∧ ∃ N : St → Hp → Prop, (∀ σ' H', N σ' H' → ∃ m', m' < m ∧ W (i + 1) m' σ' H') ∧ ∀ x H', (Itr lo n).yld i H x H' → g x σ H' fun σ2 H2 => tb { D with nx := N, ct := N, bk := D.nx } σ2 H2) := by
  refine ⟨fun i m σ H => m = n - i ∧ i ≤ n ∧ Pv i σ H, ⟨n, by simp, Nat.zero_le _, h0⟩, ?_⟩
  rintro i m σ H ⟨rfl, hi, p⟩
  by_cases hlt : i < n
  · refine .inr ⟨hlt, Pv (i + 1), fun σ' H' p' => ⟨n - (i + 1), by lia, rfl, hlt, p'⟩, fun x H' y => ?_⟩
    obtain ⟨e, y⟩ := y
    subst e y
    exact hs i σ _ hlt p
  · have e : i = n := by lia
    subst e
    exact .inl ⟨Nat.le_refl _, hd σ H p⟩
theorem while_by {c : TT} {tb : TS} {D : Ends} {σ : St} {H : Hp} (Pv : St → Hp → Prop) (μ : St → Hp → Nat) (h0 : Pv σ H)
    (hs : ∀ σ H, Pv σ H → c σ H fun b H1 => if b = true then tb { D with nx := fun σ' H' => Pv σ' H' ∧ μ σ' H' < μ σ H, ct := fun σ' H' => Pv σ' H' ∧ μ σ' H' < μ σ H, bk := D.nx } σ H1 else D.nx σ H1)
    (mono : ∀ σ H Q Q', (∀ b H1, Q b H1 → Q' b H1) → c σ H Q → c σ H Q') : tWhile c tb D σ H := by
  refine ⟨fun m σ H => m = μ σ H ∧ Pv σ H, ⟨_, rfl, h0⟩, ?_⟩
  rintro m σ H ⟨rfl, p⟩
  refine mono σ H _ _ (fun b H1 q => ?_) (hs σ H p)
  cases b with
  | true => exact ⟨_, fun σ' H' zz56 => zz56.elim fun p' l => ⟨_, l, rfl, p'⟩, q⟩
  | false => exact q
end L2
namespace L2
open PySem PySem.Spec PyProof.Rows
abbrev R2 := V → V → Hp → VK → Prop
def OpR (X : Cx) (f : Value → Value → Sem Value) (r : R2) : Prop :=
  ∀ (pins : List (Addr × Obj)) (s : Shared) (σ : St) (H : Hp) (x y : V) (v u : Value) (Q : VK), Inv X pins σ H s → RelV x v → RelV y u → r x y H Q →
    wpAny (model X.prog X.w) X.A (f v u) (EP X pins σ Q) X.xe s
def UnR (X : Cx) (f : Value → Sem Value) (r : V → Hp → VK → Prop) : Prop :=
  ∀ (pins : List (Addr × Obj)) (s : Shared) (σ : St) (H : Hp) (x : V) (v : Value) (Q : VK), Inv X pins σ H s → RelV x v → r x H Q →
    wpAny (model X.prog X.w) X.A (f v) (EP X pins σ Q) X.xe s
def CallR (X : Cx) (f : Value) (r : List V → Hp → VK → Prop) : Prop :=
  ∀ (pins : List (Addr × Obj)) (s : Shared) (σ : St) (H : Hp) (xs : List V) (us : List Value) (Q : VK), Inv X pins σ H s → Vals xs us → r xs H Q →
    wpAny (model X.prog X.w) X.A (call f us) (EP X pins σ Q) X.xe s
def tOp (r : R2) (ta tb : TE) : TE := fun σ H Q => ta σ H fun x H1 => tb σ H1 fun y H2 => r x y H2 Q
def tUn (r : V → Hp → VK → Prop) (ta : TE) : TE := fun σ H Q => ta σ H fun x H1 => r x H1 Q
def rI (C : Int → Int → Prop) (g : Int → Int → V) : R2 := fun x y H Q => ∃ i j, x = .int i ∧ y = .int j ∧ C i j ∧ Q (g i j) H
def rI0 (g : Int → Int → V) : R2 := fun x y H Q => ∃ i j, x = .int i ∧ y = .int j ∧ Q (g i j) H
def rU (g : Int → V) : V → Hp → VK → Prop := fun x H Q => ∃ i, x = .int i ∧ Q (g i) H
section
variable {X : Cx} {a b c : Expr} {ta tb tc : TE} {pos : Pos}
theorem binT (ha : PE X a ta) (hb : PE X b tb) {pins : List (Addr × Obj)} {s : Shared} {σ : St} {H : Hp} {R : V → V → Hp → Prop} (I : Inv X pins σ H s)
    (h : ta σ H fun x H1 => tb σ H1 fun y H2 => R x y H2) {Q : Value → Shared → Prop} {f : Value → Value → Sem Value}
    (hf : ∀ v u s2 x y H2, Inv X pins σ H2 s2 → RelV x v → RelV y u → R x y H2 → wpAny (model X.prog X.w) X.A (f v u) Q X.xe s2) :
    wpAny (model X.prog X.w) X.A (eval a X.env) (fun v s₁ => wpAny (model X.prog X.w) X.A (eval b X.env) (fun u s₂ => wpAny (model X.prog X.w) X.A (f v u) Q X.xe s₂) X.xe s₁) X.xe s := by
  refine thn (ha pins s σ H _ I h) fun v s1 zz57 => el5 zz57 fun x H1 I1 r1 q1 => ?_
  refine thn (hb pins s1 σ H1 _ I1 q1) fun u s2 zz58 => el5 zz58 fun y H2 I2 r2 q2 => ?_
  exact hf v u s2 x y H2 I2 r1 r2 q2
theorem pe_op {op : Operator} {r : R2} (ho : OpR X (binaryOp op) r) (ha : PE X a ta) (hb : PE X b tb) : PE X (.BinOp a op b pos) (tOp r ta tb) := by
  intro pins s σ H Q I h
  exact wpAny_BinOp (binT ha hb I h fun v u s2 x y H2 I2 rx ry q => ho pins s2 σ H2 x y v u Q I2 rx ry q)
theorem pe_un {op : UnaryOp} {r : V → Hp → VK → Prop} (ho : UnR X (unaryOp op) r) (ha : PE X a ta) : PE X (.UnaryOp op a pos) (tUn r ta) := by
  intro pins s σ H Q I h
  exact UnaryOp_ (thn (ha pins s σ H _ I h) fun v s1 zz59 => el5 zz59 fun x H1 I1 r1 q1 => ho pins s1 σ H1 x v Q I1 r1 q1)
theorem opI {f : Value → Value → Sem Value} {C : Int → Int → Prop} {g : Int → Int → Int}
    (rule : ∀ (i j : Int) (t u : Tok) (s : Shared) (Q : Value → Shared → Prop) (E : Value → Shared → Prop), C i j → Q (.int (g i j) s.toks) { s with toks := s.toks + 1 } → wpAny (model X.prog X.w) X.A (f (.int i t) (.int j u)) Q E s) :
    OpR X f (rI C fun i j => .int (g i j)) := by
  intro pins s σ H x y v u Q I rx ry h
  obtain ⟨i, j, rfl, rfl, hc, q⟩ := h
  obtain ⟨t, rfl⟩ := rx
  obtain ⟨t', rfl⟩ := ry
  exact rule i j t t' s _ _ hc ⟨.int (g i j), H, I.tok _, ⟨_, rfl⟩, q⟩
theorem opI0 {f : Value → Value → Sem Value} {g : Int → Int → Int}
    (rule : ∀ (i j : Int) (t u : Tok) (s : Shared) (Q : Value → Shared → Prop) (E : Value → Shared → Prop), Q (.int (g i j) s.toks) { s with toks := s.toks + 1 } → wpAny (model X.prog X.w) X.A (f (.int i t) (.int j u)) Q E s) :
    OpR X f (rI0 fun i j => .int (g i j)) := by
  intro pins s σ H x y v u Q I rx ry h
  obtain ⟨i, j, rfl, rfl, q⟩ := h
  obtain ⟨t, rfl⟩ := rx
  obtain ⟨t', rfl⟩ := ry
  exact rule i j t t' s _ _ ⟨.int (g i j), H, I.tok _, ⟨_, rfl⟩, q⟩
theorem opB0 {f : Value → Value → Sem Value} {g : Int → Int → Bool}
    (rule : ∀ (i j : Int) (t u : Tok) (s : Shared) (Q : Value → Shared → Prop) (E : Value → Shared → Prop), Q (.bool (g i j)) s → wpAny (model X.prog X.w) X.A (f (.int i t) (.int j u)) Q E s) :
    OpR X f (rI0 fun i j => .bl (g i j)) := by
  intro pins s σ H x y v u Q I rx ry h
  obtain ⟨i, j, rfl, rfl, q⟩ := h
  obtain ⟨t, rfl⟩ := rx
  obtain ⟨t', rfl⟩ := ry
  exact rule i j t t' s _ _ ⟨.bl (g i j), H, I, rfl, q⟩
def CPow (i j : Int) : Prop := 0 ≤ j ∧ j ≤ 1000000 ∧ i.natAbs < 2 ^ 64
def CMul (i j : Int) : Prop := (-(2 ^ 64) < i ∧ i < 2 ^ 64) ∨ (-(2 ^ 64) < j ∧ j < 2 ^ 64)
theorem CMul.ok {i j : Int} (h : CMul i j) : IntMulOk i j := by
  rcases h with ⟨h1, h2⟩ | ⟨h1, h2⟩
  · exact .of_left (intBits_le_64 h1 h2)
  · exact .of_right (intBits_le_64 h1 h2)
theorem op_add : OpR X (binaryOp .Add) (rI0 fun i j => .int (i + j)) := opI0 fun _ _ _ _ _ _ _ q => add_int q
theorem op_sub : OpR X (binaryOp .Sub) (rI0 fun i j => .int (i - j)) := opI0 fun _ _ _ _ _ _ _ q => sub_int q
theorem op_mul : OpR X (binaryOp .Mult) (rI CMul fun i j => .int (i * j)) := opI fun _ _ _ _ _ _ _ hc q => mul_int q hc.ok
theorem op_mod : OpR X (binaryOp .Mod) (rI (fun _ j => 0 < j) fun i j => .int (i % j)) := opI fun i j _ _ _ _ _ hc q => by
  have h1 : (0 : Int) < j := hc
  exact mod_int' (by lia) (by rw [Int.fmod_eq_emod_of_nonneg i (by lia)]; exact q)
theorem op_pow : OpR X (binaryOp .Pow) (rI CPow fun i j => .int (i ^ j.toNat)) := opI fun _ _ _ _ _ _ _ hc q => pow_int_small hc.1 hc.2.1 hc.2.2 q
theorem unI {f : Value → Sem Value} {g : Int → Int}
    (rule : ∀ (i : Int) (t : Tok) (s : Shared) (Q : Value → Shared → Prop) (E : Value → Shared → Prop), Q (.int (g i) s.toks) { s with toks := s.toks + 1 } → wpAny (model X.prog X.w) X.A (f (.int i t)) Q E s) :
    UnR X f (rU fun i => .int (g i)) := by
  intro pins s σ H x v Q I rx h
  obtain ⟨i, rfl, q⟩ := h
  obtain ⟨t, rfl⟩ := rx
  exact rule i t s _ _ ⟨.int (g i), H, I.tok _, ⟨_, rfl⟩, q⟩
theorem un_neg : UnR X (unaryOp .USub) (rU fun i => .int (-i)) := unI fun _ _ _ _ _ q => neg_int q
end
def scal : V → V → Bool
  | .non, .non => true | .non, .int _ => true | .int _, .non => true | .non, .bl _ => true | .bl _, .non => true | .non, .str _ => true | .str _, .non => true
  | .int _, .int _ => true | .bl _, .bl _ => true | .str _, .str _ => true | .byt _, .byt _ => true
  | .int _, .str _ => true | .str _, .int _ => true | .bl _, .str _ => true | .str _, .bl _ => true
  | _, _ => false
def rEq : R2 := fun x y H Q => scal x y = true ∧ Q (.bl (decide (x = y))) H
def rNe : R2 := fun x y H Q => scal x y = true ∧ Q (.bl (!decide (x = y))) H
theorem dec_int {i j : Int} : decide (V.int i = V.int j) = (i == j) := by
  rw [Bool.eq_iff_iff]
  simp
theorem dec_bl {i j : Bool} : decide (V.bl i = V.bl j) = (i == j) := by
  rw [Bool.eq_iff_iff]
  simp
theorem dec_str {i j : Str} : decide (V.str i = V.str j) = (i == j) := by
  rw [Bool.eq_iff_iff]
  simp
theorem dec_byt {i j : Array UInt8} : decide (V.byt i = V.byt j) = (i.toList == j.toList) := by
  rw [Bool.eq_iff_iff]
  cases i
  cases j
  simp
section
variable {X : Cx} {a b c : Expr} {ta tb tc : TE} {pos : Pos}
theorem fin_bl {pins : List (Addr × Obj)} {σ : St} {H : Hp} {s : Shared} {Q : VK} {k k' : Bool} (I : Inv X pins σ H s) (q : Q (.bl k) H) (e : k = k') : EP X pins σ Q (.bool k') s := by
  subst e
  exact ⟨.bl k, H, I, rfl, q⟩
theorem op_eq : OpR X (compareOp .Eq) rEq := by
  intro pins s σ H x y v u Q I rx ry h
  obtain ⟨hs, q⟩ := h
  cases x with
  | non =>
    cases rx
    cases y with
    | non => cases ry; exact PySem.EqNone.eq_none_none (fin_bl I q (by simp))
    | bl j => cases ry; exact PySem.EqNone.eq_none_bool (fin_bl I q (by simp))
    | int j => obtain ⟨t', rfl⟩ := ry; exact PySem.EqNone.eq_none_int (fin_bl I q (by simp))
    | str j => obtain ⟨t', rfl⟩ := ry; exact PySem.EqNone.eq_none_str (fin_bl I q (by simp))
    | _ => exact absurd (show false = true from hs) Bool.false_ne_true
  | bl i =>
    cases rx
    cases y with
    | non => cases ry; exact PySem.EqNone.eq_bool_none (fin_bl I q (by simp))
    | bl j => cases ry; exact eq_bool (fin_bl I q dec_bl)
    | str j => obtain ⟨t', rfl⟩ := ry; exact PySem.EqMixed.eq_bool_str (fin_bl I q (by simp))
    | _ => exact absurd (show false = true from hs) Bool.false_ne_true
  | int i =>
    obtain ⟨t, rfl⟩ := rx
    cases y with
    | non => cases ry; exact PySem.EqNone.eq_int_none (fin_bl I q (by simp))
    | int j => obtain ⟨t', rfl⟩ := ry; exact eq_int (fin_bl I q dec_int)
    | str j => obtain ⟨t', rfl⟩ := ry; exact PySem.EqMixed.eq_int_str (fin_bl I q (by simp))
    | _ => exact absurd (show false = true from hs) Bool.false_ne_true
  | str i =>
    obtain ⟨t, rfl⟩ := rx
    cases y with
    | non => cases ry; exact PySem.EqNone.eq_str_none (fin_bl I q (by simp))
    | bl j => cases ry; exact PySem.EqMixed.eq_str_bool (fin_bl I q (by simp))
    | int j => obtain ⟨t', rfl⟩ := ry; exact PySem.EqMixed.eq_str_int (fin_bl I q (by simp))
    | str j => obtain ⟨t', rfl⟩ := ry; exact eq_str (fin_bl I q dec_str)
    | _ => exact absurd (show false = true from hs) Bool.false_ne_true
  | byt i =>
    obtain ⟨t, rfl⟩ := rx
    cases y with
    | byt j => obtain ⟨t', rfl⟩ := ry; exact PySem.W.eq_bytes (fin_bl I q dec_byt)
    | _ => exact absurd (show false = true from hs) Bool.false_ne_true
  | _ => cases y <;> exact absurd (show false = true from hs) Bool.false_ne_true
theorem op_ne : OpR X (compareOp .NotEq) rNe := by
  intro pins s σ H x y v u Q I rx ry h
  obtain ⟨hs, q⟩ := h
  cases x with
  | non =>
    cases rx
    cases y with
    | non => cases ry; exact PySem.EqNone.ne_none_none (fin_bl I q (by simp))
    | bl j => cases ry; exact PySem.EqNone.ne_none_bool (fin_bl I q (by simp))
    | int j => obtain ⟨t', rfl⟩ := ry; exact PySem.EqNone.ne_none_int (fin_bl I q (by simp))
    | str j => obtain ⟨t', rfl⟩ := ry; exact PySem.EqNone.ne_none_str (fin_bl I q (by simp))
    | _ => exact absurd (show false = true from hs) Bool.false_ne_true
  | bl i =>
    cases rx
    cases y with
    | non => cases ry; exact PySem.EqNone.ne_bool_none (fin_bl I q (by simp))
    | bl j => cases ry; exact ne_bool (fin_bl I q (congrArg not dec_bl))
    | str j => obtain ⟨t', rfl⟩ := ry; exact PySem.EqMixed.ne_bool_str (fin_bl I q (by simp))
    | _ => exact absurd (show false = true from hs) Bool.false_ne_true
  | int i =>
    obtain ⟨t, rfl⟩ := rx
    cases y with
    | non => cases ry; exact PySem.EqNone.ne_int_none (fin_bl I q (by simp))
    | int j => obtain ⟨t', rfl⟩ := ry; exact ne_int (fin_bl I q (congrArg not dec_int))
    | str j => obtain ⟨t', rfl⟩ := ry; exact PySem.EqMixed.ne_int_str (fin_bl I q (by simp))
    | _ => exact absurd (show false = true from hs) Bool.false_ne_true
  | str i =>
    obtain ⟨t, rfl⟩ := rx
    cases y with
    | non => cases ry; exact PySem.EqNone.ne_str_none (fin_bl I q (by simp))
    | bl j => cases ry; exact PySem.EqMixed.ne_str_bool (fin_bl I q (by simp))
    | int j => obtain ⟨t', rfl⟩ := ry; exact PySem.EqMixed.ne_str_int (fin_bl I q (by simp))
    | str j => obtain ⟨t', rfl⟩ := ry; exact ne_str (fin_bl I q (congrArg not dec_str))
    | _ => exact absurd (show false = true from hs) Bool.false_ne_true
  | byt i =>
    obtain ⟨t, rfl⟩ := rx
    cases y with
    | byt j => obtain ⟨t', rfl⟩ := ry; exact PySem.W.ne_bytes (fin_bl I q (congrArg not dec_byt))
    | _ => exact absurd (show false = true from hs) Bool.false_ne_true
  | _ => cases y <;> exact absurd (show false = true from hs) Bool.false_ne_true
theorem op_lt : OpR X (compareOp .Lt) (rI0 fun i j => .bl (decide (i < j))) := opB0 fun _ _ _ _ _ _ _ q => lt_int q
theorem op_le : OpR X (compareOp .LtE) (rI0 fun i j => .bl (decide (i ≤ j))) := opB0 fun _ _ _ _ _ _ _ q => le_int q
theorem op_gt : OpR X (compareOp .Gt) (rI0 fun i j => .bl (decide (j < i))) := opB0 fun _ _ _ _ _ _ _ q => gt_int q
theorem op_ge : OpR X (compareOp .GtE) (rI0 fun i j => .bl (decide (j ≤ i))) := opB0 fun _ _ _ _ _ _ _ q => ge_int q
theorem op_isN : OpR X (compareOp .Is) (fun x y H Q => y = .non ∧ Q (.bl (decide (x = .non))) H) := by
  intro pins s σ H x y v u Q I rx ry h
  obtain ⟨rfl, q⟩ := h
  cases ry
  refine is_none_gen (fin_bl I q ?_)
  cases x <;> first
    | (cases rx; rfl)
    | (obtain ⟨t, rfl⟩ := rx; rfl)
theorem op_notN : OpR X (compareOp .IsNot) (fun x y H Q => y = .non ∧ Q (.bl (!decide (x = .non))) H) := by
  intro pins s σ H x y v u Q I rx ry h
  obtain ⟨rfl, q⟩ := h
  cases ry
  refine isnot_none_gen (fin_bl I q ?_)
  cases x <;> first
    | (cases rx; rfl)
    | (obtain ⟨t, rfl⟩ := rx; rfl)
theorem nomark (b : Expr) {op : CmpOp} (h : op ≠ .In := by decide) (h2 : op ≠ .NotIn := by decide) : behindInMarks op b = false := by
  have e1 : (op == CmpOp.In) = false := by cases op <;> first | rfl | exact absurd rfl h
  have e2 : (op == CmpOp.NotIn) = false := by cases op <;> first | rfl | exact absurd rfl h2
  cases b <;> simp [behindInMarks, e1, e2]
theorem pe_cmpR {op : CmpOp} {r : R2} (ho : OpR X (compareOp op) r) (ha : PE X a ta) (hb : PE X b tb) (hm : behindInMarks op b = false) : PE X (.Compare a [op] [b] pos) (tOp r ta tb) := by
  intro pins s σ H Q I h
  exact wpAny_Compare1 (binT ha hb I h fun v u s2 x y H2 I2 rx ry q => ho pins s2 σ H2 x y v u Q I2 rx ry q) hm
def tTest (t : TE) : TT := fun σ H Q => t σ H fun x H' => ∃ k, x = .bl k ∧ Q k H'
theorem pt_cmpR {op : CmpOp} {r : R2} (ho : OpR X (compareOp op) r) (ha : PE X a ta) (hb : PE X b tb) (hm : behindInMarks op b = false) : PT X (.Compare a [op] [b] pos) (tTest (tOp r ta tb)) := by
  intro pins s σ H Q I h
  refine wpAny_isTrue_Compare1 (thn (ha pins s σ H _ I h) fun v s1 zz60 => el5 zz60 fun x H1 I1 r1 q1 => thn (hb pins s1 σ H1 _ I1 q1) fun u s2 zz61 => el5 zz61 fun y H2 I2 r2 q2 =>
    thn (ho pins s2 σ H2 x y v u _ I2 r1 r2 q2) fun c s3 zz62 => zz62.elim fun z zz63 => zz63.elim fun H3 zz64 => zz64.elim fun I3 zz65 => zz65.elim fun r3 zz66 => zz66.elim fun k zz67 => zz67.elim fun e q3 => ?_) hm
  subst e
  cases r3
  exact wpAny_truthy_bool ⟨H3, I3, q3⟩
def tChain (r r' : R2) (ta tb tc : TE) : TE := fun σ H Q => ta σ H fun x H1 => tb σ H1 fun y H2 => r x y H2 fun z H3 => ∃ k, z = .bl k ∧
  (if k = true then tc σ H3 fun w' H4 => r' y w' H4 Q else Q (.bl false) H3)
theorem pe_chain {op op' : CmpOp} {r r' : R2} (ho : OpR X (compareOp op) r) (ho' : OpR X (compareOp op') r') (ha : PE X a ta) (hb : PE X b tb) (hc : PE X c tc)
    (hm : lastMarks [op, op'] [b, c] = false := by with_unfolding_all rfl) : PE X (.Compare a [op, op'] [b, c] pos) (tChain r r' ta tb tc) := by
  intro pins s σ H Q I h
  refine Compare_chain (thn (ha pins s σ H _ I h) fun v s1 zz68 => el5 zz68 fun x H1 I1 r1 q1 => chain_link (thn (hb pins s1 σ H1 _ I1 q1) fun u s2 zz69 => el5 zz69 fun y H2 I2 r2 q2 =>
    thn (ho pins s2 σ H2 x y v u _ I2 r1 r2 q2) fun d s3 zz70 => zz70.elim fun z zz71 => zz71.elim fun H3 zz72 => zz72.elim fun I3 zz73 => zz73.elim fun r3 zz74 => zz74.elim fun k zz75 => zz75.elim fun e q3 => ?_)) hm
  subst e
  cases r3
  refine wpAny_truthy_bool ?_
  cases k with
  | false => exact ite_ff ⟨.bl false, H3, I3, rfl, q3⟩
  | true => exact ite_tt (chain_last (thn (hc pins s3 σ H3 _ I3 q3) fun w' s4 zz76 => el5 zz76 fun z' H4 I4 r4 q4 => ho' pins s4 σ H4 y z' u w' Q I4 r2 r4 q4))
theorem pt_chain {op op' : CmpOp} {r r' : R2} (ho : OpR X (compareOp op) r) (ho' : OpR X (compareOp op') r') (ha : PE X a ta) (hb : PE X b tb) (hc : PE X c tc)
    (hm : lastMarks [op, op'] [b, c] = false := by with_unfolding_all rfl) : PT X (.Compare a [op, op'] [b, c] pos) (tTest (tChain r r' ta tb tc)) := by
  intro pins s σ H Q I h
  refine isTrue_chain (thn (ha pins s σ H _ I h) fun v s1 zz77 => el5 zz77 fun x H1 I1 r1 q1 => test_link (thn (hb pins s1 σ H1 _ I1 q1) fun u s2 zz78 => el5 zz78 fun y H2 I2 r2 q2 =>
    thn (ho pins s2 σ H2 x y v u _ I2 r1 r2 q2) fun d s3 zz79 => zz79.elim fun z zz80 => zz80.elim fun H3 zz81 => zz81.elim fun I3 zz82 => zz82.elim fun r3 zz83 => zz83.elim fun k zz84 => zz84.elim fun e q3 => ?_)) hm
  subst e
  cases r3
  refine wpAny_truthy_bool ?_
  cases k with
  | false =>
    obtain ⟨k', e', q'⟩ := q3
    cases e'
    exact ite_ff ⟨H3, I3, q'⟩
  | true =>
    refine ite_tt (test_last (thn (hc pins s3 σ H3 _ I3 q3) fun w' s4 zz85 => el5 zz85 fun z' H4 I4 r4 q4 => thn (ho' pins s4 σ H4 y z' u w' _ I4 r2 r4 q4) fun d' s5 zz86 => zz86.elim fun z2 zz87 => zz87.elim fun H5 zz88 => zz88.elim fun I5 zz89 => zz89.elim fun r5 zz90 => zz90.elim fun k2 zz91 => zz91.elim fun e2 q5 => ?_))
    subst e2
    cases r5
    exact wpAny_truthy_bool ⟨H5, I5, q5⟩
theorem line63 : (sizeLine : Nat) < 2 ^ 63 := by rw [sizeLine_eq]; decide
theorem vals1 {x : V} {us : List Value} (r : Vals [x] us) : ∃ u, us = [u] ∧ RelV x u := by
  cases r with
  | cons r1 r2 => cases r2; exact ⟨_, rfl, r1⟩
theorem vals2 {x y : V} {us : List Value} (r : Vals [x, y] us) : ∃ u w', us = [u, w'] ∧ RelV x u ∧ RelV y w' := by
  cases r with
  | cons r1 r2 =>
    cases r2 with
    | cons r3 r4 => cases r4; exact ⟨_, _, rfl, r1, r3⟩
theorem call_abs : CallR X (.builtin "abs") (fun xs H Q => ∃ i, xs = [.int i] ∧ Q (.int (if i < 0 then -i else i)) H) := by
  intro pins s σ H xs us Q I r h
  obtain ⟨i, rfl, q⟩ := h
  obtain ⟨u, rfl, t, rfl⟩ := vals1 r
  exact call_abs_int fun u tk => ⟨.int (if i < 0 then -i else i), H, I.tok _, ⟨_, rfl⟩, q⟩
theorem call_min2 (hc : X.calm = true) : CallR X (.builtin "min") (fun xs H Q => ∃ i j, xs = [.int i, .int j] ∧ Q (.int (if j < i then j else i)) H) := by
  intro pins s σ H xs us Q I r h
  obtain ⟨i, j, rfl, q⟩ := h
  obtain ⟨u, w', rfl, ⟨t, rfl⟩, ⟨t', rfl⟩⟩ := vals2 r
  refine min_two_ints (I.ok.hd hc) fun h' tk k => ⟨_, H, I.kept k, ?_, q⟩
  by_cases hj : j < i
  · rw [if_pos hj, if_pos hj]; exact ⟨_, rfl⟩
  · rw [if_neg hj, if_neg hj]; exact ⟨_, rfl⟩
theorem call_int1 : CallR X (.type "int") (fun xs H Q => (∃ i, xs = [.int i] ∧ Q (.int i) H) ∨ ∃ k, xs = [.bl k] ∧ Q (.int (if k then 1 else 0)) H) := by
  intro pins s σ H xs us Q I r h
  rcases h with ⟨i, rfl, q⟩ | ⟨k, rfl, q⟩
  · obtain ⟨u, rfl, t, rfl⟩ := vals1 r
    exact call_int_int ⟨.int i, H, I, ⟨_, rfl⟩, q⟩
  · obtain ⟨u, rfl, r1⟩ := vals1 r
    cases r1
    exact call_int_bool ⟨.int (if k then 1 else 0), H, I.tok _, ⟨_, rfl⟩, q⟩
end
end L2
namespace L2
open PySem PySem.Spec PyProof.Rows
structure ObjM (h : Heap) (x dx C : Addr) (mA : Str → Option Value) : Prop where
  obj : h.get? x = some (PySem.W.instObj C dx)
  ns : h.Ns1 dx mA
  ne : dx ≠ x
theorem lookIn_ns {h : Heap} {dx : Addr} {mA : Str → Option Value} (n : h.Ns1 dx mA) : ∃ od, h.get? dx = some od ∧ ∀ name, PySem.W.lookIn name od = some (mA name) := by
  obtain ⟨o, es, ep, ho, hd, hk, _, hm⟩ := n
  refine ⟨o, ho, fun name => ?_⟩
  have e := hm name
  unfold nsFind findBy at e
  rw [← Array.find?_toList] at e
  unfold PySem.W.lookIn
  rw [hd]
  dsimp only
  split
  · rename_i y q
    rw [q] at e
    exact congrArg some e
  · rename_i q
    rw [q] at e
    have a : es.toList.any (·.refKey) = false := by
      rw [List.any_eq_false]
      intro y hy
      obtain ⟨z, t, hkey⟩ := hk y (Array.mem_toList_iff.mp hy)
      simp [DictEntry.refKey, hkey]
    have a' : ¬ es.toList.any (·.refKey) = true := by rw [a]; exact Bool.false_ne_true
    rw [if_neg a']
    exact congrArg some e
theorem ObjM.look {h : Heap} {x dx C : Addr} {mA : Str → Option Value} (I : ObjM h x dx C mA) : ∃ od, PySem.W.InstAt h x (PySem.W.instObj C dx) C (some od) ∧ ∀ name, PySem.W.lookIn name od = some (mA name) :=
  let ⟨od, ho, hl⟩ := lookIn_ns I.ns
  ⟨od, ⟨I.obj, rfl, rfl, ho⟩, hl⟩
section
variable {prog : Program} {w : World} {A : Around} {E : Value → Shared → Prop} {s : Shared} {K : PySem.W.Frag} {x dx C f : Addr} {mA : Str → Option Value} {name : Str} {v : Value}
end
section
variable {P : Program} {w : World} {H H' : Hp} {h h' : Heap} {a C dx : Addr} {fs fs' : List (Str × V)}
theorem ins_get (hok : HOk P w H h) (e : H a = some (.ins C dx fs)) : ∃ mA, ObjM h a dx C mA ∧ (∀ f, RelO (fs.lookup f) (mA f)) ∧ PySem.Within mA (fs.map (·.1)) ∧ fs.length ≤ 1000 ∧ H dx = some (.own a) := by
  obtain ⟨d, z, ne, ob, mA, n, r, q⟩ := (show ObjOk P w H h a (.ins C dx fs) from hok a _ e)
  exact ⟨mA, ⟨ob, n, ne⟩, r, q, z, d⟩
end
structure Cls (K : PySem.W.Frag) (C : Addr) : Prop where
  pg : PySem.W.plainGet K C Str.empty = true
  hd : PySem.W.hasDictIn K C = true
  po : PySem.W.plainOver K C = true
  sa : PySem.W.findIn K (.ref C) "__setattr__" = some (some (.builtin "object.__setattr__"))
theorem Cls.get {K : PySem.W.Frag} {C : Addr} (c : Cls K C) (f : Str) : PySem.W.plainGet K C f = true := c.pg
section
variable {X : Cx} {pins : List (Addr × Obj)} {σ : St} {H : Hp} {s : Shared} {a C dx : Addr} {fs : List (Str × V)} {f : Str} {v : V} {A : Around} {E : Value → Shared → Prop}
end
section
variable {X : Cx} {o e value : Expr} {f : Str} {pos pos' tpos : Pos} {ta tv : TE}
end
section
variable {X : Cx} {pins : List (Addr × Obj)} {σ : St} {H : Hp} {s : Shared} {A : Around} {E : Value → Shared → Prop} {Q : Value → Shared → Prop} {c : Value} {b : Bool}
inductive TyOf (K : PySem.W.Frag) (H : Hp) : V → Value → Prop where
  | non : TyOf K H .non (.type "NoneType")
  | bl (x : Bool) : TyOf K H (.bl x) (.type "bool")
  | int (i : Int) : TyOf K H (.int i) (.type "int")
  | str (x : Str) : TyOf K H (.str x) (.type "str")
  | flt (x : UInt64) : TyOf K H (.flt x) (.type "float")
  | lst {a : Addr} {xs : List V} (e : H a = some (.lst xs)) : TyOf K H (.ref a) (.type "list")
  | frz {a : Addr} {o : Obj} {xs : List V} (e : H a = some (.frz o (.lst xs))) : TyOf K H (.ref a) (.type "list")
  | tup {a : Addr} {xs : List V} (e : H a = some (.tup xs)) : TyOf K H (.ref a) (.type "tuple")
  | dK {a : Addr} {kvs : List (Key × V)} (e : H a = some (.dK kvs)) : TyOf K H (.ref a) (.type "dict")
  | dT {a : Addr} {kvs : List (List Key × V)} (e : H a = some (.dT kvs)) : TyOf K H (.ref a) (.type "dict")
  | ins {a C dx : Addr} {fs : List (Str × V)} (e : H a = some (.ins C dx fs)) (cl : Cls K C) (ha : PySem.W.findIn K (.ref C) "__class__" = some (some (.builtin "object.__class__")))
      (hn : PySem.W.specialIn K (.builtin "object.__class__") "__get__" = some (some (.builtin "getset_descriptor.__get__"))) (htk : PySem.W.takesIn K (.builtin "object.__class__") = some true)
      (hm : PySem.W.mroIn K C (.type "object") = some true) : TyOf K H (.ref a) (.ref C)
theorem isinst_ok {x : V} {u t : Value} (I : Inv X pins σ H s) (rx : RelV x u) (ty : TyOf X.K H x t) (e : PySem.W.kitOne X.K t c = some b) (h : ∀ tk, Q (.bool b) { s with toks := tk }) :
    wpAny (model X.prog X.w) A (call (.builtin "isinstance") [u, c]) Q E s := by
  cases ty with
  | non => cases (show u = Value.none from rx); exact PySem.W.kia_one PySem.W.kitx_none I.kIn True.intro e (fun z => nomatch z) h
  | bl y => cases (show u = Value.bool y from rx); exact PySem.W.kia_one PySem.W.kitx_bool I.kIn True.intro e (fun z => nomatch z) h
  | int i => obtain ⟨t, q⟩ := (show ∃ t, u = Value.int i t from rx); cases q; exact PySem.W.kia_one PySem.W.kitx_int I.kIn True.intro e (fun z => nomatch z) h
  | str y => obtain ⟨t, q⟩ := (show ∃ t, u = Value.str y t from rx); cases q; exact PySem.W.kia_one PySem.W.kitx_str I.kIn True.intro e (fun z => nomatch z) h
  | flt y => obtain ⟨t, q⟩ := (show ∃ t, u = Value.float y t from rx); cases q; exact PySem.W.kia_one PySem.W.kitx_float I.kIn True.intro e (fun z => nomatch z) h
  | @lst a xs ea =>
    cases (show u = Value.ref a from rx)
    obtain ⟨_, _, n, _, h1⟩ := (show ObjOk X.prog X.w H s.heap a (.lst xs) from I.hok a _ ea)
    exact PySem.W.kia_one PySem.W.kitx_list I.kIn ⟨_, h1, rfl⟩ e (fun z => nomatch z) h
  | @frz a ob xs ea =>
    cases (show u = Value.ref a from rx)
    obtain ⟨_, _, _, n, _, h1⟩ := (show ObjOk X.prog X.w H s.heap a (.frz ob (.lst xs)) from I.hok a _ ea)
    exact PySem.W.kia_one PySem.W.kitx_list I.kIn ⟨_, h1, rfl⟩ e (fun z => nomatch z) h
  | @tup a xs ea =>
    cases (show u = Value.ref a from rx)
    obtain ⟨_, _, _, p⟩ := (show ObjOk X.prog X.w H s.heap a (.tup xs) from I.hok a _ ea)
    obtain ⟨o, h1, h2, _⟩ := p
    exact PySem.W.kia_one PySem.W.kitx_tuple I.kIn ⟨o, h1, h2⟩ e (fun z => nomatch z) h
  | @dK a kvs ea =>
    cases (show u = Value.ref a from rx)
    obtain ⟨_, _, vs, _, p⟩ := (show ObjOk X.prog X.w H s.heap a (.dK kvs) from I.hok a _ ea)
    obtain ⟨o, es, ep, h1, h2, _⟩ := p
    exact PySem.W.kia_one PySem.W.kitx_dict I.kIn ⟨o, h1, h2.1⟩ e (fun z => nomatch z) h
  | @dT a kvs ea =>
    cases (show u = Value.ref a from rx)
    obtain ⟨_, _, xs, _, o, es, ep, h1, h2, _⟩ := (show ObjOk X.prog X.w H s.heap a (.dT kvs) from I.hok a _ ea)
    exact PySem.W.kia_one PySem.W.kitx_dict I.kIn ⟨o, h1, h2.1⟩ e (fun z => nomatch z) h
  | @ins a C dx fs ea cl ha hn htk hm =>
    cases (show u = Value.ref a from rx)
    obtain ⟨mA, O, _⟩ := ins_get I.hok ea
    obtain ⟨od, J, _⟩ := O.look
    exact PySem.W.kia_one (PySem.W.kitx_own (cl.get _) cl.hd ha hn htk hm) I.kIn J e (fun z => nomatch z) h
end
end L2
namespace L2
open PySem PySem.Spec PyProof.Rows
structure Room (k : Nat) (A : Around) : Prop where
  hd : A.handled = none
  dp : A.depth + 3 * k + 5 < recursionLimit
  un : A.units + 16 * k + 200 < cLine
  gd : A.guards = some []
theorem Room.mono {j k : Nat} {A : Around} (r : Room k A) (h : j ≤ k) : Room j A := ⟨r.hd, by have := r.dp; lia, by have := r.un; lia, r.gd⟩
theorem Room.deeper {k : Nat} {A : Around} (r : Room (k + 1) A) (env : Env) : Room k (A.deeper env) :=
  ⟨r.hd, by have := r.dp; show A.depth + 1 + 3 * k + 5 < _; lia, by have := r.un; show A.units + 3 + 16 * k + 200 < _; lia, r.gd⟩
theorem Room.depth {k : Nat} {A : Around} (r : Room k A) : A.depth < recursionLimit := by have := r.dp; lia
theorem Room.units {k : Nat} {A : Around} (r : Room k A) : A.units + 64 < cLine := by have := r.un; lia
def tNil : TA := fun _ H Q => Q [] H
def tCons (ta : TE) (tr : TA) : TA := fun σ H Q => ta σ H fun x H1 => tr σ H1 fun xs H2 => Q (x :: xs) H2
section
variable {X : Cx} {e : Expr} {es : List Expr} {te : TE} {t : TA} {pos : Pos}
theorem pa_nil : PA X [] tNil := fun _ _ _ _ H Q I h => Calls.spliced_nil ⟨[], H, I, .nil, h⟩
theorem pa_cons (ha : PE X e te) (hr : PA X es t) (hs : starEach (e :: es) X.env = (false, eval e X.env) :: starEach es X.env := by rfl) : PA X (e :: es) (tCons te t) := by
  intro pos pins s σ H Q I h
  rw [hs]
  show wpAny _ _ (spliced ((false, eval e X.env) :: backTo pos (starEach es X.env))) _ _ s
  refine Calls.spliced_cons (thn (ha pins s σ H _ I h) fun u s1 zz173 => el5 zz173 fun x H1 I1 r1 q1 => ?_)
  exact thn (hr pos pins s1 σ H1 _ I1 q1) fun us s2 zz174 => el5 zz174 fun xs H2 I2 r2 q2 => ⟨x :: xs, H2, I2, .cons r1 r2, q2⟩
def tTup (t : TA) : TE := fun σ H Q => t σ H fun xs H1 => xs.length ≤ sizeLine ∧ ∀ p, H1 p = none → Q (.ref p) (upd H1 p (.tup xs))
def tLst (t : TA) : TE := fun σ H Q => t σ H fun xs H1 => xs.length ≤ sizeLine ∧ ∀ p, H1 p = none → Q (.ref p) (upd H1 p (.lst xs))
theorem pe_tup {x1} (h : PA X es t) : PE X (.Tuple es x1 pos) (tTup t) := by
  intro pins s σ H Q I hq
  refine wpAny_Tuple_spliced (thn (h pos pins s σ H _ I hq) fun us s1 zz175 => zz175.elim fun xs zz176 => zz176.elim fun H1 zz177 => zz177.elim fun I1 zz178 => zz178.elim fun r zz179 => zz179.elim fun z q => ⟨by rw [← r.length]; exact z, ?_⟩)
  have hf : H1 s1.heap.objs.size = none := I1.hok.fresh (Nat.le_refl _)
  refine ⟨.ref s1.heap.objs.size, upd H1 s1.heap.objs.size (.tup xs), I1.laid (t' := s1.toks) (fun b u e => Heap.get?_push_of_some _ e) (Nat.le_refl _) ?_, rfl, q _ hf⟩
  exact ⟨z, us, r, ⟨_, Heap.get?_push_size _ rfl, rfl, _, rfl⟩⟩
theorem pe_lst (h : PA X es t) : PE X (.List es pos) (tLst t) := by
  intro pins s σ H Q I hq
  refine wpAny_List_spliced (thn (h pos pins s σ H _ I hq) fun us s1 zz180 => zz180.elim fun xs zz181 => zz181.elim fun H1 zz182 => zz182.elim fun I1 zz183 => zz183.elim fun r zz184 => zz184.elim fun z q => ⟨by rw [← r.length]; exact z, ?_⟩)
  have hf : H1 s1.heap.objs.size = none := I1.hok.fresh (Nat.le_refl _)
  refine ⟨.ref s1.heap.objs.size, upd H1 s1.heap.objs.size (.lst xs), I1.laid (t' := s1.toks) (fun b u e => Heap.get?_push_of_some _ e) (Nat.le_refl _) ?_, rfl, q _ hf⟩
  exact ⟨z, us, 0, r, Heap.get?_push_size _ rfl⟩
end
abbrev Sp := List V → Hp → VK → XK → Prop
abbrev CXT := List Env → Hp → Shared → XK → Value → Shared → Prop
structure Env0 (P : Program) (w : World) (K : PySem.W.Frag) (mg : Str → Option Value) (base : Heap) (A : Around) (outer : List Env) (s : Shared) (H : Hp) : Prop where
  frames : A.frames = some outer
  mod : Mod K mg base
  bs : ∀ b o, base.get? b = some o → s.heap.get? b = some o ∧ H b = none
  bsz : base.objs.size ≤ s.heap.objs.size
  funs : s.heap.FunFrames base outer
  frf : ∀ b ∈ frs outer, H b = none
  hok : HOk P w H s.heap
  bare : AllBare s.gens
def CE (outer : List Env) (P : Program) (w : World) (H : Hp) (s : Shared) (Q : VK) (u : Value) (s' : Shared) : Prop :=
  ∃ v H', s'.os = s.os ∧ AllBare s'.gens ∧ Un (frs outer) [] H H' s.heap s'.heap ∧ HOk P w H' s'.heap ∧ RelV v u ∧ Q v H'
def CR (CX : CXT) (outer : List Env) (P : Program) (w : World) (H : Hp) (s : Shared) (Q : VK) (E : XK) (r : Result) (s' : Shared) : Prop :=
  match r with
  | .ok (.ret u) => CE outer P w H s Q u s'
  | .ok _ => False
  | .error e => CX outer H s E e s'
structure FnOk (P : Program) (w : World) (K : PySem.W.Frag) (mg : Str → Option Value) (base : Heap) (CX : CXT) (k : Nat) (f : Addr) (fd : FuncData) (ps : List Str) (sp : Sp) : Prop where
  len : ∀ vs H Q E, sp vs H Q E → vs.length = ps.length
  run : ∀ (A : Around) (outer : List Env) (s : Shared) (H : Hp) (args : Args) (us : List Value) (vs : List V) (Q : VK) (E : XK), Room k A → Env0 P w K mg base A outer s H → BindsTo s fd args (ps.zip us) → Vals vs us → sp vs H Q E →
    codeAny (model P w) A (.call (.ref f) args) (CR CX outer P w H s Q E) s
theorem FnOk.imp {P : Program} {w : World} {K : PySem.W.Frag} {mg : Str → Option Value} {base : Heap} {CX : CXT} {k : Nat} {f : Addr} {fd : FuncData} {ps : List Str} {sp sp' : Sp} (F : FnOk P w K mg base CX k f fd ps sp)
    (h : ∀ vs H Q E, sp' vs H Q E → sp vs H Q E) : FnOk P w K mg base CX k f fd ps sp' :=
  ⟨fun vs H Q E q => F.len vs H Q E (h _ _ _ _ q), fun A outer s H args us vs Q E hr he hb hv hs => F.run A outer s H args us vs Q E hr he hb hv (h _ _ _ _ hs)⟩
section
variable {X : Cx} {pins : List (Addr × Obj)} {σ : St} {H : Hp} {s s' : Shared}
theorem Inv.env0 (I : Inv X pins σ H s) : Env0 X.prog X.w X.K X.mg X.base X.A X.stack s H :=
  ⟨I.ok.frames, I.ok.mod, I.bs, Nat.le_trans I.ok.bsz I.sz, I.stack, I.stkFree, I.hok, I.bare⟩
theorem Inv.after {Q : VK} {u : Value} (I : Inv X pins σ H s) (h : CE X.stack X.prog X.w H s Q u s') : EP X pins σ Q u s' := by
  obtain ⟨v, H', os, bare, un, hok, r, q⟩ := h
  obtain ⟨hh, g, d, t, os'⟩ := s'
  obtain rfl : os' = s.os := os
  exact ⟨v, H', I.call (h' := hh) (g' := g) (d' := d) (t' := t) (ch := []) un hok bare (fun b z => absurd z (by simp)), r, q⟩
end
def tCall (sp : Sp) (dvs : List V) (E : XK) (t : TA) : TE := fun σ H Q => t σ H fun vs H1 => sp (vs ++ dvs) H1 Q E
def Binds (K : PySem.W.Frag) (fd : FuncData) (ps : List Str) (ds : List Value) : Prop :=
  ∀ (s : Shared) (us : List Value), K.In s.heap → (us ++ ds).length = ps.length → BindsTo s fd ⟨us, []⟩ (ps.zip (us ++ ds))
theorem Binds.all {K : PySem.W.Frag} {fd : FuncData} {ps : List Str} (h : ∀ us : List Value, us.length = ps.length → bindArgs fd ⟨us, []⟩ = pure (ps.zip us)) : Binds K fd ps [] := fun s us _ hl => by
  rw [List.append_nil] at hl ⊢
  exact .of_eq (h us hl)
def Passes (CX : CXT) (X : Cx) (E : XK) : Prop := ∀ (pins : List (Addr × Obj)) (σ : St) (H : Hp) (s : Shared) (e : Value) (s' : Shared), Inv X pins σ H s → CX X.stack H s E e s' → X.xe e s'
section
variable {X : Cx} {CX : CXT} {k : Nat} {f C : Addr} {fd : FuncData} {ps : List Str} {sp : Sp} {dvs : List V} {ds : List Value} {E : XK} {x m : Str} {p pos apos : Pos} {e o : Expr} {es : List Expr} {ta : TE} {t : TA}
theorem run_fn {pins : List (Addr × Obj)} {σ : St} {H : Hp} {s : Shared} {Q : VK} {us : List Value} {vs : List V} (F : FnOk X.prog X.w X.K X.mg X.base CX k f fd ps sp) (hr : Room k X.A) (hb : Binds X.K fd ps ds) (hd : Vals dvs ds) (hx : Passes CX X E)
    (I : Inv X pins σ H s) (r : Vals vs us) (h : sp (vs ++ dvs) H Q E) : wpAny (model X.prog X.w) X.A (call (.ref f) us) (EP X pins σ Q) X.xe s := by
  have r2 : Vals (vs ++ dvs) (us ++ ds) := r.append hd
  have hl : (us ++ ds).length = ps.length := by rw [← r2.length]; exact F.len _ _ _ _ h
  refine wpAny_call (codeAny_mono (F.run X.A X.stack s H ⟨us, []⟩ (us ++ ds) (vs ++ dvs) Q E hr I.env0 (hb s us I.kIn hl) r2 h) fun r s' hq => ?_)
  cases r with
  | error e => exact hx pins σ H s e s' I hq
  | ok fl =>
    cases fl with
    | ret u => exact I.after hq
    | next => exact False.elim hq
    | brk => exact False.elim hq
    | cont => exact False.elim hq
theorem pe_call (F : FnOk X.prog X.w X.K X.mg X.base CX k f fd ps sp) (hr : Room k X.A) (hg : Gl X x) (hm : X.mg x = some (.ref f)) (hk : PySem.W.keepIn X.K (.ref f) = true) (hb : Binds X.K fd ps ds) (hd : Vals dvs ds) (hx : Passes CX X E)
    (ha : PA X (e :: es) t) (hdb : (x == ("__debug__" : Str)) = false := by decide) (he : starEach (e :: es) X.env = (false, eval e X.env) :: starEach es X.env := by rfl) (hpl : (backTo pos (starEach es X.env)).any (·.1) = false := by rfl) :
    PE X (.Call (.Name x p) (e :: es) [] pos) (tCall sp dvs E t) := by
  intro pins s σ H Q I h
  refine wpAny_Call_Name_kw (ld_glob I hg hm ?_ hdb)
  refine PySem.W.callWith_K (h₀ := X.base) I.ok.mod.kin hk (thn (ha pos pins s σ H _ I h) fun us s1 zz185 => el5 zz185 fun vs H1 I1 r q => ⟨I1.kIn, ?_⟩) he hpl
  exact run_fn F hr hb hd hx I1 r q
end
section
variable {X : Cx} {CX : CXT} {k : Nat} {f C : Addr} {fd : FuncData} {ps ks : List Str} {sp : Sp} {E : XK} {x m : Str} {p pos apos kpos : Pos} {e o : Expr} {es : List Expr} {kws : List Keyword} {te ta : TE} {t tk : TA} {nm : Option Str}
variable {g : List Value → List Value → List Value} {gV : List V → List V → List V}
end
structure FnScope (N P : List Str) (sc : Scope) : Prop where
  kind : sc.kind = .function
  co : sc.isCoroutine = false
  gen : sc.isGenerator = false
  nd : N.Nodup
  pre : N.take P.length = P
  par : ∀ x ∈ P, sc.names.lookup x = some .local ∨ sc.names.lookup x = some .cell
  nofree : ∀ y ∈ sc.names, y.2 ≠ .free
theorem bindL_out {kindOf : Str → Option NameKind} {x : Str} : ∀ {binds : List (Str × Value)} {m : Str → Option Value}, (∀ v, (x, v) ∉ binds) → bindL kindOf binds m x = m x
  | [], _, _ => rfl
  | (n, v) :: r, m, h => by
    unfold bindL
    rw [bindL_out fun w hw => h w (List.mem_cons_of_mem _ hw)]
    split
    · have : x ≠ n := by rintro rfl; exact h v List.mem_cons_self
      simp [this]
    · rfl
theorem bindC_out {kindOf : Str → Option NameKind} {x : Str} : ∀ {binds : List (Str × Value)} {m : Str → Option Value}, (∀ v, (x, v) ∉ binds) → bindC kindOf binds m x = m x
  | [], _, _ => rfl
  | (n, v) :: r, m, h => by
    unfold bindC
    rw [bindC_out fun w hw => h w (List.mem_cons_of_mem _ hw)]
    split
    · rfl
    · have : x ≠ n := by rintro rfl; exact h v List.mem_cons_self
      simp [this]
theorem bindL_get {kindOf : Str → Option NameKind} {x : Str} {v : Value} : ∀ {P : List Str} {vs : List Value} {i : Nat} {m : Str → Option Value}, P.Nodup → P[i]? = some x → vs[i]? = some v → kindOf x = some .local →
    bindL kindOf (P.zip vs) m x = some v
  | [], _, _, _, _, h, _, _ => by simp at h
  | _ :: _, [], _, _, _, _, h, _ => by simp at h
  | p :: P, w :: vs, 0, m, nd, h1, h2, hk => by
    simp at h1 h2; subst h1; subst h2
    show bindL kindOf ((p, w) :: P.zip vs) m p = _
    unfold bindL
    rw [bindL_out fun v hv => (List.nodup_cons.mp nd).1 (List.of_mem_zip hv).1, if_pos hk]
    simp
  | p :: P, w :: vs, i + 1, m, nd, h1, h2, hk => by
    show bindL kindOf ((p, w) :: P.zip vs) m x = _
    unfold bindL
    exact bindL_get (i := i) (List.nodup_cons.mp nd).2 (by simpa using h1) (by simpa using h2) hk
theorem bindC_get {kindOf : Str → Option NameKind} {x : Str} {v : Value} : ∀ {P : List Str} {vs : List Value} {i : Nat} {m : Str → Option Value}, P.Nodup → P[i]? = some x → vs[i]? = some v → kindOf x ≠ some .local →
    bindC kindOf (P.zip vs) m x = some v
  | [], _, _, _, _, h, _, _ => by simp at h
  | _ :: _, [], _, _, _, _, h, _ => by simp at h
  | p :: P, w :: vs, 0, m, nd, h1, h2, hk => by
    simp at h1 h2; subst h1; subst h2
    show bindC kindOf ((p, w) :: P.zip vs) m p = _
    unfold bindC
    rw [bindC_out fun v hv => (List.nodup_cons.mp nd).1 (List.of_mem_zip hv).1, if_neg hk]
    simp
  | p :: P, w :: vs, i + 1, m, nd, h1, h2, hk => by
    show bindC kindOf ((p, w) :: P.zip vs) m x = _
    unfold bindC
    exact bindC_get (i := i) (List.nodup_cons.mp nd).2 (by simpa using h1) (by simpa using h2) hk
def start (N : List Str) (vs : List V) : St := vs.map some ++ List.replicate (N.length - vs.length) none
def cxOf (CX : CXT) (P : Program) (w : World) (K : PySem.W.Frag) (mg : Str → Option Value) (base : Heap) (N : List Str) (qual : Str) (scope : Scope) (f : Addr) (cd : Value) (A : Around) (outer : List Env) (s : Shared) (H : Hp) (E : XK) : Cx where
  prog := P
  w := w
  K := K
  mg := mg
  base := base
  A := A.deeper (envOfC qual scope s.heap.objs.size f cd)
  N := N
  s₀ := s
  H₀ := H
  env := envOfC qual scope s.heap.objs.size f cd
  outer := outer
  stack := envOfC qual scope s.heap.objs.size f cd :: outer
  ex := []
  calm := true
  fn := fun _ => true
  pn := []
  xe := fun e s' => wpAny (model P w) (A.deeper (envOfC qual scope s.heap.objs.size f cd)) (leaving (envOfC qual scope s.heap.objs.size f cd) e) (fun _ s'' => CX outer H s E e s'') (fun e' s'' => CX outer H s E e' s'') s'
theorem cell_has {sc : Scope} {n : Nat} {x : Str} (h : sc.names.lookup x = some .cell) : ∃ c, (cellsFrom n sc.names []).lookup x = some c := by
  have q := PySem.W.cellsFrom_some sc.names n [] (.inl h)
  exact Option.isSome_iff_exists.mp q
theorem inv_start {CX : CXT} {P : Program} {w : World} {K : PySem.W.Frag} {mg : Str → Option Value} {base : Heap} {N ps : List Str} {qual : Str} {scope : Scope} {f : Addr} {cd : Value} {A : Around} {outer : List Env} {s s1 : Shared} {H : Hp} {E : XK} {us : List Value} {vs : List V}
    (S : FnScope N ps scope) (hd : A.handled = none) (e0 : Env0 P w K mg base A outer s H) (hl : vs.length = ps.length) (r : Vals vs us)
    (x : InCallC s s.heap.objs.size (bindL (envOfC qual scope s.heap.objs.size f cd).kindOf (ps.zip us) fun _ => none) (cellsFrom (s.heap.objs.size + 1) scope.names []) (bindC (envOfC qual scope s.heap.objs.size f cd).kindOf (ps.zip us) fun _ => none) s1) :
    Inv (cxOf CX P w K mg base N qual scope f cd A outer s H E) [] (start N vs) H s1 := by
  have hpl : ps.length ≤ N.length := by have := congrArg List.length S.pre; rw [List.length_take] at this; lia
  obtain ⟨h1, tk, rfl, hk⟩ := x.done
  have noA : ∀ b : Addr, b ∉ (cxOf CX P w K mg base N qual scope f cd A outer s H E).ex := fun b z => absurd (show b ∈ ([] : List Addr) from z) (by simp)
  refine ⟨⟨e0.mod, S.kind, rfl, rfl, Nat.le_refl _, fun y z c h1 h2 => ?_, fun y hy => ?_, fun y c _ h => ?_, fun _ => hd, Around.frames_deeper e0.frames, .inr ⟨rfl, rfl⟩, fun b z => absurd z (noA b), e0.bs, e0.bsz, fun b _ _ => noA b, fun b z => absurd z (noA b), e0.funs, e0.frf⟩,
    rfl, e0.bare, Un.kept hk, ⟨_, x.toInCall.ns, fun i y v h1 h2 h3 => ?_⟩, fun y c h => ⟨_, x.cell y c h⟩, e0.hok.fresh (Nat.le_refl _), fun y c h => ?_, fun p hp => absurd (show p ∈ ([] : List (Addr × Obj)) from hp) (by simp), e0.hok.kept hk, ?_⟩
  · exact name_of_addr x.apart (PySem.mem_of_lookup h1) (PySem.mem_of_lookup h2)
  · have hy : scope.names.lookup y = some .cell ∨ scope.names.lookup y = some .free := hy
    rcases hy with hy | hy
    · exact cell_has hy
    · exact absurd rfl (S.nofree _ (PySem.mem_of_lookup hy))
  · exact Nat.le_of_lt (x.above y c (PySem.mem_of_lookup h))
  · have hi : i < vs.length := by
      unfold start at h2
      by_cases hi : i < vs.length
      · exact hi
      · rw [List.getElem?_append_right (by simpa using hi)] at h2
        rw [List.getElem?_replicate] at h2
        split at h2 <;> cases h2
    have ha : vs[i]? = some v := by
      unfold start at h2
      rw [List.getElem?_append_left (by simpa using hi), List.getElem?_map] at h2
      cases e : vs[i]? with
      | none => rw [e] at h2; cases h2
      | some a => rw [e] at h2; cases h2; rfl
    obtain ⟨u, hu, rv⟩ := r.get ha
    have hp : ps[i]? = some y := by
      rw [← S.pre, List.getElem?_take_of_lt (by lia)]; exact h1
    have ndP : ps.Nodup := by rw [← S.pre]; exact S.nd.sublist (List.take_sublist _ _)
    refine ⟨u, rv, ?_⟩
    rcases S.par y (List.mem_of_getElem? hp) with k | k
    · exact .inl ⟨k, bindL_get ndP hp hu k⟩
    · obtain ⟨c, e⟩ := cell_has (n := s.heap.objs.size + 1) k
      refine .inr ⟨.inl k, c, e, ?_⟩
      have q := x.cell y c e
      rw [bindC_get ndP hp hu (by show scope.names.lookup y ≠ _; rw [k]; decide)] at q
      exact q
  · exact e0.hok.fresh (Nat.le_of_lt (x.above y c (PySem.mem_of_lookup h)))
  · unfold start
    show _ = N.length
    rw [List.length_append, List.length_map, List.length_replicate]
    lia
theorem fn_of {CX : CXT} {P : Program} {w : World} {K : PySem.W.Frag} {mg : Str → Option Value} {base : Heap} {k : Nat} {f : Addr} {name qual : Str} {params : Arguments} {body : List Stmt} {scope : Scope} {dV kV doc pm cdv ct oc : Value} {an od : Option Addr}
    {osl : Array (Option Value)} {N ps : List Str} {sp : Sp} (lk : K.lookup f = some ⟨oc, od, .func (PySem.W.fnOf name qual params body scope dV kV doc pm an cdv ct), osl⟩) (hcd : PySem.W.codeIn K cdv qual = true) (S : FnScope N ps scope)
    (len : ∀ vs H Q E, sp vs H Q E → vs.length = ps.length)
    (hbody : ∀ (A : Around) (outer : List Env) (s : Shared) (H : Hp) (vs : List V) (Q : VK) (E : XK), Room k (A.deeper (envOfC qual scope s.heap.objs.size f cdv)) → sp vs H Q E →
      ∃ t, PSs (cxOf CX P w K mg base N qual scope f cdv A outer s H E) body t ∧ t { nx := fun _ H' => Q .non H', rt := Q } (start N vs) H) :
    FnOk P w K mg base CX (k + 1) f (PySem.W.fnOf name qual params body scope dV kV doc pm an cdv ct) ps sp := by
  refine ⟨len, fun A outer s H args us vs Q E hr e0 hb r hsp => ?_⟩
  have hl := len _ _ _ _ hsp
  have KX : K.In s.heap := e0.mod.kin.keeps fun b o e => (e0.bs b o e).1
  have lim : s.heap.NoLimit := e0.mod.nolimit.keeps fun b o e => (e0.bs b o e).1
  have hkind : ∀ y ∈ ps.zip us, scope.names.lookup y.1 = some .local ∨ (scope.names.lookup y.1 = some .cell ∧ ((cellsFrom (s.heap.objs.size + 1) scope.names []).lookup y.1).isSome = true) := fun ⟨n, v⟩ hy => by
    rcases S.par n (List.of_mem_zip hy).1 with q | q
    · exact .inl q
    · exact .inr ⟨q, PySem.W.cellsFrom_some _ _ _ (.inl q)⟩
  refine codeAny_call_function hr.depth (KX _ _ lk) rfl S.co S.gen rfl (PySem.W.codeRec_of KX hcd) (hb _ _ _ _ ?_)
  refine wpAny_newFunctionEnv_cells S.kind hkind fun env he s1 x => ?_
  subst he
  refine ⟨lim.keeps x.toInCall.keep, codeAny_func ?_⟩
  obtain ⟨t, ht, hq⟩ := hbody A outer s H vs Q E (hr.deeper _) hsp
  have I : Inv (cxOf CX P w K mg base N qual scope f cdv A outer s H E) [] (start N vs) H s1 := inv_start S hr.hd e0 hl r x
  refine wpAny_mono (ht [] s1 (start N vs) H _ I hq) (fun fl s' hs => ?_) fun e s' hs => hs
  have fin : ∀ {σ' : St} {H' : Hp} {v : V} {u : Value}, Inv (cxOf CX P w K mg base N qual scope f cdv A outer s H E) [] σ' H' s' → RelV v u → Q v H' → CE outer P w H s Q u s' :=
    fun {σ' H' v u} J rv q => ⟨v, H', J.os, J.bare, J.base, J.hok, rv, q⟩
  cases fl with
  | ret u =>
    obtain ⟨v, σ', H', J, rv, q⟩ := hs
    exact fin J rv q
  | next =>
    obtain ⟨σ', H', J, q⟩ := hs
    exact fin (v := V.non) (u := Value.none) J rfl q
  | brk =>
    obtain ⟨_, _, _, q⟩ := hs
    exact False.elim q
  | cont =>
    obtain ⟨_, _, _, q⟩ := hs
    exact False.elim q
end L2
namespace L2
open PySem PySem.Spec PyProof.Rows
section
variable {X : Cx} {x : Str} {p pos : Pos} {e : Expr} {es : List Expr} {t : TA} {id T : String} {r : List V → Hp → VK → Prop}
def tCB (r : List V → Hp → VK → Prop) (t : TA) : TE := fun σ H Q => t σ H fun vs H1 => r vs H1 Q
theorem pe_callB (hc : CallR X (.builtin id) r) (hg : Gl X x) (hm : X.mg x = none) (hv : bootBuiltins x = some (.builtin id)) (ha : PA X (e :: es) t) (hn : x ≠ "__name__" := by decide) (hdb : (x == ("__debug__" : Str)) = false := by decide)
    (he : starEach (e :: es) X.env = (false, eval e X.env) :: starEach es X.env := by rfl) (hpl : (backTo pos (starEach es X.env)).any (·.1) = false := by rfl) : PE X (.Call (.Name x p) (e :: es) [] pos) (tCB r t) := by
  intro pins s σ H Q I h
  refine wpAny_Call_Name_kw (ld_blt I hg hm hv ?_ hn hdb)
  exact PyProof.Rows.callWith_builtin1 (thn (ha pos pins s σ H _ I h) fun us s1 zz213 => el5 zz213 fun vs H1 I1 r1 q1 => hc pins s1 σ H1 vs us Q I1 r1 q1) he hpl
theorem pe_callTy (hc : CallR X (.type T) r) (hg : Gl X x) (hm : X.mg x = none) (hv : bootBuiltins x = some (.type T)) (ha : PA X (e :: es) t) (hn : x ≠ "__name__" := by decide) (hdb : (x == ("__debug__" : Str)) = false := by decide)
    (he : starEach (e :: es) X.env = (false, eval e X.env) :: starEach es X.env := by rfl) (hpl : (backTo pos (starEach es X.env)).any (·.1) = false := by rfl) : PE X (.Call (.Name x p) (e :: es) [] pos) (tCB r t) := by
  intro pins s σ H Q I h
  refine wpAny_Call_Name_kw (ld_blt I hg hm hv ?_ hn hdb)
  exact PyProof.Rows.callWith_type1 (thn (ha pos pins s σ H _ I h) fun us s1 zz214 => el5 zz214 fun vs H1 I1 r1 q1 => hc pins s1 σ H1 vs us Q I1 r1 q1) he hpl
end
end L2
namespace HT
open PySem PyProof.Rows
section
open PySem.SeqAt
open PySem.AutoSeq1 (wpAny_loadPart')
open PySem.MeetsSeq PySem.MeetsSeq2 PySem.MeetsSeq3
end
section
variable {prog : Program} {w : World} {A : Around} {E : Value → Shared → Prop} {s : Shared}
def sIx (n d : Nat) : Option Int → Nat
  | none => d
  | some v => if v < 0 then (v + (n : Int)).toNat else min v.toNat n
theorem sIx_none (n d : Nat) : sIx n d none = d := rfl
theorem sIx_nat (n d k : Nat) : sIx n d (some (k : Int)) = min k n := by
  show (if (k : Int) < 0 then ((k : Int) + (n : Int)).toNat else min (k : Int).toNat n) = min k n
  rw [if_neg (by lia), Int.toNat_natCast]
end
end HT
namespace L2
open PySem PySem.Spec PyProof.Rows
abbrev TO := St → Hp → (Option Int → Hp → Prop) → Prop
def PO (X : Cx) (e : Option Expr) (t : TO) : Prop :=
  ∀ (pins : List (Addr × Obj)) (s : Shared) (σ : St) (H : Hp) (Q : Option Int → Hp → Prop), Inv X pins σ H s → t σ H Q →
    wpAny (model X.prog X.w) X.A (evalPart e X.env) (fun u s' => ∃ o H', Inv X pins σ H' s' ∧ IsPart u o ∧ Q o H') X.xe s
def tNoPart : TO := fun _ H Q => Q none H
def tPart (t : TE) : TO := fun σ H Q => t σ H fun x H1 => ∃ i, x = .int i ∧ Q (some i) H1
section
variable {X : Cx} {e : Expr} {te : TE} {lo hi : Option Expr} {tl th : TO} {pos p2 : Pos}
theorem po_none : PO X none tNoPart := by
  intro pins s σ H Q I h
  rw [evalPart_none]
  exact wpAny_pure ⟨none, H, I, .none, h⟩
theorem po_some (h : PE X e te) : PO X (some e) (tPart te) := by
  intro pins s σ H Q I hw
  rw [evalPart_some]
  refine thn (h pins s σ H _ I hw) fun u s1 zz215 => el5 zz215 fun x H1 I1 r1 q1 => ?_
  obtain ⟨i, rfl, q⟩ := q1
  obtain ⟨t, rfl⟩ := r1
  exact ⟨some i, H1, I1, .int i t, q⟩
def SlR (X : Cx) (r : V → Option Int → Option Int → Hp → VK → Prop) : Prop :=
  ∀ (pins : List (Addr × Obj)) (s : Shared) (σ : St) (H : Hp) (x : V) (v vl vu : Value) (lo hi : Option Int) (sl : Addr) (Q : VK), Inv X pins σ H s → RelV x v → s.heap.IsSliceOf sl vl vu .none → IsPart vl lo → IsPart vu hi → r x lo hi H Q →
    ∃ T id, typeLookup (.type T) "__getitem__" = pure (some (.builtin id)) ∧ s.TypeIs v T ∧ wpAny (model X.prog X.w) X.A (getItem v (.ref sl)) (EP X pins σ Q) X.xe s
def tSl (r : V → Option Int → Option Int → Hp → VK → Prop) (te : TE) (tl th : TO) : TE := fun σ H Q => te σ H fun x H1 => tl σ H1 fun l H2 => th σ H2 fun u H3 => r x l u H3 Q
theorem pe_slice {r : V → Option Int → Option Int → Hp → VK → Prop} (hr : SlR X r) (he : PE X e te) (hl : PO X lo tl) (hu : PO X hi th) : PE X (.Subscript e (.Slice lo hi none p2) pos) (tSl r te tl th) := by
  intro pins s σ H Q I h
  refine Subscript_ (thn (he pins s σ H _ I h) fun v s1 zz216 => el5 zz216 fun x H1 I1 r1 q1 => ?_)
  refine wpAny_Slice (thn (hl pins s1 σ H1 _ I1 q1) fun vl s2 zz217 => el5 zz217 fun l H2 I2 pl q2 => thn (hu pins s2 σ H2 _ I2 q2) fun vu s3 zz218 => el5 zz218 fun u H3 I3 pu q3 => ?_)
  rw [evalPart_none]
  refine wpAny_pure ?_
  have I4 : Inv X pins σ H3 { s3 with heap := s3.heap.push { cls := .type "slice", data := .fields #[vl, vu, .none] } } := I3.kept (t' := s3.toks) fun b ob q => Heap.get?_push_of_some _ q
  obtain ⟨T, id, hT, ht, hg⟩ := hr pins { s3 with heap := s3.heap.push { cls := .type "slice", data := .fields #[vl, vu, .none] } } σ H3 x v vl vu l u s3.heap.objs.size Q I4 r1 (Heap.IsSliceOf.new ..) pl pu q3
  show wpAny (model X.prog X.w) X.A (subscriptTail e (.Slice lo hi none p2) v (.ref s3.heap.objs.size)) (EP X pins σ Q) X.xe { s3 with heap := s3.heap.push { cls := .type "slice", data := .fields #[vl, vu, .none] } }
  exact tail_any (ops := [.ref s3.heap.objs.size, v]) ht hT hg (by with_unfolding_all rfl)
def cutV (xs : List V) (lo hi : Option Int) : List V := (xs.drop (HT.sIx xs.length 0 lo)).take (HT.sIx xs.length xs.length hi - HT.sIx xs.length 0 lo)
theorem cutV_length (xs : List V) (lo hi : Option Int) : (cutV xs lo hi).length ≤ xs.length := by
  unfold cutV
  rw [List.length_take, List.length_drop]
  lia
end
end L2
namespace L2
open PySem PySem.Spec PyProof.Rows
def ixN (n : Nat) (i : Int) : Option Nat := if 0 ≤ i then (if i < n then some i.toNat else none) else if -(n : Int) ≤ i then some (i + n).toNat else none
def atI {α : Type} (xs : List α) (i : Int) : Option α := (ixN xs.length i).bind fun j => xs[j]?
theorem ixN_seq {n : Nat} {i : Int} {j : Nat} (h : ixN n i = some j) : seqIndex? i n = some j ∧ j < n ∧ -(n : Int) ≤ i ∧ i < n := by
  unfold ixN at h
  by_cases h0 : 0 ≤ i
  · rw [if_pos h0] at h
    by_cases h1 : i < n
    · rw [if_pos h1] at h
      have e : i.toNat = j := Option.some.inj h
      exact ⟨by rw [seqIndex_of h0 h1, e], by lia, by lia, h1⟩
    · rw [if_neg h1] at h; cases h
  · rw [if_neg h0] at h
    by_cases h1 : -(n : Int) ≤ i
    · rw [if_pos h1] at h
      have e : (i + n).toNat = j := Option.some.inj h
      exact ⟨by rw [seqIndex_neg (by lia) h1, e], by lia, h1, by lia⟩
    · rw [if_neg h1] at h; cases h
theorem atI_get {α : Type} {xs : List α} {i : Int} {v : α} (h : atI xs i = some v) : ∃ j, seqIndex? i xs.length = some j ∧ xs[j]? = some v ∧ j < xs.length ∧ -(xs.length : Int) ≤ i ∧ i < xs.length := by
  unfold atI at h
  cases e : ixN xs.length i with
  | none => rw [e] at h; cases h
  | some j =>
    rw [e] at h
    obtain ⟨h1, h2, h3, h4⟩ := ixN_seq e
    exact ⟨j, h1, h, h2, h3, h4⟩
theorem atI_nat {α : Type} {xs : List α} {j : Nat} {v : α} (h : xs[j]? = some v) : atI xs (j : Int) = some v := by
  have hj : j < xs.length := (List.getElem?_eq_some_iff.mp h).1
  have e : ixN xs.length (j : Int) = some j := by
    unfold ixN
    rw [if_pos (by lia), if_pos (by lia)]; simp
  unfold atI; rw [e]; exact h
theorem atI_last {α : Type} (xs : List α) (v : α) : atI (xs ++ [v]) (-1) = some v := by
  have hl : (xs ++ [v]).length = xs.length + 1 := by simp
  have e : ixN (xs ++ [v]).length (-1) = some xs.length := by
    unfold ixN
    rw [hl, if_neg (by decide), if_pos (by lia)]
    congr 1
    lia
  unfold atI
  rw [e]
  show (xs ++ [v])[xs.length]? = some v
  simp
def PlainIx (b : Expr) : Prop := ∀ o i, subscripted b false o i = operate [o, i] (getItem o i)
def IxR (X : Cx) (r : R2) : Prop :=
  ∀ (value slice : Expr) (pins : List (Addr × Obj)) (s : Shared) (σ : St) (H : Hp) (x y : V) (v u : Value) (Q : VK), Inv X pins σ H s → RelV x v → RelV y u → r x y H Q →
    subscripted slice false v u = operate [v, u] (getItem v u) → wpAny (model X.prog X.w) X.A (subscriptTail value slice v u) (EP X pins σ Q) X.xe s
def MtR (X : Cx) (id : String) (r : V → List V → Hp → VK → Prop) : Prop :=
  ∀ (pins : List (Addr × Obj)) (s : Shared) (σ : St) (H : Hp) (x : V) (xs : List V) (v : Value) (us : List Value) (Q : VK), Inv X pins σ H s → RelV x v → Vals xs us → r x xs H Q →
    wpAny (model X.prog X.w) X.A (call (.builtin id) (v :: us)) (EP X pins σ Q) X.xe s
section
variable {X : Cx} {a b : Expr} {ta tb : TE} {pos : Pos}
theorem IxR.or {r r' : R2} (h : IxR X r) (h' : IxR X r') : IxR X (fun x y H Q => r x y H Q ∨ r' x y H Q) := by
  intro value slice pins s σ H x y v u Q I rx ry q hs
  rcases q with q | q
  · exact h value slice pins s σ H x y v u Q I rx ry q hs
  · exact h' value slice pins s σ H x y v u Q I rx ry q hs
theorem pe_ix {r : R2} (hr : IxR X r) (ha : PE X a ta) (hb : PE X b tb) (hs : PlainIx b) : PE X (.Subscript a b pos) (tOp r ta tb) := by
  intro pins s σ H Q I h
  exact Subscript_ (binT ha hb I h fun v u s2 x y H2 I2 rx ry q => hr a b pins s2 σ H2 x y v u Q I2 rx ry q (hs _ _))
def rIxL (K : PySem.W.Frag) : R2 := fun x y H Q => ∃ p xs i v, x = .ref p ∧ y = .int i ∧ SqL K H p xs ∧ atI xs i = some v ∧ Q v H
def rIxT (K : PySem.W.Frag) : R2 := fun x y H Q => ∃ p xs i v, x = .ref p ∧ y = .int i ∧ SqT K H p xs ∧ atI xs i = some v ∧ Q v H
def rIxS : R2 := fun x y H Q => ∃ z i c, x = .str z ∧ y = .int i ∧ z.length ≤ sizeLine ∧ atI z.cps.toList i = some c ∧ Q (.str ⟨#[c]⟩) H
theorem ix_list : IxR X (rIxL X.K) := by
  intro value slice pins s σ H x y v u Q I rx ry h hs
  obtain ⟨p, xs, i, z, rfl, rfl, hq, he, q⟩ := h
  cases rx
  obtain ⟨t, rfl⟩ := ry
  obtain ⟨its, r, pl, hz⟩ := I.list hq
  obtain ⟨j, h1, h2, h3, h4, h5⟩ := atI_get he
  obtain ⟨w, ew, rw'⟩ := r.get h2
  have hl := r.length
  have hn := line63
  have fin : EP X pins σ Q w s := ⟨z, H, I, rw', q⟩
  by_cases h0 : 0 ≤ i
  · have hj : i.toNat = j := by
      rw [seqIndex_of h0 h5] at h1
      exact Option.some.inj h1
    exact item_listR pl.isList h0 (by lia) (by rw [hj]; simpa using ew) fin hs
  · have hj : (i + (its.toArray.size : Int)).toNat = j := by
      rw [seqIndex_neg (by lia) h4] at h1
      rw [List.size_toArray, ← hl]
      exact Option.some.inj h1
    exact subscriptTail_builtinR (x := w) pl.isList.typeIs slot_list_getitem.lookup
      (wpAny_getItem_list_neg (Q := fun r s' => r = w ∧ EP X pins σ Q r s') pl.isList (by lia) (by rw [List.size_toArray] <;> lia) (by lia) (by rw [hj]; simpa using ew) ⟨rfl, fin⟩) hs
theorem ix_tup : IxR X (rIxT X.K) := by
  intro value slice pins s σ H x y v u Q I rx ry h hs
  obtain ⟨p, xs, i, z, rfl, rfl, hq, he, q⟩ := h
  cases rx
  obtain ⟨t, rfl⟩ := ry
  obtain ⟨its, r, pl, hz⟩ := I.tuple hq
  obtain ⟨j, h1, h2, h3, h4, h5⟩ := atI_get he
  obtain ⟨w, ew, rw'⟩ := r.get h2
  have hl := r.length
  have hn := line63
  have fin : EP X pins σ Q w s := ⟨z, H, I, rw', q⟩
  exact subscriptTail_builtinR (x := w) pl.typeIs slot_tuple_getitem.lookup
    (getItem_tuple (j := j) (Q := fun r s' => r = w ∧ EP X pins σ Q r s') pl (by lia) (by lia) (by rw [List.size_toArray, ← hl]; exact h1) (by simpa using ew) ⟨rfl, fin⟩) hs
theorem ix_str : IxR X rIxS := by
  intro value slice pins s σ H x y v u Q I rx ry h hs
  obtain ⟨z, i, c, rfl, rfl, hz, he, q⟩ := h
  obtain ⟨t, rfl⟩ := rx
  obtain ⟨t', rfl⟩ := ry
  obtain ⟨j, h1, h2, h3, h4, h5⟩ := atI_get he
  have hl : z.cps.toList.length = z.length := by simp [Str.length]
  rw [hl] at h1 h4 h5
  have hn := line63
  exact tail_any (typeIs_str s z t) slot_str_getitem.lookup (getItem_str (c := c) (by
    have e1 : decide (i < -(2 ^ 63 : Int)) = false := decide_eq_false (by lia)
    have e2 : decide (i ≥ 2 ^ 63) = false := decide_eq_false (by lia)
    rw [e1, e2, Bool.or_false]) (by rw [h1]; simpa using h2) ⟨.str ⟨#[c]⟩, H, I.tok _, ⟨_, rfl⟩, q⟩) hs
def rIx (K : PySem.W.Frag) : R2 := fun x y H Q => rIxL K x y H Q ∨ rIxT K x y H Q ∨ rIxS x y H Q
theorem ix_seq : IxR X (rIx X.K) := ix_list.or (ix_tup.or ix_str)
theorem mapSeq_set (its : List Value) (n j : Nat) (u : Value) : Obj.mapSeq (·.setIfInBounds j u) { cls := .type "list", data := .seq its.toArray n } = { cls := .type "list", data := .seq (its.set j u).toArray n } := by
  simp [Obj.mapSeq]
theorem Inv.lst {pins : List (Addr × Obj)} {σ : St} {H : Hp} {s : Shared} {p : Addr} {xs : List V} (I : Inv X pins σ H s) (h : H p = some (.lst xs)) :
    ∃ (its : List Value) (n : Nat), Vals xs its ∧ s.heap.get? p = some { cls := .type "list", data := .seq its.toArray n } ∧ xs.length ≤ sizeLine := by
  obtain ⟨z, its, n, r, e⟩ := I.hok p _ h
  exact ⟨its, n, r, e, z⟩
theorem Inv.lstUpd {pins : List (Addr × Obj)} {σ : St} {H : Hp} {s : Shared} {p : Addr} {xs ys : List V} {its its' : List Value} {n n' : Nat} {f : Obj → Obj} (I : Inv X pins σ H s) (h : H p = some (.lst xs))
    (ho : s.heap.get? p = some { cls := .type "list", data := .seq its.toArray n }) (hf : f { cls := .type "list", data := .seq its.toArray n } = { cls := .type "list", data := .seq its'.toArray n' }) (r : Vals ys its') (hz : ys.length ≤ sizeLine) (t : Nat) :
    Inv X pins σ (upd H p (.lst ys)) { s with heap := s.heap.update p f, toks := t } := by
  have e : (s.heap.update p f).get? p = some { cls := .type "list", data := .seq its'.toArray n' } := by
    rw [Heap.get?_update_self f ho (by rw [hf] <;> rfl), hf]
  refine I.write (x := p) (e := p) (by rw [h]; trivial) (.inl rfl) (fun b u hb q => (Heap.get?_update_other _ _ (Ne.symm hb)).trans q) ⟨_, e⟩ ?_
  exact ⟨hz, its', n', r, e⟩
def rSetL : V → V → V → Hp → (Hp → Prop) → Prop := fun o i v H Q => ∃ p xs k j, o = .ref p ∧ i = .int k ∧ H p = some (.lst xs) ∧ ixN xs.length k = some j ∧ Q (upd H p (.lst (xs.set j v)))
theorem set_list : PSet X rSetL := by
  intro pins s σ H o i v ov iv u Q I ro ri rv h
  obtain ⟨p, xs, k, j, rfl, rfl, hp, hj, q⟩ := h
  cases ro
  obtain ⟨t, rfl⟩ := ri
  obtain ⟨its, n, r, ho, hz⟩ := I.lst hp
  obtain ⟨h1, h2, h3, h4⟩ := ixN_seq hj
  have hl := r.length
  have hn := line63
  have I' : Inv X pins σ (upd H p (.lst (xs.set j v))) { s with heap := s.heap.update p (Obj.mapSeq (·.setIfInBounds j u)) } :=
    I.lstUpd hp ho (mapSeq_set its n j u) (r.set rv j) (by rw [List.length_set]; exact hz) s.toks
  by_cases h0 : 0 ≤ k
  · have hk : k.toNat = j := by
      rw [seqIndex_of h0 h4] at h1
      exact Option.some.inj h1
    exact PySem.W.ki_setAt ho h0 (by lia) (by rw [List.size_toArray, ← hl]; exact h4) (by rw [hk]; exact ⟨_, I', q⟩)
  · have hk : (k + (its.toArray.size : Int)).toNat = j := by
      rw [seqIndex_neg (by lia) h3] at h1
      rw [List.size_toArray, ← hl]
      exact Option.some.inj h1
    exact PySem.W.ki_setBack ho (by lia) (by rw [List.size_toArray, ← hl]; exact h3) (by lia) (by rw [hk]; exact ⟨_, I', q⟩)
theorem slice_bounds (lo hi : Option Int) (n : Nat) : (sliceBounds lo hi none n).1 = ((HT.sIx n 0 lo : Nat) : Int) ∧ (sliceBounds lo hi none n).2.1 = ((HT.sIx n n hi : Nat) : Int) ∧ (sliceBounds lo hi none n).2.2 = 1 := by
  refine ⟨?_, ?_, rfl⟩
  · cases lo with
    | none => simp [sliceBounds, HT.sIx]
    | some i =>
      simp only [sliceBounds, HT.sIx, Option.getD_none, show (1 : Int) > 0 by decide, if_true]
      by_cases h : i < 0
      · simp only [h, if_true] <;> lia
      · simp only [h, if_false] <;> lia
  · cases hi with
    | none => simp [sliceBounds, HT.sIx]
    | some i =>
      simp only [sliceBounds, HT.sIx, Option.getD_none, show (1 : Int) > 0 by decide, if_true]
      by_cases h : i < 0
      · simp only [h, if_true] <;> lia
      · simp only [h, if_false] <;> lia
theorem slicePick_cut (its : List Value) (lo hi : Option Int) : slicePick its.toArray lo hi none = ((its.drop (HT.sIx its.length 0 lo)).take (HT.sIx its.length its.length hi - HT.sIx its.length 0 lo)).toArray := by
  obtain ⟨h1, h2, h3⟩ := slice_bounds lo hi its.toArray.size
  unfold slicePick
  rw [h1, h2, h3]
  simp only [sliceRange_one, pick_run, List.size_toArray] <;> rfl
def rSlL (K : PySem.W.Frag) : V → Option Int → Option Int → Hp → VK → Prop := fun x lo hi H Q => ∃ a xs, x = .ref a ∧ SqL K H a xs ∧ ∀ p, H p = none → Q (.ref p) (upd H p (.lst (cutV xs lo hi)))
theorem sl_list : SlR X (rSlL X.K) := by
  intro pins s σ H x v vl vu lo hi sl Q I rx hs pl pu h
  obtain ⟨a, xs, rfl, hx, q⟩ := h
  cases rx
  obtain ⟨its, r, ht, hz⟩ := I.list hx
  have hlen := r.length
  refine ⟨"list", _, slot_list_getitem.lookup, ht.isList.typeIs, ?_⟩
  refine wpAny_getItem_list_slice ht.isList hs pl pu .none (by simp) ?_ (by rw [List.size_toArray] <;> lia)
  rw [slicePick_cut, ← hlen]
  refine ⟨.ref s.heap.objs.size, _, I.laid (t' := s.toks) (o := .lst (cutV xs lo hi)) (fun b ob q => Heap.get?_push_of_some _ q) (Nat.le_refl _) ?_, rfl, q _ (I.hok.fresh (Nat.le_refl _))⟩
  exact ⟨Nat.le_trans (cutV_length xs lo hi) hz, _, 0, (r.drop (HT.sIx xs.length 0 lo)).take (HT.sIx xs.length xs.length hi - HT.sIx xs.length 0 lo), Heap.get?_push_size _ rfl⟩
def flatV : V → Bool
  | .non => true
  | .bl _ => true
  | .int _ => true
  | .str _ => true
  | _ => false
def eqV : V → V → Bool
  | .non, .non => true
  | .bl a, .bl b => a == b
  | .bl a, .int b => (if a then 1 else 0) == b
  | .int a, .bl b => a == (if b then 1 else 0)
  | .int a, .int b => a == b
  | .str a, .str b => a == b
  | _, _ => false
theorem eqAt_V {A : Around} {s : Shared} {y x : V} {u v : Value} (ry : RelV y u) (rx : RelV x v) (fy : flatV y = true) (fx : flatV x = true) : SeqAt.EqAt A s u v (eqV y x) := by
  cases y with
  | non =>
    cases ry
    cases x with
    | non => cases rx; exact SeqAt.EqAt.same _
    | bl b => cases rx; exact SeqAt.EqAt.none_bool b
    | int b => obtain ⟨t, rfl⟩ := rx; exact SeqAt.EqAt.none_int b t
    | str b => obtain ⟨t, rfl⟩ := rx; exact SeqAt.EqAt.none_str b t
    | _ => exact absurd (show false = true from fx) Bool.false_ne_true
  | bl a =>
    cases ry
    cases x with
    | non => cases rx; exact SeqAt.EqAt.bool_none a
    | bl b => cases rx; exact SeqAt.EqAt.bool_bool a b
    | int b => obtain ⟨t, rfl⟩ := rx; exact SeqAt.EqAt.bool_int a b t
    | str b => obtain ⟨t, rfl⟩ := rx; exact SeqAt.EqAt.bool_str a b t
    | _ => exact absurd (show false = true from fx) Bool.false_ne_true
  | int a =>
    obtain ⟨t', rfl⟩ := ry
    cases x with
    | non => cases rx; exact SeqAt.EqAt.int_none a t'
    | bl b => cases rx; exact SeqAt.EqAt.int_bool a t' b
    | int b => obtain ⟨t, rfl⟩ := rx; exact SeqAt.EqAt.int_int a t' b t
    | str b => obtain ⟨t, rfl⟩ := rx; exact SeqAt.EqAt.int_str a t' b t
    | _ => exact absurd (show false = true from fx) Bool.false_ne_true
  | str a =>
    obtain ⟨t', rfl⟩ := ry
    cases x with
    | non => cases rx; exact SeqAt.EqAt.str_none a t'
    | bl b => cases rx; exact SeqAt.EqAt.str_bool a t' b
    | int b => obtain ⟨t, rfl⟩ := rx; exact SeqAt.EqAt.str_int a t' b t
    | str b => obtain ⟨t, rfl⟩ := rx; exact SeqAt.EqAt.str_str a t' b t
    | _ => exact absurd (show false = true from fx) Bool.false_ne_true
  | _ => exact absurd (show false = true from fy) Bool.false_ne_true
def eqU (x : V) (u : Value) : Bool := match u with
  | .none => eqV .non x
  | .bool b => eqV (.bl b) x
  | .int i _ => eqV (.int i) x
  | .str z _ => eqV (.str z) x
  | _ => false
theorem eqU_of {x y : V} {u : Value} (r : RelV y u) (f : flatV y = true) : eqU x u = eqV y x := by
  cases y with
  | non => cases r; rfl
  | bl b => cases r; rfl
  | int i => obtain ⟨t, rfl⟩ := r; rfl
  | str z => obtain ⟨t, rfl⟩ := r; rfl
  | _ => exact absurd (show false = true from f) Bool.false_ne_true
theorem any_eqU {x : V} : ∀ {xs : List V} {us : List Value}, Vals xs us → xs.all flatV = true → us.any (eqU x) = xs.any fun y => eqV y x
  | _, _, .nil, _ => rfl
  | y :: xs, u :: us, .cons r t, f => by
    rw [List.all_cons, Bool.and_eq_true] at f
    rw [List.any_cons, List.any_cons, eqU_of r f.1, any_eqU t f.2]
theorem mem_eqAt {A : Around} {s : Shared} {x : V} {v : Value} (rx : RelV x v) (fx : flatV x = true) : ∀ {xs : List V} {us : List Value}, Vals xs us → xs.all flatV = true → ∀ u ∈ us, SeqAt.EqAt A s u v (eqU x u)
  | _, _, .nil, _ => fun u hu => by cases hu
  | y :: xs, u :: us, .cons r t, f => fun u' hu => by
    rw [List.all_cons, Bool.and_eq_true] at f
    rcases List.mem_cons.mp hu with rfl | hu
    · rw [eqU_of r f.1]; exact eqAt_V r rx f.1 fx
    · exact mem_eqAt rx fx t f.2 u' hu
def inV (x : V) (xs : List V) : Bool := xs.any fun y => eqV y x
def rIn (K : PySem.W.Frag) (neg : Bool) : R2 := fun x y H Q => ∃ p xs, y = .ref p ∧ (SqL K H p xs ∨ SqT K H p xs) ∧ flatV x = true ∧ xs.all flatV = true ∧ Q (.bl (if neg then !inV x xs else inV x xs)) H
theorem op_notIn_seq : OpR X (compareOp .NotIn) (rIn X.K true) := by
  intro pins s σ H x y v u Q I rx ry h
  obtain ⟨p, xs, rfl, hq, fx, fs, q⟩ := h
  cases ry
  rcases hq with hq | hq
  · obtain ⟨its, r, pl, hz⟩ := I.list hq
    refine SeqAt.notIn_listAt (eqU x) pl.isList (fun w hw => mem_eqAt rx fx r fs w (by simpa using hw)) ⟨.bl _, H, I, rfl, ?_⟩
    rw [show its.toArray.any (eqU x) = its.any (eqU x) by simp, any_eqU r fs]
    exact q
  · obtain ⟨its, r, pl, hz⟩ := I.tuple hq
    refine SeqAt.notIn_tupleAt (eqU x) pl (fun w hw => mem_eqAt rx fx r fs w (by simpa using hw)) ⟨.bl _, H, I, rfl, ?_⟩
    rw [show its.toArray.any (eqU x) = its.any (eqU x) by simp, any_eqU r fs]
    exact q
theorem call_len_seq : CallR X (.builtin "len") (fun xs H Q => ∃ p ys, xs = [.ref p] ∧ (SqL X.K H p ys ∨ SqT X.K H p ys) ∧ Q (.int ys.length) H) := by
  intro pins s σ H xs us Q I r h
  obtain ⟨p, ys, rfl, hq, q⟩ := h
  obtain ⟨u, rfl, rx⟩ := vals1 r
  cases rx
  have hn := line63
  rcases hq with hq | hq
  · obtain ⟨its, r', pl, hz⟩ := I.list hq
    have hlen := r'.length
    exact Calls.call_len_list pl.isList (by simp only [List.size_toArray] <;> lia) ⟨.int ys.length, H, I.tok _, ⟨s.toks + 1, by rw [List.size_toArray, hlen]⟩, q⟩
  · obtain ⟨its, r', pl, hz⟩ := I.tuple hq
    have hlen := r'.length
    exact len_tuple pl (by simp only [List.size_toArray] <;> lia) ⟨.int ys.length, H, I.tok _, ⟨s.toks + 1, by rw [List.size_toArray, hlen]⟩, q⟩
theorem call_list_of : CallR X (.type "list") (fun xs H Q => ∃ p ys, xs = [.ref p] ∧ (SqL X.K H p ys ∨ SqT X.K H p ys) ∧ ∀ l, H l = none → Q (.ref l) (upd H l (.lst ys))) := by
  intro pins s σ H xs us Q I r h
  obtain ⟨p, ys, rfl, hq, q⟩ := h
  obtain ⟨u, rfl, rx⟩ := vals1 r
  cases rx
  have fin : ∀ (its : List Value), Vals ys its → ys.length ≤ sizeLine → ∀ (h' : Heap) (c' : Nat), (∀ b o', s.heap.get? b = some o' → h'.get? b = some o') →
      h'.get? s.heap.objs.size = some { cls := .type "list", dict := none, data := .seq its.toArray c', slots := #[] } → EP X pins σ Q (.ref s.heap.objs.size) { s with heap := h' } := fun its r' hz h' c' kp e =>
    ⟨.ref s.heap.objs.size, _, I.laid (t' := s.toks) kp (Nat.le_refl _) (show ObjOk X.prog X.w _ h' _ (.lst ys) from ⟨hz, its, c', r', e⟩), rfl, q _ (I.hok.fresh (Nat.le_refl _))⟩
  rcases hq with hq | hq
  · obtain ⟨its, r', pl, hz⟩ := I.list hq
    have hlen := r'.length
    obtain ⟨o, ho, hc, n, hd⟩ := pl.isList
    exact call_list_seq p (.inl rfl) ho hc hd (fun h' c' kp e => fin its r' hz h' c' kp e) (by simp only [List.size_toArray] <;> lia)
  · obtain ⟨its, r', pl, hz⟩ := I.tuple hq
    have hlen := r'.length
    obtain ⟨o, ho, hc, n, hd⟩ := pl
    exact call_list_seq p (.inr rfl) ho hc hd (fun h' c' kp e => fin its r' hz h' c' kp e) (by simp only [List.size_toArray] <;> lia)
def tyV (K : PySem.W.Frag) (T : String) (x : V) (H : Hp) : Prop := match x with
  | .str _ => T = "str"
  | .int _ => T = "int"
  | .ref p => (T = "list" ∧ ∃ xs, SqL K H p xs) ∨ (T = "tuple" ∧ ∃ o, K.lookup p = some o ∧ o.cls = .type "tuple" ∧ o.dict = none) ∨
      (T = "dict" ∧ ((∃ kvs, H p = some (.dK kvs)) ∨ ∃ kvs, H p = some (.dT kvs))) ∨ (T = "set" ∧ ∃ S n, H p = some (.set S n))
  | _ => False
theorem tyV_is {pins : List (Addr × Obj)} {σ : St} {H : Hp} {s : Shared} {T : String} {x : V} {v : Value} (I : Inv X pins σ H s) (r : RelV x v) (ty : tyV X.K T x H) :
    s.TypeIs v T ∧ ∀ a, v = .ref a → ∃ ob, s.heap.get? a = some ob ∧ ob.dict = none := by
  cases x with
  | str z =>
    obtain ⟨t, rfl⟩ := r
    cases (show T = "str" from ty)
    exact ⟨typeIs_str s z t, fun _ e => nomatch e⟩
  | int i =>
    obtain ⟨t, rfl⟩ := r
    cases (show T = "int" from ty)
    exact ⟨typeIs_int s i t, fun _ e => nomatch e⟩
  | ref p =>
    cases r
    rcases ty with ⟨rfl, xs, hq⟩ | ⟨rfl, o, hk, hc, hd⟩ | ⟨rfl, hk⟩ | ⟨rfl, S, n, hk⟩
    · obtain ⟨its, _, pl, _⟩ := I.list hq
      refine ⟨pl.isList.typeIs, fun a e => ?_⟩
      cases e
      obtain ⟨o, n, e, c, hd, _⟩ := pl
      exact ⟨o, e, hd⟩
    · refine ⟨⟨o, I.kIn p o hk, hc⟩, fun a e => ?_⟩
      cases e
      exact ⟨o, I.kIn _ o hk, hd⟩
    · have z : ∃ o, s.heap.get? p = some o ∧ o.ExactDict := by
        rcases hk with ⟨kvs, hk⟩ | ⟨kvs, hk⟩
        · obtain ⟨_, _, _, _, o, _, _, e, ex, _⟩ := I.hok p _ hk
          exact ⟨o, e, ex⟩
        · obtain ⟨_, _, _, _, o, _, _, e, ex, _⟩ := I.hok p _ hk
          exact ⟨o, e, ex⟩
      obtain ⟨o, e, ex⟩ := z
      refine ⟨⟨o, e, ex.1⟩, fun a e2 => ?_⟩
      cases e2
      exact ⟨o, e, ex.2.1⟩
    · obtain ⟨o, _, _, _, e, ex, _⟩ := I.hok p _ hk
      refine ⟨⟨o, e, ex.1⟩, fun a e2 => ?_⟩
      cases e2
      exact ⟨o, e, ex.2.1⟩
  | _ => exact False.elim ty
def tBM0 (K : PySem.W.Frag) (T : String) (r : V → List V → Hp → VK → Prop) (to : TE) : TE := fun σ H Q => to σ H fun x H1 => tyV K T x H1 ∧ r x [] H1 Q
def tBM (K : PySem.W.Frag) (T : String) (r : V → List V → Hp → VK → Prop) (to : TE) (t : TA) : TE := fun σ H Q => to σ H fun x H1 => tyV K T x H1 ∧ t σ H1 fun xs H2 => r x xs H2 Q
variable {o e : Expr} {es : List Expr} {to : TE} {t : TA} {name : Str} {apos cpos : Pos} {T id : String} {r : V → List V → Hp → VK → Prop}
theorem pe_bm0 (pa : PlainAttrs T) (slot : Slot T name id) (hty : typeOf (.builtin id) = pure (.type "method_descriptor")) (hm : MtR X id r) (ho : PE X o to)
    (hbase : attributeBase o name X.env (eval o X.env) = eval o X.env := by rfl) (hline : (apos.endLine == cpos.line) = true := by rfl) : PE X (.Call (.Attribute o name apos) [] [] cpos) (tBM0 X.K T r to) := by
  intro pins s σ H Q I h
  refine wpAny_Call_method0_late hbase hline (thn (ho pins s σ H _ I h) fun v s1 zz219 => zz219.elim fun x zz220 => zz220.elim fun H1 zz221 => zz221.elim fun I1 zz222 => zz222.elim fun r1 zz223 => zz223.elim fun ty q1 => ?_)
  obtain ⟨h1, h2⟩ := tyV_is I1 r1 ty
  exact ⟨T, id, pa, slot, hty, h1, h2, Calls.callWith_builtin rfl (PySem.evalArgs_none (hm pins s1 σ H1 x [] v [] Q I1 r1 .nil q1))⟩
theorem pe_bm (pa : PlainAttrs T) (slot : Slot T name id) (hty : typeOf (.builtin id) = pure (.type "method_descriptor")) (hm : MtR X id r) (ho : PE X o to) (ha : PA X (e :: es) t)
    (hbase : attributeBase o name X.env (eval o X.env) = eval o X.env := by rfl)
    (hfew : ((backTo cpos (starEach (e :: es) X.env)).all (fun x => !x.1) && (backToKw cpos (keywordEach [] X.env)).all (fun x => x.1.isSome)
      && decide ((e :: es).length + ([] : List Keyword).length + (if ([] : List Keyword).isEmpty then 0 else 1) < 30)) = true := by rfl)
    (hline : (apos.endLine == cpos.line) = true := by rfl) (hs : starEach (e :: es) X.env = (false, eval e X.env) :: starEach es X.env := by rfl) (hplain : (backTo cpos (starEach es X.env)).any (·.1) = false := by rfl) :
    PE X (.Call (.Attribute o name apos) (e :: es) [] cpos) (tBM X.K T r to t) := by
  intro pins s σ H Q I h
  refine wpAny_Call_method_late hbase hfew hline rfl (thn (ho pins s σ H _ I h) fun v s1 zz224 => zz224.elim fun x zz225 => zz225.elim fun H1 zz226 => zz226.elim fun I1 zz227 => zz227.elim fun r1 zz228 => zz228.elim fun ty q1 => ?_)
  obtain ⟨h1, h2⟩ := tyV_is I1 r1 ty
  refine ⟨T, id, pa, slot, hty, h1, h2, ?_⟩
  have hA := ha cpos pins s1 σ H1 _ I1 q1
  rw [hs] at hA ⊢
  refine Calls.callWith_builtin (by show (false || (backTo cpos (starEach es X.env)).any (·.1)) = false; rw [hplain] <;> rfl) (Calls.evalArgs_plain ?_)
  exact thn hA fun us s2 zz229 => el5 zz229 fun vs H2 I2 r2 q2 => hm pins s2 σ H2 x vs v us Q I2 r1 r2 q2
end
end L2
namespace L2
open PySem PySem.Spec PyProof.Rows
def MtM (X : Cx) (id : String) (r : V → List V → Hp → VK → Prop) : Prop :=
  ∀ (pins : List (Addr × Obj)) (s : Shared) (σ : St) (H : Hp) (x : V) (xs : List V) (v : Value) (us : List Value) (Q : VK), Inv X pins σ H s → RelV x v → Vals xs us → r x xs H Q →
    wpAny (model X.prog X.w) X.A (call (.builtin id) (v :: us)) (EP X pins σ Q) X.xe s
theorem Vals.one {x : V} {us : List Value} (h : Vals [x] us) : ∃ u, us = [u] ∧ RelV x u := by
  cases h with
  | cons r t => cases t; exact ⟨_, rfl, r⟩
theorem Vals.two {x y : V} {us : List Value} (h : Vals [x, y] us) : ∃ u v, us = [u, v] ∧ RelV x u ∧ RelV y v := by
  cases h with
  | cons r t =>
    obtain ⟨v, rfl, q⟩ := Vals.one t
    exact ⟨_, _, rfl, r, q⟩
theorem Vals.zero : ∀ {us : List Value}, Vals [] us → us = []
  | _, .nil => rfl
theorem Vals.rep {xs : List V} {us : List Value} (h : Vals xs us) : ∀ k : Nat, Vals (List.replicate k xs).flatten (List.replicate k us).flatten
  | 0 => .nil
  | k + 1 => by
    rw [List.replicate_succ, List.replicate_succ, List.flatten_cons, List.flatten_cons]
    exact Vals.append h (Vals.rep h k)
theorem foldl_rep (its : List Value) : ∀ (k : Nat) (acc : List Value),
    List.foldl (fun x1 x2 => x1 ++ x2) acc.toArray (List.replicate k its.toArray) = (acc ++ (List.replicate k its).flatten).toArray
  | 0, acc => by simp
  | k + 1, acc => by
    have e : acc.toArray ++ its.toArray = (acc ++ its).toArray := by simp
    have e2 : (acc ++ its) ++ (List.replicate k its).flatten = acc ++ (List.replicate (k + 1) its).flatten := by
      rw [List.replicate_succ, List.flatten_cons, List.append_assoc]
    rw [← e2, ← foldl_rep its k (acc ++ its), ← e, List.replicate_succ, List.foldl_cons]
section
variable {X : Cx} {pins : List (Addr × Obj)} {σ : St} {H : Hp} {s : Shared} {l b : Addr} {xs ys zs : List V}
theorem Inv.lset {its its' : List Value} {n : Nat} {f : Array Value → Array Value} {t' : Nat} (I : Inv X pins σ H s) (hH : H l = some (.lst xs))
    (e : s.heap.get? l = some { cls := .type "list", data := .seq its.toArray n }) (hf : f its.toArray = its'.toArray) (hv : Vals ys its') (hz : ys.length ≤ sizeLine) :
    Inv X pins σ (upd H l (.lst ys)) { s with heap := s.heap.update l (Obj.mapSeq f), toks := t' } := by
  have q := PySem.IsL.update e f
  rw [hf] at q
  refine I.write (x := l) (e := l) (by rw [hH]; exact trivial) (.inl rfl) (fun b' u hb hu => (Heap.get?_update_other s.heap (Obj.mapSeq f) (Ne.symm hb)).trans hu) ⟨_, q⟩ ?_
  exact ⟨hz, its', _, hv, q⟩
theorem Inv.lnew {its : List Value} {t' : Nat} (I : Inv X pins σ H s) (hv : Vals ys its) (hz : ys.length ≤ sizeLine) :
    Inv X pins σ (upd H s.heap.objs.size (.lst ys)) { s with heap := s.heap.push { cls := .type "list", data := .seq its.toArray }, toks := t' } :=
  I.laid (fun _ _ q => Heap.get?_push_of_some _ q) (Nat.le_refl _) ⟨hz, its, 0, hv, Heap.get?_push_size _ rfl⟩
theorem Inv.fresh (I : Inv X pins σ H s) : H s.heap.objs.size = none := I.hok.fresh (Nat.le_refl _)
theorem Inv.lstM (I : Inv X pins σ H s) (hH : H l = some (.lst xs)) : xs.length ≤ sizeLine ∧ ∃ (its : List Value) (n : Nat), Vals xs its ∧ xs.length = its.length ∧ s.heap.get? l = some { cls := .type "list", data := .seq its.toArray n } := by
  obtain ⟨z, its, n, r, e⟩ := I.hok l _ hH
  exact ⟨z, its, n, r, r.length, e⟩
theorem notLongL {n : Nat} (h : n ≤ sizeLine) : Builtin.List.listTooLong n = false := by
  unfold Builtin.List.listTooLong
  exact decide_eq_false (by lia)
end
section
variable {X : Cx}
def rAppend : V → List V → Hp → VK → Prop := fun x vs H Q => ∃ l xs y, x = .ref l ∧ vs = [y] ∧ H l = some (.lst xs) ∧ xs.length < sizeLine ∧ Q .non (upd H l (.lst (xs ++ [y])))
theorem mt_append : MtM X "list.append" rAppend := by
  intro pins s σ H x vs v us Q I rx rv h
  obtain ⟨l, xs, y, rfl, rfl, hH, hz, q⟩ := h
  cases rx
  obtain ⟨u, rfl, ru⟩ := rv.one
  obtain ⟨z, its, n, r, hl, e⟩ := I.lstM hH
  refine call_meets F.slot_list_append ⟨_, e, rfl⟩ F.entry_list_append (F.args_list_append_2 _ _) (PySem.list_append l its.toArray n u (by rw [List.size_toArray]; lia)) ⟨e, ?_⟩
  refine ⟨.non, _, I.lset (its' := its ++ [u]) hH e (by simp) (r.append (.cons ru .nil)) ?_, rfl, q⟩
  rw [List.length_append, List.length_singleton]
  lia
def rClear : V → List V → Hp → VK → Prop := fun x vs H Q => ∃ l xs, x = .ref l ∧ vs = [] ∧ H l = some (.lst xs) ∧ Q .non (upd H l (.lst []))
theorem mt_clear : MtM X "list.clear" rClear := by
  intro pins s σ H x vs v us Q I rx rv h
  obtain ⟨l, xs, rfl, rfl, hH, q⟩ := h
  cases rx
  have hus := rv.zero
  subst hus
  obtain ⟨z, its, n, r, hl, e⟩ := I.lstM hH
  refine call_meets F.slot_list_clear ⟨_, e, rfl⟩ F.entry_list_clear (F.args_list_clear_1 _) (AutoSeq1.list_clear_list_0 l its.toArray n (by rw [List.size_toArray]; lia)) ⟨e, ?_⟩
  exact ⟨.non, _, I.lset (its' := []) (ys := []) hH e rfl .nil (Nat.zero_le _), rfl, q⟩
def rRep : R2 := fun x y H Q => ∃ l k xs, x = .ref l ∧ y = .int k ∧ H l = some (.lst xs) ∧ -(2 ^ 63) ≤ k ∧ k < 2 ^ 63 ∧ xs.length * k.toNat ≤ sizeLine ∧
  ∀ p, H p = none → Q (.ref p) (upd H p (.lst (List.replicate k.toNat xs).flatten))
theorem len_rep {α : Type} (xs : List α) (k : Nat) : (List.replicate k xs).flatten.length = k * xs.length := by
  induction k with
  | zero => simp
  | succ k ih => rw [List.replicate_succ, List.flatten_cons, List.length_append, ih, Nat.succ_mul, Nat.add_comm]
theorem op_rep : OpR X (binaryOp .Mult) rRep := by
  intro pins s σ H x y v u Q I rx ry h
  obtain ⟨l, k, xs, rfl, rfl, hH, h1, h2, hz, q⟩ := h
  cases rx
  obtain ⟨t, rfl⟩ := ry
  obtain ⟨z, its, n, r, hl, e⟩ := I.lstM hH
  have hlen : its.toArray.size * k.toNat ≤ sizeLine := by rw [List.size_toArray, ← hl]; exact hz
  have hcap : ¬ its.toArray.size * k.toNat > (2 ^ 63 - 1) / 8 := by
    have : (sizeLine : Nat) ≤ (2 ^ 63 - 1) / 8 := by decide
    lia
  have hfit : ¬ (!Builtin.List.listFitsIndex k) = true := by
    rw [fitsIndex_both h1 h2]
    exact Bool.false_ne_true
  have hlong : ¬ Builtin.List.listTooLong (its.toArray.size * k.toNat) = true := by
    rw [notLongL hlen]
    exact Bool.false_ne_true
  have hnew : List.foldl (fun x1 x2 => x1 ++ x2) #[] (List.replicate (if its.toArray.isEmpty = true then 0 else k.toNat) its.toArray) = (List.replicate k.toNat its).flatten.toArray := by
    have f0 : ∀ m : Nat, List.foldl (fun x1 x2 => x1 ++ x2) #[] (List.replicate m its.toArray) = (List.replicate m its).flatten.toArray := fun m => by
      have := foldl_rep its m []
      rw [List.nil_append] at this
      exact this
    rw [f0]
    cases its with
    | nil => simp
    | cons a r' => rw [if_neg (by simp)]
  refine wpAny_binaryOp_repeat_ref (T := "list") (U := "int") (by decide) ⟨_, e, rfl⟩ (fun s' => typeIs_int s' k t) noFill_list_mul F.fills_int_mul F.slot_int_rmul repeat_list F.slot_int_index.lookup
    (call_meets F.slot_int_rmul (typeIs_int s k t) F.entry_int_rmul (F.args_int_rmul_2 _ _) (int___rmul___int_list k t l its.toArray n)
      ⟨e, rfl, ⟨_, e, rfl⟩, call_meets F.slot_list_mul ⟨_, e, rfl⟩ F.entry_list_mul (F.args_list_mul_2 _ _) (AutoListH.list___mul___list_int_3 l its.toArray n k t hfit hcap hlong) ⟨e, ?_⟩⟩)
  rw [hnew]
  exact ⟨.ref _, _, I.lnew (t' := s.toks) (r.rep k.toNat) (by rw [len_rep, Nat.mul_comm]; exact hz), rfl, q _ I.fresh⟩
end
section
variable {prog : Program} {w : World} {A : Around} {E : Value → Shared → Prop} {s : Shared}
set_option maxRecDepth 100000 in
end
section
variable {X : Cx}
end
end L2
namespace Att
open PySem PySem.W PySem.Calls PyProof.Rows
theorem ints_of_wellAll {P : Params} {h : Heap} : ∀ (ns : List Int) (vs : List Value), WellAll P h vs (ns.map WData.int) → IntsAre vs ns := by
  intro ns
  induction ns with
  | nil =>
    intro vs w
    rw [List.map_nil] at w
    cases w
    exact .nil
  | cons n ns ih =>
    intro vs w
    rw [List.map_cons] at w
    cases w with
    | cons a b =>
      cases a
      exact .cons _ _ (ih _ b)
theorem script_of {l : OpenLaw} {n : Nat} (hn : l.most = some n) {P : Params} {h : Heap} {args : List WData} {vals : List Value}
    (hpre : l.row.toRowW.claim.pre args = true) (hwl : WellAll P h vals args) :
    ∃ a vs ns, vals = [Value.ref a] ∧ args = [WData.list (ns.map WData.int)] ∧ h.get? a = some { cls := .type "list", data := .seq vs.toArray } ∧ IntsAre vs ns ∧ ns.length ≤ n := by
  have hsh : WShape.hasAll [] args [.list .int] = true := (pre_splitW hpre).1
  have hc : l.pre.holds [] { args := args } = true := (pre_splitW hpre).2
  obtain ⟨d, r, rfl, h1, h2⟩ := hasAllW_cons hsh
  obtain rfl := hasAllW_nil h2
  obtain ⟨xs, rfl, h3⟩ := hasW_list h1
  obtain ⟨ns, rfl⟩ := items_int h3
  have hlen : ns.length ≤ n := by
    unfold OpenLaw.pre at hc
    have h4 : (WTm.not (.lt (.lit (.int (n : Int))) (.len (.arg 0)))).holds [] { args := [.list (ns.map .int)] } = true := by
      have h4 := (holds_andW hc).1
      rw [hn] at h4
      exact h4
    have h5 := condW_of h4 (w_not (w_lt w_lit (w_len_list (w_arg rfl))))
    rw [List.length_map] at h5
    refine Nat.le_of_not_lt fun q => ?_
    have q' : (n : Int) < ((ns.length : Nat) : Int) := by lia
    first
      | (rw [decide_eq_true q'] at h5; exact absurd h5 (by decide))
      | (simp at h5; lia)
  cases hwl with
  | cons w1 w2 =>
    cases w2
    cases w1 with
    | list ho hall => exact ⟨_, _, ns, rfl, rfl, ho, ints_of_wellAll ns _ hall, hlen⟩
theorem post_true (l : OpenLaw) (args : List WData) : l.row.toRowW.claim.post args (.bool true) args = true :=
  postW_of (r := l.row.toRowW) (X := (true == true))
    (show WShape.has [] (.bool true) .bool = true by first | rfl | decide | simp [WShape.has, WShape.arms, WShape.armsAll])
    (show (WTm.eq .res (.lit (.bool true))).value [] { args := args, res := some (.bool true), after := args } = some (.bool (true == true)) from w_eq_bool (w_res rfl) w_lit) rfl
theorem attach_call {l : OpenLaw} {n : Nat} {q : Program} {loose : List Str} {XP : (Str → Option Value) → Heap → Prop} {YP : World → Heap → Prop} {d : DefRec}
    (hn : l.most = some n) (hdf : d.params.defaults = [])
    (call : ∀ (w : World) (s₀ s₁ : Shared) (mg mb : Str → Option Value) (fa : Addr) (o : Obj) (pm cd doc : Value) (a : Addr) (vs : List Value) (ns : List Int),
      Ground q loose [] XP w s₀ mg mb s₁.heap → YP w s₁.heap →
      s₁.heap.get? fa = some o → o.data = .func (docDef d.name d.params d.body d.scope pm cd doc) → s₁.heap.CodeRec cd d.name → mg d.name = some (.ref fa) →
      s₁.heap.get? a = some { cls := .type "list", data := .seq vs.toArray } → IntsAre vs ns → ns.length ≤ n → s₁.gens = #[] →
      codeAny (model l.prog w) callerA (.call (.ref fa) ⟨[.ref a], []⟩) (fun r s' => r = .ok (.ret (.bool true)) ∧ OldK s₁.heap s'.heap ∧ s'.os = s₁.os ∧ AllBare s'.gens) s₁) :
    WalkO q loose XP YP l.row.toRowW d [] (fun f vs => PySem.call f vs) := by
  intro w s₀ s₁ mg mb G Y fa o pm cd doc dV kV ho hd hcd hD hmg hg args vals as hpre hlay hrd hwl hlo
  obtain rfl : dV = .none := Dflts.none hD hdf
  obtain rfl : kV = .none := Dflts.noKw hD
  obtain ⟨a, vs, ns, rfl, rfl, hobj, hints, hlen⟩ := script_of hn hpre hwl
  refine enter_call (codeAny_mono (call w s₀ s₁ mg mb fa o pm cd doc a vs ns G Y ho (fd_plain hd) hcd hmg hobj hints hlen hg) fun r s' hq => ?_)
  obtain ⟨rfl, h2, h3, h4⟩ := hq
  exact ⟨.inl ⟨.bool true, .bool true, [], rfl, fun _ => rfl, .bool true, post_true l _, fun _ => ⟨List.Pairwise.nil, fun _ hm => (nomatch hm)⟩⟩, h2, h3, h4⟩
section
variable {prog : Program} {w : World} {A : Around} {E : Value → Shared → Prop} {s : Shared} {K : Frag}
def ledger (h : Heap) (L d : Addr) : List (Addr × Obj) := (List.range h.objs.size).filterMap fun a => if a = L ∨ a = d then none else (h.get? a).map fun o => (a, o)
end
end Att
namespace L2
open PySem PySem.Spec PyProof.Rows
theorem vals_ints : ∀ {vs : List Value} {ns : List Int}, IntsAre vs ns → Vals (ns.map V.int) vs
  | _, _, .nil => .nil
  | _, _, .cons n t h => .cons ⟨t, rfl⟩ (vals_ints h)
def Only (H : Hp) : Prop := ∀ b, H b = none ∨ ∃ o xs, H b = some (.frz o (.lst xs))
theorem law_call {P : Program} {w : World} {K : PySem.W.Frag} {mg mb : Str → Option Value} {CX : CXT} {k : Nat} {fa a : Addr} {fd : FuncData} {x : Str} {sp : Sp} {s₁ : Shared} {vs : List Value} {ns : List Int}
    (KX : K.In s₁.heap) (hns : s₁.heap.Ns mainGlobals mg) (hb : s₁.heap.Ns builtinsNs mb) (hbb : ∀ x : Str, x ≠ "__name__" → mb x = bootBuiltins x) (hlim : s₁.heap.NoLimit) (hg : s₁.gens = #[])
    (ha : s₁.heap.get? a = some { cls := .type "list", data := .seq vs.toArray }) (hi : IntsAre vs ns) (hl : ns.length ≤ sizeLine) (hr : Room k callerA)
    (F : ∀ base : Heap, K.In base → base.Ns mainGlobals mg → FnOk P w K mg base CX k fa fd [x] sp) (hbind : ∀ (s : Shared) (u : Value), BindsTo s fd ⟨[u], []⟩ [(x, u)])
    (hsp : ∀ H : Hp, Only H → SqL K H a (ns.map V.int) → sp [.ref a] H (fun v _ => v = .bl true) fun _ _ _ => False)
    (hCX : ∀ H e s', CX [] H s₁ (fun _ _ _ => False) e s' → False) :
    codeAny (model P w) callerA (.call (.ref fa) ⟨[.ref a], []⟩) (fun r s' => r = .ok (.ret (.bool true)) ∧ OldK s₁.heap s'.heap ∧ s'.os = s₁.os ∧ AllBare s'.gens) s₁ := by
  have rv := vals_ints hi
  have lenV := hi.length
  have core : ∀ H : Hp, Only H → SqL K H a (ns.map V.int) → HOk P w H s₁.heap → (∀ b, H b ≠ none → b = a) → (H a ≠ none → K.lookup a = none) →
      codeAny (model P w) callerA (.call (.ref fa) ⟨[.ref a], []⟩) (fun r s' => r = .ok (.ret (.bool true)) ∧ OldK s₁.heap s'.heap ∧ s'.os = s₁.os ∧ AllBare s'.gens) s₁ := by
    intro H hO hS hok hA hK
    have base_of : ∀ {b : Addr} {o : Obj}, s₁.heap.get? b = some o → H b = none → (hidT s₁.heap H).get? b = some o := fun e n => hidT_get e n
    have noA : ∀ {b : Addr} {o : Obj} {es : Array DictEntry} {ep : Nat}, s₁.heap.get? b = some o → o.data = .dict es ep → H b = none := fun {b o es ep} e d => by
      cases q : H b with
      | none => rfl
      | some u =>
        have e' : b = a := hA b (by rw [q]; simp)
        subst e'
        rw [ha] at e; cases e
        have d' : Data.seq vs.toArray _ = Data.dict es ep := d
        cases d'
    have nsK : ∀ {b : Addr} {m : Str → Option Value}, s₁.heap.Ns b m → (hidT s₁.heap H).Ns b m := fun {b m} ⟨o, es, ep, e, d, r⟩ => ⟨o, es, ep, base_of e (noA e d), d, r⟩
    have hKb : K.In (hidT s₁.heap H) := fun b o e => base_of (KX b o e) (by
      cases q : H b with
      | none => rfl
      | some u =>
        have e' : b = a := hA b (by rw [q]; simp)
        subst e'
        rw [hK (by rw [q]; simp)] at e; cases e)
    have hM : Mod K mg (hidT s₁.heap H) := ⟨hKb, nsK hns, ⟨mb, nsK hb, hbb⟩, let ⟨mc, h1, h2⟩ := hlim; ⟨mc, nsK h1, h2⟩⟩
    have e0 : Env0 P w K mg (hidT s₁.heap H) callerA [] s₁ H := ⟨rfl, hM, fun b o e => of_hidT e, Nat.le_of_eq (hidT_size _ _), trivial, fun b hb => absurd (show b ∈ ([] : List Addr) from hb) (by simp), hok, .of_eq hg⟩
    refine codeAny_mono ((F _ hKb (nsK hns)).run callerA [] s₁ H ⟨[.ref a], []⟩ [.ref a] [.ref a] _ _ hr e0 (hbind s₁ (.ref a)) (.cons rfl .nil) (hsp H hO hS)) fun r s' h => ?_
    cases r with
    | error e => exact (hCX H e s' h).elim
    | ok fl =>
      cases fl with
      | next => exact False.elim h
      | brk => exact False.elim h
      | cont => exact False.elim h
      | ret u =>
        obtain ⟨v, H', os, bare, un, hok', r', q⟩ := h
        have q' : v = .bl true := q
        subst q'
        obtain rfl : u = Value.bool true := r'
        refine ⟨rfl, OldK.of_keep fun b o e => ?_, os, bare⟩
        cases q : H b with
        | none => exact un.keep b o e q (by intro z; exact absurd (show b ∈ ([] : List Addr) from z) (by simp)) (by simp)
        | some u =>
          rcases hO b with z | ⟨ob, xs, z⟩
          · rw [q] at z; cases z
          · have z2 := un.frzs b ob _ z
            obtain ⟨e1, _⟩ := hok b _ z
            obtain ⟨e2, _⟩ := hok' b _ z2
            rw [e] at e1; cases e1
            exact e2
  cases hk : K.lookup a with
  | some o =>
    have e := KX a o hk
    rw [ha] at e
    cases e
    refine core (fun _ => none) (fun _ => .inl rfl) (.inr ⟨_, vs.toArray, _, hk, rfl, rfl, rfl, by rw [List.size_toArray, lenV]; exact hl, by simpa using rv⟩) (fun b u z => by have z' : (none : Option HO) = some u := z; cases z') (fun b z => absurd rfl z) fun z => absurd rfl z
  | none =>
    refine core (fun b => if b = a then some (.frz { cls := .type "list", data := .seq vs.toArray } (.lst (ns.map V.int))) else none) (fun b => ?_) (.inl (.inr ⟨{ cls := .type "list", data := .seq vs.toArray }, if_pos rfl⟩)) (fun b u z => ?_) (fun b z => ?_) fun _ => hk
    · by_cases hb : b = a
      · exact .inr ⟨_, _, if_pos hb⟩
      · exact .inl (if_neg hb)
    · by_cases hb : b = a
      · have z' := (if_pos hb).symm.trans z
        cases z'
        subst hb
        exact ⟨ha, by rw [List.length_map]; exact hl, vs, _, rv, ha⟩
      · have z' := (if_neg hb).symm.trans z
        cases z'
    · by_cases hb : b = a
      · exact hb
      · exact absurd (if_neg hb) z
end L2
namespace L2
open PySem PySem.Spec PyProof.Rows
theorem walk_of {l : PySem.W.OpenLaw} {n k : Nat} {q : Program} {loose : List Str} {XP : (Str → Option Value) → Heap → Prop} {YP : World → Heap → Prop} {d : DefRec} {K : Params → PySem.W.Frag} {CX : World → CXT} {sp : World → Sp} {x : Str}
    (hn : l.most = some n) (hn2 : n ≤ sizeLine) (hdf : d.params.defaults = []) (hr : Room k callerA)
    (hY : ∀ (w : World) (h : Heap), YP w h → (K w.params).In h)
    (F : ∀ (w : World) (mg : Str → Option Value) (fa : Addr) (h : Heap), (K w.params).In h → h.Ns mainGlobals mg → mg d.name = some (.ref fa) →
      ∃ fd : FuncData, (∀ (s : Shared) (u : Value), BindsTo s fd ⟨[u], []⟩ [(x, u)]) ∧
        ∀ base : Heap, (K w.params).In base → base.Ns mainGlobals mg → FnOk l.prog w (K w.params) mg base (CX w) k fa fd [x] (sp w))
    (hsp : ∀ (w : World) (H : Hp) (a : Addr) (ns : List Int), ns.length ≤ n → Only H → SqL (K w.params) H a (ns.map V.int) → sp w [.ref a] H (fun v _ => v = .bl true) fun _ _ _ => False)
    (hCX : ∀ (w : World) (H : Hp) (s : Shared) (e : Value) (s' : Shared), CX w [] H s (fun _ _ _ => False) e s' → False) :
    PySem.W.WalkO q loose XP YP l.row.toRowW d [] (fun f vs => PySem.call f vs) := by
  refine Att.attach_call hn hdf fun w s₀ s₁ mg mb fa o pm cd doc a vs ns G Y ho hd hcd hmg hobj hints hlen hg => ?_
  have KX := hY w _ Y
  obtain ⟨fd, hb, hF⟩ := F w mg fa _ KX G.T.g hmg
  exact law_call KX G.T.g G.T.b G.T.builtins G.T.nolimit hg hobj hints (Nat.le_trans hlen hn2) hr hF hb (fun H hO hS => hsp w H a ns hlen hO hS) fun H e s' => hCX w H s₁ e s'
end L2
namespace L2
open PySem PySem.Spec PyProof.Rows
def defArgs (s : Stmt) : Arguments := match s with
  | .FunctionDef _ a _ _ _ _ _ _ _ _ => a
  | _ => { posonlyargs := [], args := [], vararg := none, kwonlyargs := [], kw_defaults := [], kwarg := none, defaults := [] }
def defBody (s : Stmt) : List Stmt := match s with
  | .FunctionDef _ _ b _ _ _ _ _ _ _ => b
  | _ => []
def defScope (s : Stmt) : Scope := match s with
  | .FunctionDef _ _ _ _ _ _ sc _ _ _ => sc
  | _ => { kind := .function, names := [], isGenerator := false, isCoroutine := false }
abbrev CX0 : CXT := fun _ _ _ _ _ _ => False
abbrev E0 : XK := fun _ _ _ => False
theorem pass0 {X : Cx} : Passes CX0 X E0 := fun _ _ _ _ _ _ _ h => h.elim
structure Fun (K : PySem.W.Frag) (x qual : Str) (st : Stmt) (f : Addr) (fd : FuncData) : Prop where
  ex : ∃ (oc : Value) (od : Option Addr) (kV doc pm : Value) (an : Option Addr) (cdv ct : Value) (osl : Array (Option Value)),
    fd = PySem.W.fnOf x qual (defArgs st) (defBody st) (defScope st) .none kV doc pm an cdv ct ∧ K.lookup f = some ⟨oc, od, .func fd, osl⟩ ∧ PySem.W.codeIn K cdv qual = true
  kp : PySem.W.keepIn K (.ref f) = true
section
variable {P : Program} {w : World} {K : PySem.W.Frag} {mg : Str → Option Value} {base : Heap}
theorem Fun.ok {x qual : Str} {st : Stmt} {f : Addr} {fd : FuncData} {N ps : List Str} {k : Nat} {sp : Sp} (F : Fun K x qual st f fd) (S : FnScope N ps (defScope st)) (len : ∀ vs H Q E, sp vs H Q E → vs.length = ps.length)
    (hbody : ∀ (cdv : Value) (A : Around) (outer : List Env) (s : Shared) (H : Hp) (vs : List V) (Q : VK) (E : XK), Room k (A.deeper (envOfC qual (defScope st) s.heap.objs.size f cdv)) → sp vs H Q E →
      ∃ t, PSs (cxOf CX0 P w K mg base N qual (defScope st) f cdv A outer s H E).nox (defBody st) t ∧ t { nx := fun _ H' => Q .non H', rt := Q } (start N vs) H) : FnOk P w K mg base CX0 (k + 1) f fd ps sp := by
  obtain ⟨oc, od, kV, doc, pm, an, cdv, ct, osl, rfl, lk, hcd⟩ := F.ex
  refine fn_of lk hcd S len fun A outer s H vs Q E hr hsp => ?_
  obtain ⟨t, h, q⟩ := hbody cdv A outer s H vs Q E hr hsp
  exact ⟨t, h.nox, q⟩
theorem Fun.binds {x qual : Str} {st : Stmt} {f : Addr} {fd : FuncData} {ps : List Str} (F : Fun K x qual st f fd)
    (h : ∀ (kV doc pm : Value) (an : Option Addr) (cdv ct : Value) (us : List Value), us.length = ps.length → bindArgs (PySem.W.fnOf x qual (defArgs st) (defBody st) (defScope st) .none kV doc pm an cdv ct) ⟨us, []⟩ = pure (ps.zip us)) : Binds K fd ps [] := by
  obtain ⟨oc, od, kV, doc, pm, an, cdv, ct, osl, rfl, lk, hcd⟩ := F.ex
  exact .all (h kV doc pm an cdv ct)
theorem fun_mk {x qual : Str} {st : Stmt} {f : Addr} {oc : Value} {od an : Option Addr} {osl : Array (Option Value)} {kV doc pm cdv ct : Value} (l : K.lookup f = some ⟨oc, od, .func (PySem.W.fnOf x qual (defArgs st) (defBody st) (defScope st) .none kV doc pm an cdv ct), osl⟩)
    (c : PySem.W.codeIn K cdv qual = true) (k : PySem.W.keepIn K (.ref f) = true) : Fun K x qual st f (PySem.W.fnOf x qual (defArgs st) (defBody st) (defScope st) .none kV doc pm an cdv ct) := ⟨⟨oc, od, kV, doc, pm, an, cdv, ct, osl, rfl, l, c⟩, k⟩
end
theorem small1000 {n : Nat} (h : n ≤ 1000) : n < sizeLine := Nat.lt_of_le_of_lt h (by decide)
section
variable {X : Cx}
theorem pv (i : Nat) {x : Str} {pos : Pos} (hN : X.N[i]? = some x := by rfl) (hv : Vis X.env.scope x := by first | exact Or.inl rfl | exact Or.inr (Or.inl rfl) | exact Or.inr (Or.inr rfl)) (hd : (x == ("__debug__" : Str)) = false := by decide)
    (hcd : (x == ("__classdict__" : Str)) = false := by decide) : PE X (.Name x pos) (tVar i) := pe_var hN hv hd hcd
end
theorem iteF {A B : Prop} (h : B) : if false = true then A else B := by
  rw [if_neg Bool.false_ne_true]
  exact h
theorem iteT {A B : Prop} (h : A) : if true = true then A else B := by
  rw [if_pos rfl]
  exact h
theorem ite2 {c A B : Prop} [Decidable c] (h1 : c → A) (h2 : ¬ c → B) : if c then A else B := by
  by_cases h : c
  · rw [if_pos h]
    exact h1 h
  · rw [if_neg h]
    exact h2 h
def Same (H H' : Hp) : Prop := ∀ b o, H b = some o → H' b = some o
theorem Same.refl (H : Hp) : Same H H := fun _ _ h => h
end L2
set_option maxHeartbeats 4000000
namespace L2
open PySem PySem.Spec PyProof.Rows
def closOf (cells : List (Str × Addr)) : List (Str × NameKind) → List (Str × Addr) → List (Str × Addr)
  | [], cs => cs
  | (n, k) :: r, cs => closOf cells r (if k == .free then (n, (cells.lookup n).getD 0) :: cs else cs)
theorem closureFor_eq {scope : Scope} {env : Env} (h : ∀ y ∈ scope.names, y.2 = .free → ∃ c, env.cells.lookup y.1 = some c) : closureFor scope env = pure (closOf env.cells scope.names []) := by
  have key : ∀ (l : List (Str × NameKind)) (cs : List (Str × Addr)), (∀ y ∈ l, y.2 = .free → ∃ c, env.cells.lookup y.1 = some c) →
      (forIn l cs fun (x : Str × NameKind) (r : List (Str × Addr)) => if (x.2 == NameKind.free) = true then do let a ← cellOf env x.1; pure (ForInStep.yield ((x.1, a) :: r)) else pure (ForInStep.yield r) : Sem (List (Str × Addr))) = pure (closOf env.cells l cs) := by
    intro l
    induction l with
    | nil => intro cs _; rfl
    | cons y r ih =>
      intro cs hl
      obtain ⟨n, k⟩ := y
      rw [List.forIn_cons]
      by_cases hk : k = .free
      · subst hk
        obtain ⟨c, hc⟩ := hl (n, .free) List.mem_cons_self rfl
        have hc' : env.cells.lookup n = some c := hc
        have e1 : cellOf env n = pure c := by unfold cellOf; rw [hc']
        simp only [beq_self_eq_true, if_true, e1, pure_bind]
        rw [ih _ fun z hz => hl z (List.mem_cons_of_mem _ hz)]
        show _ = pure (closOf env.cells r (if (NameKind.free == NameKind.free) = true then (n, (env.cells.lookup n).getD 0) :: cs else cs))
        rw [hc']
        rfl
      · have hb : (k == NameKind.free) = false := by simpa using hk
        simp only [hb, Bool.false_eq_true, if_false, pure_bind]
        rw [ih _ fun z hz => hl z (List.mem_cons_of_mem _ hz)]
        show _ = pure (closOf env.cells r (if (k == NameKind.free) = true then (n, (env.cells.lookup n).getD 0) :: cs else cs))
        rw [hb]
        rfl
  have k2 := key scope.names [] h
  have e : closureFor scope env = ((forIn scope.names [] fun (x : Str × NameKind) (r : List (Str × Addr)) => if (x.2 == NameKind.free) = true then do let a ← cellOf env x.1; pure (ForInStep.yield ((x.1, a) :: r)) else pure (ForInStep.yield r) : Sem (List (Str × Addr))) >>= fun cs => pure cs) := rfl
  rw [e, k2]
  rfl
theorem closOf_sub {cells : List (Str × Addr)} : ∀ {l : List (Str × NameKind)} {cs : List (Str × Addr)}, (∀ y ∈ l, y.2 = .free → ∃ c, cells.lookup y.1 = some c) → (∀ x c, cs.lookup x = some c → cells.lookup x = some c) →
    ∀ x c, (closOf cells l cs).lookup x = some c → cells.lookup x = some c
  | [], _, _, h, x, c, e => h x c e
  | (n, k) :: r, cs, hl, h, x, c, e => by
    unfold closOf at e
    refine closOf_sub (l := r) (fun z hz => hl z (List.mem_cons_of_mem _ hz)) (fun y d q => ?_) x c e
    split at q
    · rename_i hk
      obtain ⟨c0, hc0⟩ := hl (n, k) List.mem_cons_self (by simpa using hk)
      have hc0' : cells.lookup n = some c0 := hc0
      rw [hc0'] at q
      rw [List.lookup_cons] at q
      split at q
      · rename_i hb
        have := eq_of_beq hb
        subst this
        rw [hc0']
        exact q
      · exact h y d q
    · exact h y d q
theorem closOf_keeps {cells : List (Str × Addr)} {x : Str} : ∀ {l : List (Str × NameKind)} {cs : List (Str × Addr)}, (∃ c, cs.lookup x = some c) → ∃ c, (closOf cells l cs).lookup x = some c
  | [], _, h => h
  | (n, k) :: r, cs, h => by
    unfold closOf
    refine closOf_keeps (l := r) ?_
    split
    · rw [List.lookup_cons]
      split
      · exact ⟨_, rfl⟩
      · exact h
    · exact h
theorem closOf_has {cells : List (Str × Addr)} {x : Str} : ∀ {l : List (Str × NameKind)} {cs : List (Str × Addr)}, (x, NameKind.free) ∈ l → ∃ c, (closOf cells l cs).lookup x = some c
  | (n, k) :: r, cs, h => by
    unfold closOf
    rcases List.mem_cons.mp h with e | h
    · injection e with e1 e2
      subst e1 e2
      refine closOf_keeps (l := r) ?_
      simp only [beq_self_eq_true, if_true]
      rw [List.lookup_cons]
      simp
    · exact closOf_has (l := r) h
structure CA where
  s : Shared
  H : Hp
  C : Addr
  fp : List Addr
abbrev cxComp (X : Cx) (scope : Scope) (N' : List Str) (a : CA) : Cx where
  prog := X.prog
  w := X.w
  K := X.K
  mg := X.mg
  base := X.base
  A := X.A
  N := N'
  s₀ := a.s
  H₀ := a.H
  env := compEnvC scope (closOf X.env.cells scope.names []) a.C X.env
  outer := X.stack
  stack := X.stack
  ex := a.fp
  fn := fun _ => false
  calm := X.calm
  pn := []
  xe := fun _ _ => False
structure CompSc (N N' : List Str) (osc scope : Scope) (j : Nat) (x : Str) : Prop where
  nd : N'.Nodup
  at_ : N'[j]? = some x
  sub : ∀ (i : Nat) y, i ≠ j → N'[i]? = some y → N[i]? = some y
  len : N'.length ≤ N.length + 1
  kind : scope.kind = .function
  cell : ∀ y ∈ scope.names, y.2 ≠ .cell
  names : ∀ y ∈ scope.names, y.2 = .local → scope.names.lookup y.1 = some .local
  only : ∀ y ∈ scope.names, y.2 = .local → y.1 = x ∨ y.1 ∉ N'
  loc : scope.names.lookup x = some .local
  okind : osc.kind = .function
  free : ∀ y ∈ scope.names, y.2 = .free → osc.names.lookup y.1 = some .cell
def compOk (N : List Str) (osc scope : Scope) (x : Str) : Bool :=
  decide (N ++ [x]).Nodup && decide (scope.kind = .function) && decide (osc.kind = .function) && (scope.names.lookup x == some .local) &&
    scope.names.all fun y => match y.2 with
      | .cell => false
      | .local => scope.names.lookup y.1 == some .local && (y.1 == x || !((N ++ [x]).contains y.1))
      | .free => osc.names.lookup y.1 == some .cell
      | _ => true
theorem CompSc.new {N : List Str} {osc scope : Scope} {x : Str} (h : compOk N osc scope x = true) : CompSc N (N ++ [x]) osc scope N.length x := by
  unfold compOk at h
  simp only [Bool.and_eq_true, decide_eq_true_eq, List.all_eq_true, beq_iff_eq] at h
  obtain ⟨⟨⟨⟨h1, h2⟩, h3⟩, h4⟩, h5⟩ := h
  refine ⟨h1, by simp, fun i y ne e => ?_, by simp, h2, fun y hy e => ?_, fun y hy e => ?_, fun y hy e => ?_, h4, h3, fun y hy e => ?_⟩
  · by_cases hi : i < N.length
    · rw [List.getElem?_append_left hi] at e; exact e
    · rw [List.getElem?_append_right (by lia)] at e
      cases q : i - N.length with
      | zero => exact absurd (by lia) ne
      | succ k => rw [q] at e; simp at e
  · have := h5 y hy; rw [e] at this; cases this
  · have := h5 y hy
    rw [e] at this
    simp only [Bool.and_eq_true, beq_iff_eq] at this
    exact this.1
  · have := h5 y hy
    rw [e] at this
    simp only [Bool.and_eq_true, Bool.or_eq_true, beq_iff_eq, Bool.not_eq_true', List.contains_eq_mem, decide_eq_false_iff_not] at this
    exact this.2
  · have := h5 y hy
    rw [e] at this
    simp only [beq_iff_eq] at this
    exact this
def padS (n j : Nat) (σ : St) : St := ((σ ++ [none]).take n).set j none
theorem padS_get {n j i : Nat} {σ : St} {v : V} (h : (padS n j σ)[i]? = some (some v)) : i ≠ j ∧ σ[i]? = some (some v) := by
  unfold padS at h
  by_cases e : i = j
  · subst e
    rw [List.getElem?_set] at h
    simp only [if_true] at h
    split at h <;> cases h
  · refine ⟨e, ?_⟩
    rw [List.getElem?_set_ne (Ne.symm e)] at h
    have h2 : (σ ++ [none])[i]? = some (some v) := by
      by_cases hi : i < n
      · rw [List.getElem?_take_of_lt hi] at h; exact h
      · rw [List.getElem?_eq_none (by rw [List.length_take]; lia)] at h; cases h
    by_cases hi : i < σ.length
    · rw [List.getElem?_append_left hi] at h2; exact h2
    · rw [List.getElem?_append_right (by lia)] at h2
      cases q : i - σ.length with
      | zero => rw [q] at h2; cases h2
      | succ k => rw [q] at h2; cases h2
theorem padS_len {n j : Nat} {σ : St} (h : n ≤ σ.length + 1) : (padS n j σ).length = n := by
  unfold padS
  rw [List.length_set, List.length_take, List.length_append]
  simp; lia
theorem lookup_relabel_free {env : Env} : ∀ {names : List (Str × NameKind)} {x : Str}, ((names.map fun (n, k) => if (k == NameKind.free && env.scope.kind == .function && env.kindOf n == some .cell) then (n, NameKind.cell) else (n, k)).lookup x = some .cell ∨
    (names.map fun (n, k) => if (k == NameKind.free && env.scope.kind == .function && env.kindOf n == some .cell) then (n, NameKind.cell) else (n, k)).lookup x = some .free) → (∀ y ∈ names, y.2 ≠ .cell) → (x, NameKind.free) ∈ names
  | [], _, h, _ => by rcases h with h | h <;> cases h
  | (n, k) :: r, x, h, hc => by
    rw [List.map_cons] at h
    dsimp only at h
    by_cases hk : (k == NameKind.free && env.scope.kind == .function && env.kindOf n == some .cell) = true
    · rw [if_pos hk] at h
      simp only [List.lookup_cons] at h
      cases hx : x == n with
      | true =>
        have e := eq_of_beq hx
        subst e
        have k' : k = .free := by
          rw [Bool.and_eq_true, Bool.and_eq_true] at hk
          simpa using hk.1.1
        subst k'
        exact List.mem_cons_self
      | false =>
        simp only [hx] at h
        exact List.mem_cons_of_mem _ (lookup_relabel_free h fun y hy => hc y (List.mem_cons_of_mem _ hy))
    · rw [if_neg hk] at h
      simp only [List.lookup_cons] at h
      cases hx : x == n with
      | true =>
        have e := eq_of_beq hx
        subst e
        simp only [hx] at h
        rcases h with h | h
        · exact absurd (Option.some.inj h) (hc (x, k) List.mem_cons_self)
        · have := Option.some.inj h
          subst this
          exact List.mem_cons_self
      | false =>
        simp only [hx] at h
        exact List.mem_cons_of_mem _ (lookup_relabel_free h fun y hy => hc y (List.mem_cons_of_mem _ hy))
theorem lookup_relabel_loc {env : Env} : ∀ {names : List (Str × NameKind)} {x : Str}, (names.map fun (n, k) => if (k == NameKind.free && env.scope.kind == .function && env.kindOf n == some .cell) then (n, NameKind.cell) else (n, k)).lookup x = some .local → (x, NameKind.local) ∈ names
  | [], _, h => by cases h
  | (n, k) :: r, x, h => by
    rw [List.map_cons] at h
    dsimp only at h
    by_cases hk : (k == NameKind.free && env.scope.kind == .function && env.kindOf n == some .cell) = true
    · rw [if_pos hk] at h
      simp only [List.lookup_cons] at h
      cases hx : x == n with
      | true => simp only [hx] at h; cases h
      | false =>
        simp only [hx] at h
        exact List.mem_cons_of_mem _ (lookup_relabel_loc h)
    · rw [if_neg hk] at h
      simp only [List.lookup_cons] at h
      cases hx : x == n with
      | true =>
        have e := eq_of_beq hx
        subst e
        simp only [hx] at h
        have := Option.some.inj h
        subst this
        exact List.mem_cons_self
      | false =>
        simp only [hx] at h
        exact List.mem_cons_of_mem _ (lookup_relabel_loc h)
section
variable {X : Cx} {pins : List (Addr × Obj)} {σ : St} {H : Hp} {s : Shared}
structure Own (X : Cx) (pins : List (Addr × Obj)) (H : Hp) (C : Addr) : Prop where
  no : H C = none
  ne : C ≠ X.env.locals
  ab : X.s₀.heap.objs.size ≤ C
  ce : ∀ x c, X.env.cells.lookup x = some c → c ≠ C
  pi : ∀ p ∈ X.pn ++ pins, p.1 ≠ C
theorem Inv.own {C : Addr} {H' : Hp} (I : Inv X pins σ H s) (h : s.heap.objs.size ≤ C) (hn : H' C = none) : Own X pins H' C := by
  refine ⟨hn, Nat.ne_of_gt (Nat.lt_of_lt_of_le I.lt h), Nat.le_trans I.sz h, fun x c e z => ?_, fun p hp z => ?_⟩
  · obtain ⟨v, q⟩ := I.cell x c e
    exact absurd (Nat.lt_of_lt_of_le q.lt (by rw [z]; exact h)) (Nat.lt_irrefl _)
  · exact absurd (Nat.lt_of_lt_of_le (Heap.lt_size (I.pin p hp).1) (by rw [z]; exact h)) (Nat.lt_irrefl _)
theorem Inv.own_turn {C : Addr} {h' : Heap} (I : Inv X pins σ H s) (o : Own X pins H C) (hs : Heap.SameBut C s.heap h') : Inv X pins σ H { s with heap := h' } :=
  I.turned (t' := s.toks) (fun b ob hb e => (hs.2 b hb).trans e) o.no o.ne (.inr o.ab) o.ce o.pi
theorem Inv.track {D : Addr} {ys : List V} {its : List Value} {n : Nat} (I : Inv X pins σ H s) (o : Own X pins H D) (e : s.heap.get? D = some { cls := .type "list", data := .seq its.toArray n }) (r : Vals ys its) (hz : ys.length ≤ sizeLine) :
    Inv X pins σ (upd H D (.lst ys)) s := by
  have nD : ∀ b u, H b = some u → b ≠ D := fun b u q z => by rw [z, o.no] at q; cases q
  have hok : HOk X.prog X.w (upd H D (.lst ys)) s.heap := fun b u q => by
    by_cases hb : b = D
    · subst hb
      rw [upd_same] at q
      cases q
      exact ⟨hz, its, n, r, e⟩
    · rw [upd_ne hb] at q
      exact (I.hok b u q).stay (fun _ _ _ z => z) (fun c z => by rw [upd_ne (nD c _ z)]; exact z) fun c xs z => by rw [upd_ne (nD c _ z)]; exact z
  have := I.step (H' := upd H D (.lst ys)) (h' := s.heap) (g' := s.gens) (t' := s.toks) (d' := s.drawn) (ch := [D]) (fun b hb => by
      have e' : b = D := by simpa using hb
      subst e'
      exact ⟨.inr o.ab, o.ne, o.ce, o.pi⟩) (fun b ob _ _ _ q _ => q) (fun b ob _ _ _ q _ => ⟨ob.slots, q⟩) (fun b ob hc q z => by rw [upd_ne (by simpa using hc)]; exact z) (fun b ob _ q => ⟨ob, q⟩)
    (fun b xs q => by rw [upd_ne (nD b _ q)]; exact q) (fun b ob u q => by rw [upd_ne (nD b _ q)]; exact q) (fun b ps q => ⟨#[], by rw [upd_ne (nD b _ q), q]; simp⟩) (fun m z => z) hok I.bare
  exact this
end
end L2
namespace L2
open PySem PySem.Spec PyProof.Rows
section
variable {prog : Program} {w : World} {A : Around} {R : Result → Shared → Prop} {s : Shared}
theorem compLoop_go {elt target iter : Expr} {ifs : List Expr} {scope : Scope} {pos : Pos} {it acc : Value} {env : Env} (I : Nat → Shared → Prop)
    (turn : ∀ n s, I n s → ∀ E : Value → Shared → Prop, wpAny (model prog w) A (pyNext it) (fun r s₁ => match r with
      | none => R (.ok .next) s₁
      | some v => wpAny (model prog w) A (letOwnedTupleGo target it v) (fun _ s₁' => wpAny (model prog w) A (assign target env v) (fun _ s₂ =>
          wpAny (model prog w) A (forIn ifs true fun c r => if r = true then do let ok ← isTrue c env (eval c env); pure (ForInStep.yield ok) else pure (ForInStep.yield r)) (fun ok s₃ =>
            if ok = true then wpAny (model prog w) A (eval elt env) (fun x s₄ =>
              wpAny (model prog w) A (call (.builtin "list.append") [acc, x]) (fun _ s₅ => ∃ m, m < n ∧ I m s₅) E s₄) E s₃
            else ∃ m, m < n ∧ I m s₃) E s₂) E s₁') E s₁) E s)
    (n : Nat) (h : I n s) :
    codeAny (model prog w) A (.compLoop (.ListComp elt [⟨target, iter, ifs, 0⟩] scope pos) 0 it acc env) R s := by
  refine codeAny_loop rfl I (fun n s hI => ?_) n h
  show wpAny _ A ((compTurn (.ListComp elt [⟨target, iter, ifs, 0⟩] scope pos) 0 it acc env).onRaise (fun x => do noteFrame x env; theTreesLotGoes x)) _ _ s
  refine wpAny_noted ?_
  rw [compTurn_list]
  refine wpAny_bind (wpAny_standAt (wpAny_bind (wpAny_mono (turn n s hI _) (fun r s₁ h₁ => ?_) fun _ _ h' => h')))
  cases r with
  | none => exact wpAny_pure h₁
  | some v =>
    refine wpAny_bind (wpAny_mono h₁ (fun _ s₁' h₁' => ?_) fun _ _ h' => h')
    refine wpAny_bind (wpAny_mono h₁' (fun _ s₂ h₂ => wpAny_bind (wpAny_mono h₂ (fun ok s₃ h₃ => ?_) fun _ _ h' => h')) fun _ _ h' => h')
    cases ok with
    | false => exact wpAny_pure ⟨rfl, h₃⟩
    | true =>
      exact wpAny_bind (wpAny_bind (wpAny_mono h₃ (fun x s₄ h₄ => wpAny_bind (wpAny_mono h₄ (fun _ s₅ h₅ => wpAny_pure (wpAny_pure ⟨rfl, h₅⟩)) fun _ _ h' => h')) fun _ _ h' => h'))
end
def PTs (X : Cx) (ifs : List Expr) (t : TT) : Prop :=
  ∀ (pins : List (Addr × Obj)) (s : Shared) (σ : St) (H : Hp) (Q : Bool → Hp → Prop), Inv X pins σ H s → t σ H Q →
    wpAny (model X.prog X.w) X.A (forIn ifs true fun c r => if r = true then do let ok ← isTrue c X.env (eval c X.env); pure (ForInStep.yield ok) else pure (ForInStep.yield r)) (TP X pins σ Q) X.xe s
def tTrue : TT := fun _ H Q => Q true H
theorem pts_nil {X : Cx} : PTs X [] tTrue := fun _ _ _ H _ I h => wpAny_tests_nil ⟨H, I, h⟩
def RComp (σ : St) (n j : Nat) (tt : CA → TT) (te : CA → TE) (J : It) (H1 : Hp) (Q : List V → Hp → Prop) : Prop :=
  ∃ W : Nat → Nat → List V → Hp → Prop, (∃ m, W 0 m [] H1) ∧ ∀ i m ys H, W i m ys H → ys.length ≤ sizeLine ∧
    ((J.stop i H ∧ Q ys H) ∨ (J.go i H ∧ ∃ N : List V → Hp → Prop, (∀ ys' H', N ys' H' → ∃ m', m' < m ∧ W (i + 1) m' ys' H') ∧
      ∀ x H', J.yld i H x H' → ∀ a : CA, tt a ((padS n j σ).set j (some x)) H' fun b H2 => if b = true then te a ((padS n j σ).set j (some x)) H2 fun y H3 => N (ys ++ [y]) H3 else N ys H2))
def tComp (wi : TI) (n j : Nat) (tt : CA → TT) (te : CA → TE) : TE := fun σ H Q => wi σ H fun J H1 => RComp σ n j tt te J H1 fun ys H2 => ∀ p, H2 p = none → Q (.ref p) (upd H2 p (.lst ys))
section
variable {X : Cx} {pins : List (Addr × Obj)} {σ : St} {H : Hp} {s : Shared}
theorem comp_core {elt iter : Expr} {x : Str} {px pos : Pos} {ifs : List Expr} {scope : Scope} {N' : List Str} {j : Nat} {tt : CA → TT} {te : CA → TE} {it : Addr} {fp : List Addr} {tn : Nat → Heap → Prop} {J : It} {Q : List V → Hp → Prop}
    {RR : Value → Addr → Result → Shared → Prop} {E : Value → Shared → Prop}
    (S : CompSc X.N N' X.env.scope scope j x) (hc : X.calm = true)
    (ht : ∀ a : CA, PTs (cxComp X scope N' a) ifs (tt a)) (he : ∀ a : CA, PE (cxComp X scope N' a) elt (te a))
    (I : Inv X pins σ H s) (T : Turn X.prog X.w X.K (.Name x px) J fp it tn) (st : tn 0 s.heap) (f2 : ∀ b ∈ fp, FpOk X pins H b) (h : RComp σ N'.length j tt te J H Q)
    (hRR : ∀ (D C : Addr) (ys : List V) (H' : Hp) (s' : Shared) (m : Str → Option Value), s'.heap.Ns C m → Own X pins (upd H' D (.lst ys)) C → Inv X pins σ (upd H' D (.lst ys)) s' → H' D = none → Q ys H' → RR (.ref D) C (.ok .next) s') :
    wpAny (model X.prog X.w) X.A (newList []) (fun acc s₃ => wpAny (model X.prog X.w) X.A (newFunctionEnv scope X.env.globals (closOf X.env.cells scope.names []) [] X.env.qual none .none (some X.env)) (fun cenv s₄ =>
      codeAny (model X.prog X.w) X.A (.compStart (.ListComp elt [⟨.Name x px, iter, ifs, 0⟩] scope pos) 0 (.ref it) acc { cenv with scope := relabel scope X.env }) (RR acc cenv.locals) s₄) E s₃) E s := by
  refine wpAny_newObj_type (wpAny_newFunctionEnv S.cell (by intro y hy; simp at hy) (fun h₁ hns₁ hsb₁ => ?_) S.kind)
  dsimp only at hns₁ hsb₁ ⊢
  generalize hH2 : s.heap.push { cls := .type "list", dict := none, data := .seq ([] : List Value).toArray } = H2 at hns₁ hsb₁ ⊢
  have hC : H2.objs.size = s.heap.objs.size + 1 := by rw [← hH2, Heap.size_push]
  have hDC : s.heap.objs.size ≠ H2.objs.size := by rw [hC]; exact Nat.ne_of_lt (Nat.lt_succ_self _)
  have hCle : s.heap.objs.size ≤ H2.objs.size := by rw [hC]; exact Nat.le_succ _
  have below : ∀ b, b < s.heap.objs.size → b ≠ H2.objs.size ∧ b ≠ s.heap.objs.size := fun b hb => ⟨by rw [hC]; exact Nat.ne_of_lt (Nat.lt_succ_of_lt hb), Nat.ne_of_lt hb⟩
  have old : ∀ b o, s.heap.get? b = some o → h₁.get? b = some o := fun b o e => hsb₁.extBut b o (below b (Heap.lt_size e)).1 (Heap.get?_push_of_some _ (hH2 ▸ Heap.get?_push_of_some _ e))
  have hacc : h₁.get? s.heap.objs.size = some { cls := .type "list", data := .seq ([] : List Value).toArray } := hsb₁.extBut _ _ hDC (Heap.get?_push_of_some _ (hH2 ▸ Heap.get?_push_size _ rfl))
  have fplt : ∀ b ∈ fp, b < s.heap.objs.size := fun b hb => let ⟨_, e, _⟩ := T.obj 0 _ st b hb; Heap.lt_size e
  have hcells : ∀ y ∈ scope.names, y.2 = .free → ∃ c, X.env.cells.lookup y.1 = some c := fun y hy e => I.ok.has y.1 (.inl (S.free y hy e))
  have sub : ∀ y c, (closOf X.env.cells scope.names []).lookup y = some c → X.env.cells.lookup y = some c := closOf_sub hcells (fun y c e => by cases e)
  let a : CA := ⟨s, H, H2.objs.size, fp⟩
  have ok : (cxComp X scope N' a).Ok := by
    refine ⟨I.ok.mod, S.kind, I.ok.glob, I.ok.blt, hCle, fun y z c e1 e2 => I.ok.inj y z c (sub y c e1) (sub z c e2), fun y hy => ?_, fun y c z => ?_, I.ok.hd, I.ok.frames, .inl rfl, fun b hb => ⟨(below b (fplt b hb)).1, fun y c e => (f2 b hb).2.2.2.2.1 y c (sub y c e)⟩, I.bs,
      Nat.le_trans I.ok.bsz I.sz, fun b o e hb => ?_, fun b hb z => ?_, I.stack, I.stkFree⟩
    · exact closOf_has (lookup_relabel_free hy S.cell)
    · cases z
    · rcases (f2 b hb).2.2.2.1 with z | z
      · exact I.ok.noex b o e z
      · exact absurd (Nat.lt_of_lt_of_le (Heap.lt_size (I.ok.bs b o e).1) z) (Nat.lt_irrefl _)
    · rcases List.mem_cons.mp (I.stkSub b z) with e | e
      · exact (f2 b hb).2.1 e
      · exact (f2 b hb).2.2.1 e
  have look : ∀ (h' : Heap) (m' : Str → Option Value), (∀ y c, X.env.cells.lookup y = some c → ∀ v, s.heap.IsCell c v → h'.IsCell c v) → ∀ (i : Nat) (y : Str) (v : V), N'[i]? = some y → (padS N'.length j σ)[i]? = some (some v) →
      Vis (relabel scope X.env) y → ∃ u, RelV v u ∧ Look (compEnvC scope (closOf X.env.cells scope.names []) H2.objs.size X.env) h' m' y u := by
    intro h' m' kc i y v e1 e2 e3
    obtain ⟨ne, e4⟩ := padS_get e2
    have e5 := S.sub i y ne e1
    have hy : (y, NameKind.free) ∈ scope.names := by
      rcases e3 with e3 | e3 | e3
      · rcases S.only _ (lookup_relabel_loc e3) rfl with z | z
        · exact absurd (nodup_ix S.nd e1 (by rw [S.at_]; exact congrArg some z.symm)) ne
        · exact absurd (List.mem_of_getElem? e1) z
      · exact lookup_relabel_free (.inl e3) S.cell
      · exact lookup_relabel_free (.inr e3) S.cell
    have kcell : X.env.scope.names.lookup y = some .cell := S.free _ hy rfl
    obtain ⟨m0, hn0, hl0⟩ := I.loc
    obtain ⟨u, r, l⟩ := hl0 i y v e5 e4 (.inr (.inl kcell))
    refine ⟨u, r, .inr ⟨?_, ?_⟩⟩
    · rcases e3 with e3 | e3 | e3
      · rcases S.only _ (lookup_relabel_loc e3) rfl with z | z
        · exact absurd (nodup_ix S.nd e1 (by rw [S.at_]; exact congrArg some z.symm)) ne
        · exact absurd (List.mem_of_getElem? e1) z
      · exact .inl e3
      · exact .inr e3
    · rcases l with ⟨k, _⟩ | ⟨k, c, e, z⟩
      · have k' : X.env.scope.names.lookup y = some .local := k
        rw [kcell] at k'; cases k'
      · obtain ⟨c', e'⟩ := closOf_has (cells := X.env.cells) (cs := []) hy
        have e'' := sub y c' e'
        rw [e] at e''
        cases e''
        exact ⟨c, e', kc y c e _ z⟩
  have cellOld : ∀ y c, X.env.cells.lookup y = some c → ∀ v, s.heap.IsCell c v → h₁.IsCell c v := fun y c _ v zz232 => el2 zz232 fun o ho hd => ⟨o, old c o ho, hd⟩
  have fr0 : ∀ b, s.heap.objs.size ≤ b → H b = none := fun b hb => I.hok.fresh hb
  have noPn : ∀ p, p ∉ (cxComp X scope N' a).pn ++ ([] : List (Addr × Obj)) := fun p hp => by simp at hp
  have I0 : Inv (cxComp X scope N' a) [] (padS N'.length j σ) H { s with heap := h₁, toks := s.toks + ([] : List (Str × Value)).length } := by
    refine ⟨ok, rfl, I.bare, Un.kept old, ⟨_, hns₁, look h₁ _ cellOld⟩, fun y c e => ?_, fr0 _ hCle, fun y c e => I.freeC y c (sub y c e), fun p hp => absurd hp (noPn p), I.hok.kept old, padS_len (by rw [I.len]; exact S.len)⟩
    obtain ⟨v, z⟩ := I.cell y c (sub y c e)
    exact ⟨v, cellOld y c (sub y c e) v z⟩
  obtain ⟨W, ⟨m0, w0⟩, turn⟩ := h
  have loop : ∀ s₃ : Shared, s₃ = { s with heap := h₁, toks := s.toks + ([] : List (Str × Value)).length } →
      codeAny (model X.prog X.w) X.A (.compLoop (.ListComp elt [⟨.Name x px, iter, ifs, 0⟩] scope pos) 0 (.ref it) (.ref s.heap.objs.size) (compEnvC scope (closOf X.env.cells scope.names []) H2.objs.size X.env)) (RR (.ref s.heap.objs.size) H2.objs.size) s₃ := by
    rintro s₃ rfl
    refine compLoop_go (fun k s' => ∃ (i : Nat) (ys : List V) (its : List Value) (n : Nat) (H' : Hp), Inv (cxComp X scope N' a) [] (padS N'.length j σ) H' s' ∧ s'.heap.get? s.heap.objs.size = some { cls := .type "list", data := .seq its.toArray n } ∧ Vals ys its ∧
      H' s.heap.objs.size = none ∧ tn i s'.heap ∧ (∀ b ∈ fp, H' b = none) ∧ W i k ys H') ?_ m0
      ⟨0, [], [], 0, H, I0, hacc, .nil, fr0 _ (Nat.le_refl _), T.keep _ _ _ st fun b hb o e => old b o e, fun b hb => (f2 b hb).1, w0⟩
    rintro k s' ⟨i, ys, its, n, H', I', hD, rv, nD', st', fr', w'⟩ E'
    obtain ⟨hz, hw⟩ := turn i k ys H' w'
    have ownD : Own (cxComp X scope N' a) [] H' s.heap.objs.size := ⟨nD', hDC, Nat.le_refl _, fun y c e z => by
      obtain ⟨v, q⟩ := I.cell y c (sub y c e)
      exact absurd q.lt (by rw [z]; exact Nat.lt_irrefl _), fun p hp => absurd hp (noPn p)⟩
    have fpok : ∀ (pl : List (Addr × Obj)) (H'' : Hp), (∀ b ∈ fp, H'' b = none) → (∀ p ∈ pl, p.1 ∉ fp) → ∀ b ∈ fp, FpOk (cxComp X scope N' a) pl H'' b := fun pl H'' hn hpl b hb =>
      ⟨hn b hb, (below b (fplt b hb)).1, fun z => by
        rcases List.mem_cons.mp (I.stkSub b z) with e | e
        · exact (f2 b hb).2.1 e
        · exact (f2 b hb).2.2.1 e, .inl hb, fun y c e => (f2 b hb).2.2.2.2.1 y c (sub y c e), fun p hp z => by
        have hp' : p ∈ pl := by simpa using hp
        exact hpl p hp' (z ▸ hb)⟩
    have nDfp : s.heap.objs.size ∉ fp := fun z => absurd (fplt _ z) (Nat.lt_irrefl _)
    have pinD : ∀ p ∈ ([(s.heap.objs.size, { cls := .type "list", data := .seq its.toArray n })] : List (Addr × Obj)), s'.heap.get? p.1 = some p.2 ∧ H' p.1 = none ∧ p.1 ≠ (cxComp X scope N' a).env.locals ∧ p.1 ∉ (cxComp X scope N' a).fs ∧ ∀ v, p.2.data ≠ .cell v := fun p hp => by
      have e : p = (s.heap.objs.size, { cls := .type "list", data := .seq its.toArray n }) := by simpa using hp
      subst e
      refine ⟨hD, nD', hDC, fun z => ?_, fun v z => by cases z⟩
      rcases List.mem_cons.mp (I.stkSub _ z) with e | e
      · exact absurd I.lt (by rw [← e]; exact Nat.lt_irrefl _)
      · exact I.nofs (Nat.le_refl _) e
    have Ip := I'.pins_of pinD
    have hpl : ∀ p ∈ ([(s.heap.objs.size, { cls := .type "list", data := .seq its.toArray n })] : List (Addr × Obj)), p.1 ∉ fp := fun p hp => by
      have e : p = (s.heap.objs.size, { cls := .type "list", data := .seq its.toArray n }) := by simpa using hp
      subst e
      exact nDfp
    rcases hw with ⟨stop, q⟩ | ⟨go, N, hN, step⟩
    · refine thn (T.done (cxComp X scope N' a) rfl rfl rfl hc i _ s' _ H' E' Ip (fpok _ H' fr' hpl) st' stop) fun r s4 zz233 => zz233.elim fun hr I4 => ?_
      subst hr
      have hD4 := (I4.pin (s.heap.objs.size, { cls := .type "list", data := .seq its.toArray n }) (by simp)).1
      have J4 : Inv X pins σ H' s4 := I.call' (ch := fp) I4.os I4.base I4.hok I4.bare fun b hb => ⟨(f2 b hb).2.2.2.1, (f2 b hb).2.1, (f2 b hb).2.2.2.2.1, (f2 b hb).2.2.2.2.2⟩
      obtain ⟨m4, hn4, _⟩ := I4.loc
      have hC4 : H' H2.objs.size = none := I4.free
      exact hRR _ _ ys H' s4 m4 hn4 (I.own hCle (by rw [upd_ne (Ne.symm hDC)]; exact hC4)) (J4.track (I.own (Nat.le_refl _) nD') hD4 rv hz) nD' q
    · refine thn (T.item (cxComp X scope N' a) rfl rfl rfl hc i _ s' _ H' E' Ip (fpok _ H' fr' hpl) st' go) fun r s5 zz234 => el2 zz234 fun u hr h5 => ?_
      subst hr
      refine thn h5 fun _ s6 zz235 => zz235.elim fun xv zz236 => zz236.elim fun H6 zz237 => zz237.elim fun I6 zz238 => zz238.elim fun r6 zz239 => zz239.elim fun y6 zz240 => zz240.elim fun st6 fr6 => ?_
      have I6' := I6.pinned (fpok _ H6 fr6 hpl) (T.obj _ _ st6)
      refine wpAny_assign_Name (store_ok I6' S.nd S.at_ (.inl (lookup_relabel_local S.loc)) r6 (fun s7 I7 => ?_) (.inr (lookup_relabel_local S.loc)))
      have wk : ∀ (i : Nat) v, (padS N'.length j σ)[i]? = some (some v) → ((padS N'.length j σ).set j (some xv))[i]? = some (some v) := fun i v e => by
        rw [List.getElem?_set_ne (Ne.symm (padS_get e).1)]; exact e
      refine wpAny_mono (ht a _ s7 _ H6 _ I7 (step xv H6 y6 a)) (fun ok s8 zz241 => el2 zz241 fun H8 I8 q8 => ?_) fun _ _ z => z.elim
      have tnk : ∀ {H9 : Hp} {s9 : Shared} {σ9 : St}, Inv (cxComp X scope N' a) ([(s.heap.objs.size, { cls := .type "list", data := .seq its.toArray n })] ++ pinsAt fp s6.heap) σ9 H9 s9 → tn (i + 1) s9.heap ∧ (∀ b ∈ fp, H9 b = none) ∧ s9.heap.get? s.heap.objs.size = some { cls := .type "list", data := .seq its.toArray n } ∧ H9 s.heap.objs.size = none := fun {H9 s9 σ9} I9 => by
        refine ⟨T.keep _ _ _ st6 fun b hb o e => (I9.pin (b, o) (List.mem_append_right _ (List.mem_append_right _ (mem_pinsAt hb e)))).1, fun b hb => ?_, ?_⟩
        · obtain ⟨o, e, d⟩ := T.obj _ _ st6 b hb
          exact (I9.pin (b, o) (List.mem_append_right _ (List.mem_append_right _ (mem_pinsAt hb e)))).2.1
        · have z := I9.pin (s.heap.objs.size, { cls := .type "list", data := .seq its.toArray n }) (List.mem_append_right _ (List.mem_append_left _ (by simp)))
          exact ⟨z.1, z.2.1⟩
      cases ok with
      | false =>
        obtain ⟨m', hm, w8⟩ : ∃ m', m' < k ∧ W (i + 1) m' ys H8 := hN _ _ (by simpa using q8)
        obtain ⟨t1, t2, t3, t4⟩ := tnk I8
        exact ⟨m', hm, i + 1, ys, its, n, H8, (I8.pins_of (pins' := []) fun p hp => nomatch hp).weak (by rw [List.length_set]) wk, t3, rv, t4, t1, t2, w8⟩
      | true =>
        have q8' := q8
        simp only [if_true] at q8'
        refine wpAny_mono (he a _ s8 _ H8 _ I8 q8') (fun u9 s9 zz242 => el5 zz242 fun v9 H9 I9 r9 q9 => ?_) fun _ _ z => z.elim
        obtain ⟨m', hm, w9⟩ := hN _ _ q9
        obtain ⟨t1, t2, t3, t4⟩ := tnk I9
        have hl := rv.length
        refine append_at (hsz := by show its.toArray.size ≤ sizeLine; rw [List.size_toArray, ← hl]; exact hz) t3 fun h' hs' hD' => ?_
        have J9 := ((I9.pins_of (pins' := []) fun p hp => nomatch hp).weak (σ' := padS N'.length j σ) (by rw [List.length_set]) wk).own_turn (C := s.heap.objs.size) ⟨t4, ownD.ne, ownD.ab, ownD.ce, ownD.pi⟩ hs'
        refine ⟨m', hm, i + 1, ys ++ [v9], its ++ [u9], n + 1, H9, J9, ?_, Vals.append rv (.cons r9 .nil), t4, T.keep _ _ _ t1 fun b hb o e => (hs'.2 b fun z => nDfp (z ▸ hb)).trans e, t2, w9⟩
        rw [List.push_toArray] at hD'
        exact hD'
  exact codeAny_compStart_list (loop _ rfl) (T.self _ 0 _ _ _ (T.keep _ _ _ st fun b hb o e => old b o e) (loop _ rfl))
theorem pe_comp {elt iter : Expr} {x : Str} {px pos : Pos} {ifs : List Expr} {scope : Scope} {N' : List Str} {j : Nat} {wi : TI} {tt : CA → TT} {te : CA → TE} {osc : Scope} {N : List Str}
    (S : CompSc N N' osc scope j x) (hc : X.calm = true) (hi : PI X (.Name x px) iter wi) (ht : ∀ a : CA, PTs (cxComp X scope N' a) ifs (tt a)) (he : ∀ a : CA, PE (cxComp X scope N' a) elt (te a))
    (ho : X.env.scope = osc := by rfl) (hN : X.N = N := by rfl) (hs : ∀ x, foldedSetIterable iter X.env x = pure x := by intro _; rfl) : PE X (.ListComp elt [⟨.Name x px, iter, ifs, 0⟩] scope pos) (tComp wi N'.length j tt te) := by
  subst ho hN
  intro pins s σ H Q I h
  rw [eval_ListComp]
  have hcells : ∀ y ∈ scope.names, y.2 = .free → ∃ c, X.env.cells.lookup y.1 = some c := fun y hy e => I.ok.has y.1 (.inl (S.free y hy e))
  refine wpAny_comprehension_free (use := none) rfl hs (closureFor_eq hcells) S.kind S.names (wpAny_mono (hi pins s σ H _ I h) (fun xv s₁ h₁ => wpAny_mono h₁ (fun itv s₂ h₂ => ?_) fun _ _ e => e) fun _ _ e => e)
  obtain ⟨it, fp, tn, J, H2, rfl, I2, T, st2, f2, q2⟩ := h₂
  refine comp_core (RR := fun acc C => compPost (model X.prog X.w) X.A X.xe none (EP X pins σ Q) acc C) S hc ht he I2 T st2 f2 q2 ?_
  intro D C ys H' s' m hn own I' hD q
  refine ⟨m, hn, fun h' hs' => ⟨.ref D, _, I'.own_turn own hs', rfl, q D hD⟩⟩
theorem ps_setC {elt iter : Expr} {x y : Str} {px pos py spos : Pos} {ifs : List Expr} {scope : Scope} {N' : List Str} {j i : Nat} {wi : TI} {tt : CA → TT} {te : CA → TE} {osc : Scope} {N : List Str}
    (nd : X.N.Nodup) (hi' : X.N[i]? = some y) (hy : Loc X.env.scope y)
    (S : CompSc N N' osc scope j x) (hc : X.calm = true) (hi : PI X (.Name x px) iter wi) (ht : ∀ a : CA, PTs (cxComp X scope N' a) ifs (tt a)) (he : ∀ a : CA, PE (cxComp X scope N' a) elt (te a))
    (hsw : swapsWith (.ListComp elt [⟨.Name x px, iter, ifs, 0⟩] scope pos) (some (.Name y py)) spos.line X.env = pure true := by rfl)
    (hf : X.fn y = true ∨ X.env.scope.names.lookup y = some .local := by first | exact .inl rfl | exact .inr rfl | assumption)
    (ho : X.env.scope = osc := by rfl) (hN : X.N = N := by rfl) (hs : ∀ x, foldedSetIterable iter X.env x = pure x := by intro _; rfl) :
    PS X (.Assign [.Name y py] (.ListComp elt [⟨.Name x px, iter, ifs, 0⟩] scope pos) spos) (fun D σ H => tComp wi N'.length j tt te σ H fun v H1 => D.nx (σ.set i (some v)) H1) := by
  subst ho hN
  intro pins s σ H D I h
  have hcells : ∀ y ∈ scope.names, y.2 = .free → ∃ c, X.env.cells.lookup y.1 = some c := fun y hy e => I.ok.has y.1 (.inl (S.free y hy e))
  rw [exec_Assign_Name_used _ _ _ _ hsw]
  refine wpAny_bind (wpAny_standAt (wpAny_bind ?_))
  show wpAny _ X.A (do let _ ← comprehension (.ListComp elt [⟨.Name x px, iter, ifs, 0⟩] scope pos) scope X.env _ (newList []) false (eval iter X.env) (some (assign (.Name y py) X.env))) _ _ s
  refine wpAny_bind (wpAny_mono (wpAny_comprehension_free (use := some (assign (.Name y py) X.env)) (Q := fun _ s' => SP X pins D .next s') rfl hs (closureFor_eq hcells) S.kind S.names
    (wpAny_mono (hi pins s σ H _ I h) (fun xv s₁ h₁ => wpAny_mono h₁ (fun itv s₂ h₂ => ?_) fun _ _ e => e) fun _ _ e => e)) (fun _ s' hq => wpAny_pure (wpAny_pure hq)) fun _ _ e => e)
  obtain ⟨it, fp, tn, J, H2, rfl, I2, T, st2, f2, q2⟩ := h₂
  refine comp_core (RR := fun acc C => compPost (model X.prog X.w) X.A X.xe (some (assign (.Name y py) X.env)) (fun _ s' => SP X pins D .next s') acc C) S hc ht he I2 T st2 f2 q2 ?_
  intro Da C ys H' s' m hn own I' hD q
  show wpAny _ X.A (assign (.Name y py) X.env (.ref Da)) _ _ _
  refine wpAny_assign_Name (store_ok2 (v := V.ref Da) I' nd hi' hy rfl (fun s2 I2' hsb => ?_) hf)
  obtain ⟨b, hs2, hb⟩ := hsb
  have hCb : C ≠ b := by
    rcases hb with rfl | hb
    · exact own.ne
    · exact fun z => own.ce _ _ hb z.symm
  refine ⟨m, hn.sameBut hs2 hCb, fun h' hs' => ⟨_, _, I2'.own_turn own hs', q Da hD⟩⟩
end
end L2
namespace L2
open PySem PySem.Spec PyProof.Rows
theorem comp_list {K : PySem.W.Frag} {a0 : Addr} {xs : List V} {nn j : Nat} {σ : St} {tt : CA → TT} {te : CA → TE} {H1 : Hp} {Q : List V → Hp → Prop} (Pv : Nat → List V → Hp → Prop) (hz : xs.length < sizeLine) (h0 : Pv 0 [] H1)
    (hl : ∀ i ys H, i ≤ xs.length → Pv i ys H → ys.length ≤ i ∧ SqL K H a0 xs)
    (hs : ∀ i x ys H, xs[i]? = some x → Pv i ys H → ∀ a : CA, tt a ((padS nn j σ).set j (some x)) H fun b H2 => if b = true then te a ((padS nn j σ).set j (some x)) H2 fun y H3 => Pv (i + 1) (ys ++ [y]) H3 else Pv (i + 1) ys H2)
    (hd : ∀ ys H, Pv xs.length ys H → Q ys H) : RComp σ nn j tt te (Itl K a0) H1 Q := by
  refine ⟨fun i m ys H => m = xs.length - i ∧ i ≤ xs.length ∧ Pv i ys H, ⟨xs.length, by simp, Nat.zero_le _, h0⟩, ?_⟩
  rintro i m ys H ⟨rfl, hi, p⟩
  obtain ⟨hy, q⟩ := hl i ys H hi p
  refine ⟨by lia, ?_⟩
  by_cases hlt : i < xs.length
  · refine .inr ⟨⟨xs, xs[i], q, by simp [hlt]⟩, Pv (i + 1), fun ys' H' p' => ⟨xs.length - (i + 1), by lia, rfl, hlt, p'⟩, fun x H' y => ?_⟩
    obtain ⟨e, y⟩ := y
    subst e
    exact hs i x ys _ (y xs q) p
  · have e : i = xs.length := by lia
    subst e
    exact .inl ⟨⟨xs, q, Nat.le_refl _⟩, hd ys H p⟩
end L2
namespace L2
open PySem PySem.Spec PyProof.Rows
section
variable {X : Cx}
def CDivB (_ j : Int) : Prop := 0 < j ∧ j < 100000000000000000000000000000000000000000000000000000000000000
theorem op_fdivB : OpR X (binaryOp .FloorDiv) (rI CDivB fun i j => .int (i / j)) := opI fun i j _ _ _ _ _ hc q => by
  have h1 : (0 : Int) < j := hc.1
  have h2 : j < 2 ^ 250 := Int.lt_trans hc.2 (by decide)
  refine floordiv_int (by lia) (by rw [Int.fdiv_eq_ediv_of_nonneg i (by lia)]; exact q) (.inl (PyProof.noPylong_of_log2 ?_))
  have h3 : j.natAbs < 2 ^ 250 := by
    have : ((j.natAbs : Nat) : Int) < ((2 ^ 250 : Nat) : Int) := by
      rw [Int.natAbs_of_nonneg (Int.le_of_lt h1)]
      exact h2
    exact Int.ofNat_lt.mp this
  have h4 : j.natAbs ≠ 0 := by lia
  exact Nat.lt_trans ((Nat.log2_lt h4).mpr h3) (by decide)
theorem vals_bools : ∀ {bs : List Bool} {us : List Value}, Vals (bs.map V.bl) us → LSm.BoolsAre us bs
  | [], _, .nil => .nil
  | b :: bs, _, .cons r t => by
    cases (show _ = Value.bool b from r)
    exact .cons b (vals_bools t)
theorem call_all (hc : X.calm = true) : CallR X (.builtin "all") (fun xs H Q => ∃ (p : Addr) (bs : List Bool), xs = [.ref p] ∧ SqL X.K H p (bs.map V.bl) ∧ Q (.bl (bs.all id)) H) := by
  intro pins s σ H xs us Q I r h
  obtain ⟨p, bs, rfl, hq, q⟩ := h
  obtain ⟨u, rfl, rx⟩ := vals1 r
  cases rx
  obtain ⟨its, rv, pl, hz⟩ := I.list hq
  have hb := vals_bools rv
  have hl := pl.isList
  have hlt : p < s.heap.objs.size := by obtain ⟨_, e, _⟩ := hl; exact Heap.lt_size e
  refine call_all_walk (wpAny_pyIter_list hl ?_)
  refine ⟨s.heap.objs.size, [s.heap.objs.size, p], [s.heap.objs.size], its.toArray.size, _, _, fun i => (bs[i]?).getD true, rfl, Walks.list (A := X.A.in1) (I.ok.hd hc) _ p (Nat.ne_of_lt hlt) its.toArray,
    ⟨⟨_, Heap.get?_push_size _ rfl, rfl, rfl⟩, hl.push _⟩, fun i v s' Q' E' hP hQ => ?_, fun h' tk hk => ?_⟩
  · obtain ⟨b, e, rfl⟩ := hb.get i v (by simpa using hP)
    simp only [e, Option.getD_some] at hQ
    exact wpAny_truthy_bool hQ
  · have e : ((List.range its.toArray.size).all fun i => (bs[i]?).getD true) = bs.all id := by
      rw [List.size_toArray, hb.length]; exact LSm.range_all bs
    rw [e]
    exact ⟨.bl _, H, I.kept (t' := tk) (LSm.kept_iter hk), rfl, q⟩
theorem call_isinst : CallR X (.builtin "isinstance") (fun xs H Q => ∃ x cv c t b, xs = [x, cv] ∧ RelV cv c ∧ TyOf X.K H x t ∧ PySem.W.kitOne X.K t c = some b ∧ Q (.bl b) H) := by
  intro pins s σ H xs us Q I r h
  obtain ⟨x, cv, c, t, b, rfl, rc, ty, k, q⟩ := h
  obtain ⟨u, w', rfl, r1, r2⟩ := vals2 r
  have e : w' = c := by
    cases cv with
    | non => exact r2.trans rc.symm
    | bl y => exact r2.trans rc.symm
    | ref y => exact r2.trans rc.symm
    | ty y => exact r2.trans rc.symm
    | int y =>
      obtain ⟨t1, rfl⟩ := rc
      exfalso
      unfold PySem.W.kitOne PySem.W.kitCls at k
      cases ty <;> simp at k
    | str y =>
      obtain ⟨t1, rfl⟩ := rc
      exfalso
      unfold PySem.W.kitOne PySem.W.kitCls at k
      cases ty <;> simp at k
    | byt y =>
      obtain ⟨t1, rfl⟩ := rc
      exfalso
      unfold PySem.W.kitOne PySem.W.kitCls at k
      cases ty <;> simp at k
    | flt y =>
      obtain ⟨t1, rfl⟩ := rc
      exfalso
      unfold PySem.W.kitOne PySem.W.kitCls at k
      cases ty <;> simp at k
  subst e
  exact isinst_ok I r1 ty k fun tk => ⟨.bl b, H, I.tok tk, rfl, q⟩
end
mutual
inductive DatV (K : PySem.W.Frag) (H : Hp) : V → PyData → Prop
  | non : DatV K H .non .none
  | bl (b) : DatV K H (.bl b) (.bool b)
  | int (i) : DatV K H (.int i) (.int i)
  | str (x) : DatV K H (.str x) (.str x)
  | lst {a xs ds} : SqL K H a xs → DatVs K H xs ds → DatV K H (.ref a) (.list ds)
  | tup {a xs ds} : SqT K H a xs → DatVs K H xs ds → DatV K H (.ref a) (.tuple ds)
inductive DatVs (K : PySem.W.Frag) (H : Hp) : List V → List PyData → Prop
  | nil : DatVs K H [] []
  | cons {x xs d ds} : DatV K H x d → DatVs K H xs ds → DatVs K H (x :: xs) (d :: ds)
end
section
variable {X : Cx} {pins : List (Addr × Obj)} {σ : St} {H : Hp} {s : Shared}
mutual
theorem DatV.reads (I : Inv X pins σ H s) : ∀ {x : V} {d : PyData} {u : Value}, DatV X.K H x d → RelV x u → ∃ as, Reads s.heap u d as
  | _, _, _, .non, r => by cases r; exact ⟨_, .none⟩
  | _, _, _, .bl b, r => by cases r; exact ⟨_, .bool b⟩
  | _, _, _, .int i, r => by obtain ⟨t, rfl⟩ := r; exact ⟨_, .int i t⟩
  | _, _, _, .str x, r => by obtain ⟨t, rfl⟩ := r; exact ⟨_, .str x t⟩
  | _, _, _, .lst hq hs, r => by
    cases r
    obtain ⟨its, rv, pl, hz⟩ := I.list hq
    obtain ⟨as, ra⟩ := DatVs.reads I hs rv
    obtain ⟨o, e, c, n, d⟩ := pl.isList
    exact ⟨_, .list e c d (by simpa using ra)⟩
  | _, _, _, .tup hq hs, r => by
    cases r
    obtain ⟨its, rv, pl, hz⟩ := I.tuple hq
    obtain ⟨as, ra⟩ := DatVs.reads I hs rv
    obtain ⟨o, e, c, n, d⟩ := pl
    exact ⟨_, .tuple e c d (by simpa using ra)⟩
theorem DatVs.reads (I : Inv X pins σ H s) : ∀ {xs : List V} {ds : List PyData} {us : List Value}, DatVs X.K H xs ds → Vals xs us → ∃ as, ReadsAll s.heap us ds as
  | _, _, _, .nil, .nil => ⟨_, .nil⟩
  | _, _, _, .cons h t, .cons r rs => by
    obtain ⟨as, ra⟩ := DatV.reads I h r
    obtain ⟨bs, rb⟩ := DatVs.reads I t rs
    exact ⟨_, .cons ra rb⟩
end
end
section
variable {X : Cx}
def rEqD (K : PySem.W.Frag) (neg : Bool) : R2 := fun x y H Q => ∃ da db, DatV K H x da ∧ DatV K H y db ∧ da.canLay0 = true ∧ db.canLay0 = true ∧ min da.depth db.depth ≤ 64 ∧ Q (.bl (if neg then !PyData.eqv da db else PyData.eqv da db)) H
theorem op_eqD (hu : X.A.units + 64 < cLine) : OpR X (compareOp .Eq) (rEqD X.K false) := by
  intro pins s σ H x y v u Q I rx ry h
  obtain ⟨da, db, d1, d2, c1, c2, hd, q⟩ := h
  obtain ⟨as, ra⟩ := d1.reads I rx
  obtain ⟨bs, rb⟩ := d2.reads I ry
  exact SeqAt.compareEq_reads ra rb c1 c2 (by lia) ⟨.bl _, H, I, rfl, q⟩
theorem op_neD (hu : X.A.units + 64 < cLine) : OpR X (compareOp .NotEq) (rEqD X.K true) := by
  intro pins s σ H x y v u Q I rx ry h
  obtain ⟨da, db, d1, d2, c1, c2, hd, q⟩ := h
  obtain ⟨as, ra⟩ := d1.reads I rx
  obtain ⟨bs, rb⟩ := d2.reads I ry
  exact SeqAt.compareNe_reads ra rb c1 c2 (by lia) ⟨.bl _, H, I, rfl, q⟩
end
end L2
namespace L2
open PySem PySem.Spec PyProof.Rows
section
variable {X : Cx}
theorem get_list : PGet X (fun o i H Q => ∃ p xs j v, o = .ref p ∧ i = .int j ∧ 0 ≤ j ∧ SqL X.K H p xs ∧ atI xs j = some v ∧ Q v H) := by
  intro pins s σ H o i ov iv Q I r1 r2 h
  obtain ⟨p, xs, j, v, rfl, rfl, h0, hq, he, q⟩ := h
  cases r1
  obtain ⟨t, rfl⟩ := r2
  obtain ⟨its, r, pl, hz⟩ := I.list hq
  obtain ⟨k, h1, h2, h3, h4, h5⟩ := atI_get he
  obtain ⟨w, ew, rw'⟩ := r.get h2
  have hl := r.length
  have hn := line63
  have hj : j.toNat = k := by
    rw [seqIndex_of h0 h5] at h1
    exact Option.some.inj h1
  exact wpAny_getItem_list pl.isList h0 (by lia) (by rw [hj]; simpa using ew) ⟨v, H, I, rw', q⟩
theorem ps_mid {st : Stmt} {t : TS} (h : PS X st t) : PS X st (fun D σ H => ∃ M : St → Hp → Prop, t { D with nx := M } σ H ∧ ∀ σ' H', M σ' H' → D.nx σ' H') := by
  intro pins s σ H D I q
  obtain ⟨M, q1, q2⟩ := q
  refine thn (h pins s σ H _ I q1) fun f s' z => ?_
  cases f with
  | next => obtain ⟨σ', H', I', m⟩ := z; exact ⟨σ', H', I', q2 _ _ m⟩
  | brk => exact z
  | cont => exact z
  | ret v => exact z
end
end L2
namespace L2
open PySem PySem.Spec PyProof.Rows
theorem bt_list : bootBuiltins "list" = some (.type "list") := by decide +kernel
theorem bt_abs : bootBuiltins "abs" = some (.builtin "abs") := by decide +kernel
theorem bt_min : bootBuiltins "min" = some (.builtin "min") := by decide +kernel
theorem bt_isinstance : bootBuiltins "isinstance" = some (.builtin "isinstance") := by decide +kernel
theorem bt_int : bootBuiltins "int" = some (.type "int") := by decide +kernel
theorem bt_bool : bootBuiltins "bool" = some (.type "bool") := by decide +kernel
theorem bt_all : bootBuiltins "all" = some (.builtin "all") := by decide +kernel
theorem bt_tuple : bootBuiltins "tuple" = some (.type "tuple") := by decide +kernel
theorem bt_len : bootBuiltins "len" = some (.builtin "len") := by decide +kernel
theorem bt_any : bootBuiltins "any" = some (.builtin "any") := by decide +kernel
theorem bt_zip : bootBuiltins "zip" = some (.type "zip") := by decide +kernel
theorem bt_enumerate : bootBuiltins "enumerate" = some (.type "enumerate") := by decide +kernel
end L2
namespace L2
open PySem PySem.Spec PyProof.Rows
section
variable {es : List Expr} {env : Env}
theorem se_Constant {c j p} : starEach (.Constant c j p :: es) env = (false, eval (.Constant c j p) env) :: starEach es env := by rfl
theorem se_Name {c p} : starEach (.Name c p :: es) env = (false, eval (.Name c p) env) :: starEach es env := by rfl
theorem se_BinOp {a o b p} : starEach (.BinOp a o b p :: es) env = (false, eval (.BinOp a o b p) env) :: starEach es env := by rfl
theorem se_Compare {a o b p} : starEach (.Compare a o b p :: es) env = (false, eval (.Compare a o b p) env) :: starEach es env := by rfl
theorem se_Call {a o b p} : starEach (.Call a o b p :: es) env = (false, eval (.Call a o b p) env) :: starEach es env := by rfl
theorem se_Subscript {a o p} : starEach (.Subscript a o p :: es) env = (false, eval (.Subscript a o p) env) :: starEach es env := by rfl
theorem se_Tuple {a k p} : starEach (.Tuple a k p :: es) env = (false, eval (.Tuple a k p) env) :: starEach es env := by rfl
theorem se_ListComp {a b c p} : starEach (.ListComp a b c p :: es) env = (false, eval (.ListComp a b c p) env) :: starEach es env := by rfl
theorem np_nil {pos : Pos} : (backTo pos (starEach [] env)).any (·.1) = false := by rfl
theorem np_cons {pos : Pos} {e : Expr} (hs : starEach (e :: es) env = (false, eval e env) :: starEach es env) (h : (backTo pos (starEach es env)).any (·.1) = false) : (backTo pos (starEach (e :: es) env)).any (·.1) = false := by
  rw [hs]
  exact h
end
end L2
namespace L2
open PySem PySem.Spec PyProof.Rows
section
variable {X : Cx} {pos : Pos}
end
end L2
namespace L2
open PySem PySem.Spec PyProof.Rows
section
variable {X : Cx}
end
end L2
namespace L2
open PySem PySem.Spec PyProof.Rows
section
variable {X : Cx}
end
end L2
namespace L2
open PySem PySem.Spec PyProof.Rows
section
variable {X : Cx}
theorem op_notB : OpR X (compareOp .IsNot) (fun x y H Q => ∃ b c : Bool, x = .bl b ∧ y = .bl c ∧ Q (.bl (!(b == c))) H) := by
  intro pins s σ H x y v u Q I rx ry h
  obtain ⟨b, c, rfl, rfl, q⟩ := h
  cases rx
  cases ry
  have e : (Value.bool b == Value.bool c) = (b == c) := by cases b <;> cases c <;> rfl
  exact wpAny_pure ⟨.bl _, H, I, rfl, by rw [e]; exact q⟩
end
end L2
namespace L2
open PySem PySem.Spec PyProof.Rows
section
variable {X : Cx} {pins : List (Addr × Obj)} {σ : St} {H : Hp} {s : Shared} {h' : Heap}
theorem Inv.turned2 {t' : Nat} {e it : Addr} (I : Inv X pins σ H s) (k : ∀ b o, b ≠ e → b ≠ it → s.heap.get? b = some o → h'.get? b = some o) (fe : FpOk X pins H e) (fi : FpOk X pins H it) : Inv X pins σ H { s with heap := h', toks := t' } := by
  obtain ⟨e0, e1, e2, e3, e4, e5⟩ := fe
  obtain ⟨f0, f1, f2, f3, f4, f5⟩ := fi
  have nit : ∀ b u, H b = some u → b ≠ it := fun b u e z => by rw [z, f0] at e; cases e
  have nie : ∀ b u, H b = some u → b ≠ e := fun b u q z => by rw [z, e0] at q; cases q
  have kc : ∀ b o, b ∉ [e, it] → s.heap.get? b = some o → h'.get? b = some o := fun b o hc q => k b o (fun z => hc (by simp [z])) (fun z => hc (by simp [z])) q
  refine I.step (g' := s.gens) (d' := s.drawn) (ch := [e, it]) (fun b hb => ?_) (fun b o _ _ hc e _ => kc b o hc e) (fun b o _ _ hc e _ => ⟨o.slots, kc b o hc e⟩) (fun _ _ _ _ n => n)
    (fun b o hc e => ⟨o, kc b o hc e⟩) (fun _ _ e => e) (fun _ _ _ e => e) (fun b ps e => ⟨#[], by rw [e]; simp⟩) (fun m hm => ?_) (fun b u q => ?_) I.bare
  · rcases List.mem_cons.mp hb with z | z
    · subst z; exact ⟨e3, e1, e4, e5⟩
    · have z' : b = it := by simpa using z
      subst z'
      exact ⟨f3, f1, f4, f5⟩
  · obtain ⟨o, es, ep, ho, r⟩ := hm
    exact ⟨o, es, ep, k _ o (Ne.symm e1) (Ne.symm f1) ho, r⟩
  · refine (I.hok b u q).stay (fun c v hc z => k c v ?_ ?_ z) (fun _ z => z) fun _ _ z => z
    · rcases hc with z | z
      · rw [z]; exact nie b u q
      · exact nie c _ z
    · rcases hc with z | z
      · rw [z]; exact nit b u q
      · exact nit c _ z
end
def Ite (K : PySem.W.Frag) (a : Addr) : It :=
  ⟨fun i H => ∃ xs x, SqL K H a xs ∧ xs[i]? = some x, fun i H x H' => ∃ p v, x = .ref p ∧ H p = none ∧ H' = upd H p (.tup [.int ((i : Nat) : Int), v]) ∧ ∀ xs, SqL K H a xs → xs[i]? = some v, fun i H => ∃ xs, SqL K H a xs ∧ xs.length ≤ i⟩
theorem turn_enum {P : Program} {w : World} {K : PySem.W.Frag} {elts : List Expr} {x1} {tpos : Pos} (a e it : Addr) (hne : e ≠ it) : Turn P w K (.Tuple elts x1 tpos) (Ite K a) [e, it] e (fun i h => (∃ old, IsEnum h e it ((i : Nat) : Int) old) ∧ h.IsListIter it a i) where
  mem := by simp
  obj := fun i h st b hb => by
    obtain ⟨⟨old, h1⟩, h2⟩ := st
    rcases List.mem_cons.mp hb with z | z
    · subst z
      exact ⟨_, h1, fun v z => by
        have z' : Data.fields _ = Data.cell v := z
        cases z'⟩
    · have z' : b = it := by simpa using z
      subst z'
      obtain ⟨o, e, c, d⟩ := h2
      exact ⟨o, e, fun v z => by rw [d] at z; cases z⟩
  keep := fun i h h' st k => by
    obtain ⟨⟨old, h1⟩, h2⟩ := st
    exact ⟨⟨old, k e (by simp) _ h1⟩, h2.at fun o q => k it (by simp) o q⟩
  item := by
    intro X hP hw hK hc i pins s σ H E I hf st hg
    subst hP hw hK
    obtain ⟨⟨old, st1⟩, st2⟩ := st
    obtain ⟨xs, x, hq, hx⟩ := hg
    obtain ⟨its, rv, p, hz⟩ := I.list hq
    obtain ⟨u, hu, ru⟩ := rv.get hx
    have fe := hf e (by simp)
    have fi := hf it (by simp)
    have le : e < s.heap.objs.size := Heap.lt_size st1
    have li : it < s.heap.objs.size := by obtain ⟨_, q, _⟩ := id st2; exact Heap.lt_size q
    refine wpAny_pyNext_enum_item st1 st2 p.isList (x := u) (by simpa using hu) hne fun h' ho hit' hT hsz hk => ?_
    refine ⟨_, rfl, wpAny_letOwnedTupleGo_enum ho fun h2 he2 hs2 => ?_⟩
    replace hs2 : Heap.SameBut e h' h2 := hs2
    have hn : H s.heap.objs.size = none := I.hok.fresh (Nat.le_refl _)
    have I1 : Inv X pins σ (upd H s.heap.objs.size (.tup [.int ((i : Nat) : Int), x])) { s with heap := s.heap.push { cls := .type "tuple", data := .seq #[.int i s.toks, u] }, toks := s.toks } :=
      I.laid (fun b o q => Heap.get?_push_of_some _ q) (Nat.le_refl _) ⟨by show 2 ≤ sizeLine; decide, [.int i s.toks, u], .cons ⟨_, rfl⟩ (.cons ru .nil), ⟨_, Heap.get?_push_size _ rfl, rfl, _, rfl⟩⟩
    have ge : ∀ b, b < s.heap.objs.size → FpOk X pins H b → FpOk X pins (upd H s.heap.objs.size (.tup [.int ((i : Nat) : Int), x])) b := fun b hb f => ⟨by rw [upd_ne (Nat.ne_of_lt hb)]; exact f.1, f.2⟩
    have I2 := I1.turned2 (h' := h2) (t' := s.toks + 1) (e := e) (it := it) (fun b o n1 n2 q => by
      rw [hs2.2 b n1]
      rcases Heap.get?_push_cases q with ⟨z, z2⟩ | q
      · subst z z2
        exact hT
      · exact hk b o n1 n2 q) (ge e le fe) (ge it li fi)
    refine ⟨.ref s.heap.objs.size, _, I2, rfl, ⟨_, x, rfl, hn, rfl, fun ys hy => by rw [I.list_inj hy hq]; exact hx⟩, ⟨⟨u, he2⟩, hit'.at fun o q => (hs2.2 it hne.symm).trans q⟩, fun b hb => ?_⟩
    rcases List.mem_cons.mp hb with z | z
    · subst z; exact (ge b le fe).1
    · have z' : b = it := by simpa using z
      subst z'
      exact (ge b li fi).1
  done := by
    intro X hP hw hK hc i pins s σ H E I hf st hg
    subst hP hw hK
    obtain ⟨⟨old, st1⟩, st2⟩ := st
    obtain ⟨xs, hq, hx⟩ := hg
    obtain ⟨its, rv, p, hz⟩ := I.list hq
    have hl := rv.length
    exact wpAny_pyNext_enum_end (I.ok.hd hc) st1 st2 p.isList (by simp; lia) fun h' eb => ⟨rfl, I.turned2 (t' := s.toks) (fun b o n1 n2 q => eb b o n2 q) (hf e (by simp)) (hf it (by simp))⟩
  self := fun _ _ _ _ _ st h => by
    obtain ⟨⟨old, st1⟩, _⟩ := st
    exact wpAny_pyIter_enum st1 h
section
variable {X : Cx}
def iEnum (K : PySem.W.Frag) (ta : TA) : TI := fun σ H R => ta σ H fun vs H1 => ∃ a, vs = [.ref a] ∧ (∃ xs, SqL K H1 a xs) ∧ R (Ite K a) H1
theorem pi_enum {elts : List Expr} {x1} {tpos : Pos} {a : Expr} {ta : TA} {p pos : Pos} (hg : Gl X "enumerate") (hm : X.mg "enumerate" = none) (ha : PA X [a] ta) (hs : starEach [a] X.env = [(false, eval a X.env)] := by rfl) : PI X (.Tuple elts x1 tpos) (.Call (.Name "enumerate" p) [a] [] pos) (iEnum X.K ta) := by
  intro pins s σ H R I h
  refine Call_ (ld_blt I hg hm bt_enumerate (PyProof.Rows.callWith_type1 (thn (ha pos pins s σ H _ I h) fun us s1 zz244 => el5 zz244 fun vs H1 I1 r1 q1 => ?_) hs rfl))
  obtain ⟨a', e, ⟨xs, hq⟩, q⟩ := q1
  subst e
  obtain ⟨u, rfl, rx⟩ := vals1 r1
  cases rx
  obtain ⟨its, rv, pl, hz⟩ := I1.list hq
  refine call_enumerate_list pl.isList fun h' he hit hsz hk => ?_
  refine wpAny_pyIter_enum (s := { s1 with heap := h' }) he ?_
  have I2 : Inv X pins σ H1 { s1 with heap := h' } := I1.kept (t' := s1.toks) hk
  refine ⟨_, [s1.heap.objs.size + 1, s1.heap.objs.size], _, _, H1, rfl, I2, turn_enum a' _ _ (Nat.ne_of_gt (Nat.lt_succ_self _)), ⟨⟨.none, he⟩, hit⟩, fun b hb => ?_, q⟩
  rcases List.mem_cons.mp hb with z | z
  · subst z; exact I1.fpOk (Nat.le_succ _) (I1.hok.fresh (Nat.le_succ _))
  · have z' : b = s1.heap.objs.size := by simpa using z
    subst z'
    exact I1.fpOk (Nat.le_refl _) (I1.hok.fresh (Nat.le_refl _))
end
end L2
namespace L2
open PySem PySem.Spec PyProof.Rows
structure CompSc2 (N N' : List Str) (osc scope : Scope) (x y : Str) : Prop where
  eqN : N' = N ++ [x, y]
  nd : N'.Nodup
  kind : scope.kind = .function
  cell : ∀ z ∈ scope.names, z.2 ≠ .cell
  names : ∀ z ∈ scope.names, z.2 = .local → scope.names.lookup z.1 = some .local
  only : ∀ z ∈ scope.names, z.2 = .local → z.1 = x ∨ z.1 = y ∨ z.1 ∉ N'
  locx : scope.names.lookup x = some .local
  locy : scope.names.lookup y = some .local
  free : ∀ z ∈ scope.names, z.2 = .free → osc.names.lookup z.1 = some .cell
def compOk2 (N : List Str) (osc scope : Scope) (x y : Str) : Bool :=
  decide (N ++ [x, y]).Nodup && decide (scope.kind = .function) && (scope.names.lookup x == some .local) && (scope.names.lookup y == some .local) &&
    scope.names.all fun z => match z.2 with
      | .cell => false
      | .local => scope.names.lookup z.1 == some .local && (z.1 == x || (z.1 == y || !((N ++ [x, y]).contains z.1)))
      | .free => osc.names.lookup z.1 == some .cell
      | _ => true
theorem CompSc2.new {N : List Str} {osc scope : Scope} {x y : Str} (h : compOk2 N osc scope x y = true) : CompSc2 N (N ++ [x, y]) osc scope x y := by
  unfold compOk2 at h
  simp only [Bool.and_eq_true, decide_eq_true_eq, List.all_eq_true, beq_iff_eq] at h
  obtain ⟨⟨⟨⟨h1, h2⟩, h3⟩, h4⟩, h5⟩ := h
  refine ⟨rfl, h1, h2, fun y hy e => ?_, fun y hy e => ?_, fun y hy e => ?_, h3, h4, fun y hy e => ?_⟩
  · have := h5 y hy; rw [e] at this; cases this
  · have := h5 y hy
    rw [e] at this
    simp only [Bool.and_eq_true, beq_iff_eq] at this
    exact this.1
  · have := h5 y hy
    rw [e] at this
    simp only [Bool.and_eq_true, Bool.or_eq_true, beq_iff_eq, Bool.not_eq_true', List.contains_eq_mem, decide_eq_false_iff_not] at this
    exact this.2
  · have := h5 y hy
    rw [e] at this
    simp only [beq_iff_eq] at this
    exact this
def pad2 (σ : St) : St := σ ++ [none, none]
theorem pad2_get {i : Nat} {σ : St} {v : V} (h : (pad2 σ)[i]? = some (some v)) : i < σ.length ∧ σ[i]? = some (some v) := by
  unfold pad2 at h
  by_cases hi : i < σ.length
  · rw [List.getElem?_append_left hi] at h; exact ⟨hi, h⟩
  · rw [List.getElem?_append_right (by lia)] at h
    match q : i - σ.length with
    | 0 => rw [q] at h; cases h
    | 1 => rw [q] at h; cases h
    | n + 2 => rw [q] at h; simp at h
def RComp2 (K : PySem.W.Frag) (σ : St) (tt : CA → TT) (te : CA → TE) (J : It) (H1 : Hp) (Q : List V → Hp → Prop) : Prop :=
  ∃ W : Nat → Nat → List V → Hp → Prop, (∃ m, W 0 m [] H1) ∧ ∀ i m ys H, W i m ys H → ys.length ≤ sizeLine ∧
    ((J.stop i H ∧ Q ys H) ∨ (J.go i H ∧ ∃ N : List V → Hp → Prop, (∀ ys' H', N ys' H' → ∃ m', m' < m ∧ W (i + 1) m' ys' H') ∧
      ∀ x H', J.yld i H x H' → ∀ a : CA, ∃ p v1 v2, x = .ref p ∧ SqT K H' p [v1, v2] ∧ tt a (σ ++ [some v1, some v2]) H' fun b H2 => if b = true then te a (σ ++ [some v1, some v2]) H2 fun y H3 => N (ys ++ [y]) H3 else N ys H2))
def tComp2 (K : PySem.W.Frag) (wi : TI) (tt : CA → TT) (te : CA → TE) : TE := fun σ H Q => wi σ H fun J H1 => RComp2 K σ tt te J H1 fun ys H2 => ∀ p, H2 p = none → Q (.ref p) (upd H2 p (.lst ys))
section
variable {X : Cx} {pins : List (Addr × Obj)} {σ : St} {H : Hp} {s : Shared}
theorem pg_two {N' : List Str} {scope : Scope} {x y : Str} {px py pt : Pos} {kt} (S : CompSc2 X.N N' X.env.scope scope x y) (hc : X.calm = true) (a : CA) :
    PG (cxComp X scope N' a) (.Tuple [.Name x px, .Name y py] kt pt) (gTup X.K 2 (gCons (gName X.N.length) (gCons (gName (X.N.length + 1)) gNil))) := by
  have qx : N'[X.N.length]? = some x := by rw [S.eqN, List.getElem?_append_right (Nat.le_refl _)]; simp
  have qy : N'[X.N.length + 1]? = some y := by rw [S.eqN, List.getElem?_append_right (Nat.le_succ _)]; simp
  exact pg_tup (X := cxComp X scope N' a) (n := 2) hc (pgs_cons (pg_name S.nd qx (.inl (lookup_relabel_local S.locx)) (.inr (lookup_relabel_local S.locx))) (pgs_cons (pg_name S.nd qy (.inl (lookup_relabel_local S.locy)) (.inr (lookup_relabel_local S.locy))) pgs_nil))
theorem comp_core2 {elt iter : Expr} {x y2 : Str} {px py pt pos : Pos} {kt} {ifs : List Expr} {scope : Scope} {N' : List Str} {tt : CA → TT} {te : CA → TE} {it : Addr} {fp : List Addr} {tn : Nat → Heap → Prop} {J : It} {Q : List V → Hp → Prop}
    {RR : Value → Addr → Result → Shared → Prop} {E : Value → Shared → Prop}
    (S : CompSc2 X.N N' X.env.scope scope x y2) (hc : X.calm = true)
    (ht : ∀ a : CA, PTs (cxComp X scope N' a) ifs (tt a)) (he : ∀ a : CA, PE (cxComp X scope N' a) elt (te a))
    (I : Inv X pins σ H s) (T : Turn X.prog X.w X.K (.Tuple [.Name x px, .Name y2 py] kt pt) J fp it tn) (st : tn 0 s.heap) (f2 : ∀ b ∈ fp, FpOk X pins H b) (h : RComp2 X.K σ tt te J H Q)
    (hRR : ∀ (D C : Addr) (ys : List V) (H' : Hp) (s' : Shared) (m : Str → Option Value), s'.heap.Ns C m → Own X pins (upd H' D (.lst ys)) C → Inv X pins σ (upd H' D (.lst ys)) s' → H' D = none → Q ys H' → RR (.ref D) C (.ok .next) s') :
    wpAny (model X.prog X.w) X.A (newList []) (fun acc s₃ => wpAny (model X.prog X.w) X.A (newFunctionEnv scope X.env.globals (closOf X.env.cells scope.names []) [] X.env.qual none .none (some X.env)) (fun cenv s₄ =>
      codeAny (model X.prog X.w) X.A (.compStart (.ListComp elt [⟨.Tuple [.Name x px, .Name y2 py] kt pt, iter, ifs, 0⟩] scope pos) 0 (.ref it) acc { cenv with scope := relabel scope X.env }) (RR acc cenv.locals) s₄) E s₃) E s := by
  refine wpAny_newObj_type (wpAny_newFunctionEnv S.cell (by intro y hy; simp at hy) (fun h₁ hns₁ hsb₁ => ?_) S.kind)
  dsimp only at hns₁ hsb₁ ⊢
  generalize hH2 : s.heap.push { cls := .type "list", dict := none, data := .seq ([] : List Value).toArray } = H2 at hns₁ hsb₁ ⊢
  have hC : H2.objs.size = s.heap.objs.size + 1 := by rw [← hH2, Heap.size_push]
  have hDC : s.heap.objs.size ≠ H2.objs.size := by rw [hC]; exact Nat.ne_of_lt (Nat.lt_succ_self _)
  have hCle : s.heap.objs.size ≤ H2.objs.size := by rw [hC]; exact Nat.le_succ _
  have below : ∀ b, b < s.heap.objs.size → b ≠ H2.objs.size ∧ b ≠ s.heap.objs.size := fun b hb => ⟨by rw [hC]; exact Nat.ne_of_lt (Nat.lt_succ_of_lt hb), Nat.ne_of_lt hb⟩
  have old : ∀ b o, s.heap.get? b = some o → h₁.get? b = some o := fun b o e => hsb₁.extBut b o (below b (Heap.lt_size e)).1 (Heap.get?_push_of_some _ (hH2 ▸ Heap.get?_push_of_some _ e))
  have hacc : h₁.get? s.heap.objs.size = some { cls := .type "list", data := .seq ([] : List Value).toArray } := hsb₁.extBut _ _ hDC (Heap.get?_push_of_some _ (hH2 ▸ Heap.get?_push_size _ rfl))
  have fplt : ∀ b ∈ fp, b < s.heap.objs.size := fun b hb => let ⟨_, e, _⟩ := T.obj 0 _ st b hb; Heap.lt_size e
  have hcells : ∀ y ∈ scope.names, y.2 = .free → ∃ c, X.env.cells.lookup y.1 = some c := fun y hy e => I.ok.has y.1 (.inl (S.free y hy e))
  have sub : ∀ y c, (closOf X.env.cells scope.names []).lookup y = some c → X.env.cells.lookup y = some c := closOf_sub hcells (fun y c e => by cases e)
  let a : CA := ⟨s, H, H2.objs.size, fp⟩
  have ok : (cxComp X scope N' a).Ok := by
    refine ⟨I.ok.mod, S.kind, I.ok.glob, I.ok.blt, hCle, fun y z c e1 e2 => I.ok.inj y z c (sub y c e1) (sub z c e2), fun y hy => ?_, fun y c z => ?_, I.ok.hd, I.ok.frames, .inl rfl, fun b hb => ⟨(below b (fplt b hb)).1, fun y c e => (f2 b hb).2.2.2.2.1 y c (sub y c e)⟩, I.bs,
      Nat.le_trans I.ok.bsz I.sz, fun b o e hb => ?_, fun b hb z => ?_, I.stack, I.stkFree⟩
    · exact closOf_has (lookup_relabel_free hy S.cell)
    · cases z
    · rcases (f2 b hb).2.2.2.1 with z | z
      · exact I.ok.noex b o e z
      · exact absurd (Nat.lt_of_lt_of_le (Heap.lt_size (I.ok.bs b o e).1) z) (Nat.lt_irrefl _)
    · rcases List.mem_cons.mp (I.stkSub b z) with e | e
      · exact (f2 b hb).2.1 e
      · exact (f2 b hb).2.2.1 e
  have look : ∀ (h' : Heap) (m' : Str → Option Value), (∀ y c, X.env.cells.lookup y = some c → ∀ v, s.heap.IsCell c v → h'.IsCell c v) → ∀ (i : Nat) (y : Str) (v : V), N'[i]? = some y → (pad2 σ)[i]? = some (some v) →
      Vis (relabel scope X.env) y → ∃ u, RelV v u ∧ Look (compEnvC scope (closOf X.env.cells scope.names []) H2.objs.size X.env) h' m' y u := by
    intro h' m' kc i y v e1 e2 e3
    obtain ⟨hlt, e4⟩ := pad2_get e2
    rw [I.len] at hlt
    have e5 : X.N[i]? = some y := by
      rw [S.eqN, List.getElem?_append_left hlt] at e1
      exact e1
    have nx : y ≠ x := fun z => by
      have q : N'[X.N.length]? = some x := by rw [S.eqN, List.getElem?_append_right (Nat.le_refl _)]; simp
      exact absurd (nodup_ix S.nd e1 (by rw [z]; exact q)) (Nat.ne_of_lt hlt)
    have ny : y ≠ y2 := fun z => by
      have q : N'[X.N.length + 1]? = some y2 := by rw [S.eqN, List.getElem?_append_right (Nat.le_succ _)]; simp
      exact absurd (nodup_ix S.nd e1 (by rw [z]; exact q)) (Nat.ne_of_lt (Nat.lt_succ_of_lt hlt))
    have hy : (y, NameKind.free) ∈ scope.names := by
      rcases e3 with e3 | e3 | e3
      · rcases S.only _ (lookup_relabel_loc e3) rfl with z | z | z
        · exact absurd z nx
        · exact absurd z ny
        · exact absurd (List.mem_of_getElem? e1) z
      · exact lookup_relabel_free (.inl e3) S.cell
      · exact lookup_relabel_free (.inr e3) S.cell
    have kcell : X.env.scope.names.lookup y = some .cell := S.free _ hy rfl
    obtain ⟨m0, hn0, hl0⟩ := I.loc
    obtain ⟨u, r, l⟩ := hl0 i y v e5 e4 (.inr (.inl kcell))
    refine ⟨u, r, .inr ⟨?_, ?_⟩⟩
    · rcases e3 with e3 | e3 | e3
      · rcases S.only _ (lookup_relabel_loc e3) rfl with z | z | z
        · exact absurd z nx
        · exact absurd z ny
        · exact absurd (List.mem_of_getElem? e1) z
      · exact .inl e3
      · exact .inr e3
    · rcases l with ⟨k, _⟩ | ⟨k, c, e, z⟩
      · have k' : X.env.scope.names.lookup y = some .local := k
        rw [kcell] at k'; cases k'
      · obtain ⟨c', e'⟩ := closOf_has (cells := X.env.cells) (cs := []) hy
        have e'' := sub y c' e'
        rw [e] at e''
        cases e''
        exact ⟨c, e', kc y c e _ z⟩
  have cellOld : ∀ y c, X.env.cells.lookup y = some c → ∀ v, s.heap.IsCell c v → h₁.IsCell c v := fun y c _ v zz245 => el2 zz245 fun o ho hd => ⟨o, old c o ho, hd⟩
  have fr0 : ∀ b, s.heap.objs.size ≤ b → H b = none := fun b hb => I.hok.fresh hb
  have noPn : ∀ p, p ∉ (cxComp X scope N' a).pn ++ ([] : List (Addr × Obj)) := fun p hp => by simp at hp
  have I0 : Inv (cxComp X scope N' a) [] (pad2 σ) H { s with heap := h₁, toks := s.toks + ([] : List (Str × Value)).length } := by
    refine ⟨ok, rfl, I.bare, Un.kept old, ⟨_, hns₁, look h₁ _ cellOld⟩, fun y c e => ?_, fr0 _ hCle, fun y c e => I.freeC y c (sub y c e), fun p hp => absurd hp (noPn p), I.hok.kept old, by rw [S.eqN]; unfold pad2; rw [List.length_append, List.length_append, I.len]; rfl⟩
    obtain ⟨v, z⟩ := I.cell y c (sub y c e)
    exact ⟨v, cellOld y c (sub y c e) v z⟩
  obtain ⟨W, ⟨m0, w0⟩, turn⟩ := h
  have loop : ∀ s₃ : Shared, s₃ = { s with heap := h₁, toks := s.toks + ([] : List (Str × Value)).length } →
      codeAny (model X.prog X.w) X.A (.compLoop (.ListComp elt [⟨.Tuple [.Name x px, .Name y2 py] kt pt, iter, ifs, 0⟩] scope pos) 0 (.ref it) (.ref s.heap.objs.size) (compEnvC scope (closOf X.env.cells scope.names []) H2.objs.size X.env)) (RR (.ref s.heap.objs.size) H2.objs.size) s₃ := by
    rintro s₃ rfl
    refine compLoop_go (fun k s' => ∃ (i : Nat) (ys : List V) (its : List Value) (n : Nat) (H' : Hp), Inv (cxComp X scope N' a) [] (pad2 σ) H' s' ∧ s'.heap.get? s.heap.objs.size = some { cls := .type "list", data := .seq its.toArray n } ∧ Vals ys its ∧
      H' s.heap.objs.size = none ∧ tn i s'.heap ∧ (∀ b ∈ fp, H' b = none) ∧ W i k ys H') ?_ m0
      ⟨0, [], [], 0, H, I0, hacc, .nil, fr0 _ (Nat.le_refl _), T.keep _ _ _ st fun b hb o e => old b o e, fun b hb => (f2 b hb).1, w0⟩
    rintro k s' ⟨i, ys, its, n, H', I', hD, rv, nD', st', fr', w'⟩ E'
    obtain ⟨hz, hw⟩ := turn i k ys H' w'
    have ownD : Own (cxComp X scope N' a) [] H' s.heap.objs.size := ⟨nD', hDC, Nat.le_refl _, fun y c e z => by
      obtain ⟨v, q⟩ := I.cell y c (sub y c e)
      exact absurd q.lt (by rw [z]; exact Nat.lt_irrefl _), fun p hp => absurd hp (noPn p)⟩
    have fpok : ∀ (pl : List (Addr × Obj)) (H'' : Hp), (∀ b ∈ fp, H'' b = none) → (∀ p ∈ pl, p.1 ∉ fp) → ∀ b ∈ fp, FpOk (cxComp X scope N' a) pl H'' b := fun pl H'' hn hpl b hb =>
      ⟨hn b hb, (below b (fplt b hb)).1, fun z => by
        rcases List.mem_cons.mp (I.stkSub b z) with e | e
        · exact (f2 b hb).2.1 e
        · exact (f2 b hb).2.2.1 e, .inl hb, fun y c e => (f2 b hb).2.2.2.2.1 y c (sub y c e), fun p hp z => by
        have hp' : p ∈ pl := by simpa using hp
        exact hpl p hp' (z ▸ hb)⟩
    have nDfp : s.heap.objs.size ∉ fp := fun z => absurd (fplt _ z) (Nat.lt_irrefl _)
    have pinD : ∀ p ∈ ([(s.heap.objs.size, { cls := .type "list", data := .seq its.toArray n })] : List (Addr × Obj)), s'.heap.get? p.1 = some p.2 ∧ H' p.1 = none ∧ p.1 ≠ (cxComp X scope N' a).env.locals ∧ p.1 ∉ (cxComp X scope N' a).fs ∧ ∀ v, p.2.data ≠ .cell v := fun p hp => by
      have e : p = (s.heap.objs.size, { cls := .type "list", data := .seq its.toArray n }) := by simpa using hp
      subst e
      refine ⟨hD, nD', hDC, fun z => ?_, fun v z => by cases z⟩
      rcases List.mem_cons.mp (I.stkSub _ z) with e | e
      · exact absurd I.lt (by rw [← e]; exact Nat.lt_irrefl _)
      · exact I.nofs (Nat.le_refl _) e
    have Ip := I'.pins_of pinD
    have hpl : ∀ p ∈ ([(s.heap.objs.size, { cls := .type "list", data := .seq its.toArray n })] : List (Addr × Obj)), p.1 ∉ fp := fun p hp => by
      have e : p = (s.heap.objs.size, { cls := .type "list", data := .seq its.toArray n }) := by simpa using hp
      subst e
      exact nDfp
    rcases hw with ⟨stop, q⟩ | ⟨go, N, hN, step⟩
    · refine thn (T.done (cxComp X scope N' a) rfl rfl rfl hc i _ s' _ H' E' Ip (fpok _ H' fr' hpl) st' stop) fun r s4 zz246 => zz246.elim fun hr I4 => ?_
      subst hr
      have hD4 := (I4.pin (s.heap.objs.size, { cls := .type "list", data := .seq its.toArray n }) (by simp)).1
      have J4 : Inv X pins σ H' s4 := I.call' (ch := fp) I4.os I4.base I4.hok I4.bare fun b hb => ⟨(f2 b hb).2.2.2.1, (f2 b hb).2.1, (f2 b hb).2.2.2.2.1, (f2 b hb).2.2.2.2.2⟩
      obtain ⟨m4, hn4, _⟩ := I4.loc
      have hC4 : H' H2.objs.size = none := I4.free
      exact hRR _ _ ys H' s4 m4 hn4 (I.own hCle (by rw [upd_ne (Ne.symm hDC)]; exact hC4)) (J4.track (I.own (Nat.le_refl _) nD') hD4 rv hz) nD' q
    · refine thn (T.item (cxComp X scope N' a) rfl rfl rfl hc i _ s' _ H' E' Ip (fpok _ H' fr' hpl) st' go) fun r s5 zz247 => el2 zz247 fun u hr h5 => ?_
      subst hr
      refine thn h5 fun _ s6 zz248 => zz248.elim fun xv zz249 => zz249.elim fun H6 zz250 => zz250.elim fun I6 zz251 => zz251.elim fun r6 zz252 => zz252.elim fun y6 zz253 => zz253.elim fun st6 fr6 => ?_
      have I6' := I6.pinned (fpok _ H6 fr6 hpl) (T.obj _ _ st6)
      obtain ⟨pa, v1, v2, exv, hsq, step6⟩ := step xv H6 y6 a
      have hgt : gTup X.K 2 (gCons (gName X.N.length) (gCons (gName (X.N.length + 1)) gNil)) xv (pad2 σ) H6 (fun σ7 H7 => σ7 = ((pad2 σ).set X.N.length (some v1)).set (X.N.length + 1) (some v2) ∧ H6 = H7) := ⟨pa, [v1, v2], exv, hsq, rfl, v1, [v2], rfl, v2, [], rfl, rfl, rfl, rfl⟩
      refine wpAny_mono (pg_two S hc a _ s6 _ H6 xv u _ I6' r6 hgt) (fun _ s7 zz254 => el5 zz254 fun σ7 H7 I7 e7 e7' => ?_) fun _ _ z => z.elim
      subst e7 e7'
      have wk : ∀ (i : Nat) v, (pad2 σ)[i]? = some (some v) → (((pad2 σ).set X.N.length (some v1)).set (X.N.length + 1) (some v2))[i]? = some (some v) := fun i v e => by
        have hlt := (pad2_get e).1
        rw [I.len] at hlt
        rw [List.getElem?_set_ne (by lia), List.getElem?_set_ne (by lia)]; exact e
      have e8 : ((pad2 σ).set X.N.length (some v1)).set (X.N.length + 1) (some v2) = σ ++ [some v1, some v2] := by
        unfold pad2
        rw [← I.len, List.set_append_right _ _ (Nat.le_refl _), List.set_append_right _ _ (by lia)]
        simp
      rw [← e8] at step6
      refine wpAny_mono (ht a _ s7 _ H6 _ I7 step6) (fun ok s8 zz255 => el2 zz255 fun H8 I8 q8 => ?_) fun _ _ z => z.elim
      have tnk : ∀ {H9 : Hp} {s9 : Shared} {σ9 : St}, Inv (cxComp X scope N' a) ([(s.heap.objs.size, { cls := .type "list", data := .seq its.toArray n })] ++ pinsAt fp s6.heap) σ9 H9 s9 → tn (i + 1) s9.heap ∧ (∀ b ∈ fp, H9 b = none) ∧ s9.heap.get? s.heap.objs.size = some { cls := .type "list", data := .seq its.toArray n } ∧ H9 s.heap.objs.size = none := fun {H9 s9 σ9} I9 => by
        refine ⟨T.keep _ _ _ st6 fun b hb o e => (I9.pin (b, o) (List.mem_append_right _ (List.mem_append_right _ (mem_pinsAt hb e)))).1, fun b hb => ?_, ?_⟩
        · obtain ⟨o, e, d⟩ := T.obj _ _ st6 b hb
          exact (I9.pin (b, o) (List.mem_append_right _ (List.mem_append_right _ (mem_pinsAt hb e)))).2.1
        · have z := I9.pin (s.heap.objs.size, { cls := .type "list", data := .seq its.toArray n }) (List.mem_append_right _ (List.mem_append_left _ (by simp)))
          exact ⟨z.1, z.2.1⟩
      cases ok with
      | false =>
        obtain ⟨m', hm, w8⟩ : ∃ m', m' < k ∧ W (i + 1) m' ys H8 := hN _ _ (by simpa using q8)
        obtain ⟨t1, t2, t3, t4⟩ := tnk I8
        exact ⟨m', hm, i + 1, ys, its, n, H8, (I8.pins_of (pins' := []) fun p hp => nomatch hp).weak (by rw [List.length_set, List.length_set]) wk, t3, rv, t4, t1, t2, w8⟩
      | true =>
        have q8' := q8
        simp only [if_true] at q8'
        refine wpAny_mono (he a _ s8 _ H8 _ I8 q8') (fun u9 s9 zz256 => el5 zz256 fun v9 H9 I9 r9 q9 => ?_) fun _ _ z => z.elim
        obtain ⟨m', hm, w9⟩ := hN _ _ q9
        obtain ⟨t1, t2, t3, t4⟩ := tnk I9
        have hl := rv.length
        refine append_at (hsz := by show its.toArray.size ≤ sizeLine; rw [List.size_toArray, ← hl]; exact hz) t3 fun h' hs' hD' => ?_
        have J9 := ((I9.pins_of (pins' := []) fun p hp => nomatch hp).weak (σ' := pad2 σ) (by rw [List.length_set, List.length_set]) wk).own_turn (C := s.heap.objs.size) ⟨t4, ownD.ne, ownD.ab, ownD.ce, ownD.pi⟩ hs'
        refine ⟨m', hm, i + 1, ys ++ [v9], its ++ [u9], n + 1, H9, J9, ?_, Vals.append rv (.cons r9 .nil), t4, T.keep _ _ _ t1 fun b hb o e => (hs'.2 b fun z => nDfp (z ▸ hb)).trans e, t2, w9⟩
        rw [List.push_toArray] at hD'
        exact hD'
  exact codeAny_compStart_list (loop _ rfl) (T.self _ 0 _ _ _ (T.keep _ _ _ st fun b hb o e => old b o e) (loop _ rfl))
theorem pe_comp2 {elt iter : Expr} {x y : Str} {px py pt pos : Pos} {kt} {ifs : List Expr} {scope : Scope} {N' : List Str} {wi : TI} {tt : CA → TT} {te : CA → TE} {osc : Scope} {N : List Str}
    (S : CompSc2 N N' osc scope x y) (hc : X.calm = true) (hi : PI X (.Tuple [.Name x px, .Name y py] kt pt) iter wi) (ht : ∀ a : CA, PTs (cxComp X scope N' a) ifs (tt a)) (he : ∀ a : CA, PE (cxComp X scope N' a) elt (te a))
    (ho : X.env.scope = osc := by rfl) (hN : X.N = N := by rfl) (hs : ∀ x, foldedSetIterable iter X.env x = pure x := by intro _; rfl) : PE X (.ListComp elt [⟨.Tuple [.Name x px, .Name y py] kt pt, iter, ifs, 0⟩] scope pos) (tComp2 X.K wi tt te) := by
  subst ho hN
  intro pins s σ H Q I h
  rw [eval_ListComp]
  have hcells : ∀ y ∈ scope.names, y.2 = .free → ∃ c, X.env.cells.lookup y.1 = some c := fun y hy e => I.ok.has y.1 (.inl (S.free y hy e))
  refine wpAny_comprehension_free (use := none) rfl hs (closureFor_eq hcells) S.kind S.names (wpAny_mono (hi pins s σ H _ I h) (fun xv s₁ h₁ => wpAny_mono h₁ (fun itv s₂ h₂ => ?_) fun _ _ e => e) fun _ _ e => e)
  obtain ⟨it, fp, tn, J, H2, rfl, I2, T, st2, f2, q2⟩ := h₂
  refine comp_core2 (RR := fun acc C => compPost (model X.prog X.w) X.A X.xe none (EP X pins σ Q) acc C) S hc ht he I2 T st2 f2 q2 ?_
  intro D C ys H' s' m hn own I' hD q
  refine ⟨m, hn, fun h' hs' => ⟨.ref D, _, I'.own_turn own hs', rfl, q D hD⟩⟩
end
end L2
namespace L2
open PySem PySem.Spec PyProof.Rows
section
variable {X : Cx} {pins : List (Addr × Obj)} {σ : St} {H : Hp} {s : Shared}
end
end L2
namespace L2
open PySem PySem.Spec PyProof.Rows
section
variable {X : Cx}
theorem call_any (hc : X.calm = true) : CallR X (.builtin "any") (fun xs H Q => ∃ (p : Addr) (bs : List Bool), xs = [.ref p] ∧ SqL X.K H p (bs.map V.bl) ∧ Q (.bl (bs.any id)) H) := by
  intro pins s σ H xs us Q I r h
  obtain ⟨p, bs, rfl, hq, q⟩ := h
  obtain ⟨u, rfl, rx⟩ := vals1 r
  cases rx
  obtain ⟨its, rv, pl, hz⟩ := I.list hq
  have hb := vals_bools rv
  have hl := pl.isList
  have hlt : p < s.heap.objs.size := by obtain ⟨_, e, _⟩ := hl; exact Heap.lt_size e
  refine call_any_walk (wpAny_pyIter_list hl ?_)
  refine ⟨s.heap.objs.size, [s.heap.objs.size, p], [s.heap.objs.size], its.toArray.size, _, _, fun i => (bs[i]?).getD false, rfl, Walks.list (A := X.A.in1) (I.ok.hd hc) _ p (Nat.ne_of_lt hlt) its.toArray,
    ⟨⟨_, Heap.get?_push_size _ rfl, rfl, rfl⟩, hl.push _⟩, fun i v s' Q' E' hP hQ => ?_, fun h' tk hk => ?_⟩
  · obtain ⟨b, e, rfl⟩ := hb.get i v (by simpa using hP)
    simp only [e, Option.getD_some] at hQ
    exact wpAny_truthy_bool hQ
  · have e : ((List.range its.toArray.size).any fun i => (bs[i]?).getD false) = bs.any id := by
      rw [List.size_toArray, hb.length, Bool.eq_iff_iff, List.any_eq_true, List.any_eq_true]
      constructor
      · rintro ⟨i, hi, hv⟩
        rw [List.mem_range] at hi
        rw [List.getElem?_eq_getElem hi] at hv
        exact ⟨bs[i], List.getElem_mem hi, hv⟩
      · rintro ⟨b, hb1, hb2⟩
        obtain ⟨i, hi, rfl⟩ := List.mem_iff_getElem.mp hb1
        exact ⟨i, List.mem_range.mpr hi, by rw [List.getElem?_eq_getElem hi]; exact hb2⟩
    rw [e]
    exact ⟨.bl _, H, I.kept (t' := tk) (LSm.kept_iter hk), rfl, q⟩
end
end L2
namespace L2
open PySem PySem.Spec PyProof.Rows
inductive TyOf2 (K : PySem.W.Frag) (H : Hp) : V → Value → Prop where
  | o {x : V} {t : Value} : TyOf K H x t → TyOf2 K H x t
  | f {a : Addr} {o : Obj} {kvs : List (List Key × V)} : H a = some (.frz o (.dT kvs)) → TyOf2 K H (.ref a) (.type "dict")
section
variable {X : Cx}
theorem call_isinst2 : CallR X (.builtin "isinstance") (fun xs H Q => ∃ x cv c t b, xs = [x, cv] ∧ RelV cv c ∧ TyOf2 X.K H x t ∧ PySem.W.kitOne X.K t c = some b ∧ Q (.bl b) H) := by
  intro pins s σ H xs us Q I r h
  obtain ⟨x, cv, c, t, b, rfl, rc, ty, k, q⟩ := h
  obtain ⟨u, w', rfl, r1, r2⟩ := vals2 r
  have e : w' = c := by
    cases cv with
    | non => exact r2.trans rc.symm
    | bl y => exact r2.trans rc.symm
    | ref y => exact r2.trans rc.symm
    | ty y => exact r2.trans rc.symm
    | int y =>
      obtain ⟨t1, rfl⟩ := rc
      exfalso
      unfold PySem.W.kitOne PySem.W.kitCls at k
      cases ty with
      | o ty => cases ty <;> simp at k
      | f e => simp at k
    | str y =>
      obtain ⟨t1, rfl⟩ := rc
      exfalso
      unfold PySem.W.kitOne PySem.W.kitCls at k
      cases ty with
      | o ty => cases ty <;> simp at k
      | f e => simp at k
    | byt y =>
      obtain ⟨t1, rfl⟩ := rc
      exfalso
      unfold PySem.W.kitOne PySem.W.kitCls at k
      cases ty with
      | o ty => cases ty <;> simp at k
      | f e => simp at k
    | flt y =>
      obtain ⟨t1, rfl⟩ := rc
      exfalso
      unfold PySem.W.kitOne PySem.W.kitCls at k
      cases ty with
      | o ty => cases ty <;> simp at k
      | f e => simp at k
  subst e
  cases ty with
  | o ty => exact isinst_ok I r1 ty k fun tk => ⟨.bl b, H, I.tok tk, rfl, q⟩
  | @f a o kvs ea =>
    cases (show u = Value.ref a from r1)
    obtain ⟨_, _, _, xs, _, o', es, ep, h1, h2, _⟩ := (show ObjOk X.prog X.w H s.heap a (.frz o (.dT kvs)) from I.hok a _ ea)
    exact PySem.W.kia_one PySem.W.kitx_dict I.kIn ⟨o', h1, h2.1⟩ k (fun z => nomatch z) fun tk => ⟨.bl b, H, I.tok tk, rfl, q⟩
end
end L2
namespace L2
open PySem PySem.Spec PyProof.Rows
section
variable {X : Cx}
theorem Vals.rev : ∀ {xs : List V} {us : List Value}, Vals xs us → Vals xs.reverse us.reverse
  | _, _, .nil => .nil
  | _ :: xs, _ :: us, .cons r t => by
    rw [List.reverse_cons, List.reverse_cons]
    exact (Vals.rev t).append (.cons r .nil)
end
end L2
namespace L2
open PySem PySem.Spec PyProof.Rows
theorem lri_nolen : typeLookup (.type "list_reverseiterator") "__len__" = pure none := by
  rw [typeLookup_type, builtinLookup_eq_fast]; kernel_rfl
theorem lri_hint : typeLookup (.type "list_reverseiterator") "__length_hint__" = pure (some (.builtin "list_reverseiterator.__length_hint__")) := by
  rw [typeLookup_type, builtinLookup_eq_fast]; kernel_rfl
section
variable {prog : Program} {w : World} {A : Around} {E : Value → Shared → Prop} {s : Shared}
theorem hint_lri {r l : Addr} {i : Int} {Q : Bool → Shared → Prop} (hr : s.heap.IsRevIter r l i) (h : ∀ tk, Q false { s with toks := tk }) : wpAny (model prog w) A (Builtin.List.listLengthHint (.ref r)) Q E s := by
  have hT := hr.typeIs
  unfold Builtin.List.listLengthHint
  refine wpAny_bind (wpAny_specialOf hT lri_nolen ?_)
  show wpAny _ A (specialOf (Value.ref r) (Str.ofString "__length_hint__") >>= _) _ _ _
  refine wpAny_bind (wpAny_specialOf hT lri_hint ?_)
  generalize hid : ("list_reverseiterator.__length_hint__" : String) = id0
  wp_delta
  rw [show splitId id0 = some ("list_reverseiterator", "__length_hint__") from by subst hid; decide +kernel]
  subst hid
  refine wpAny_bind (wpAny_isInstance (b := true) hT (by rw [isSubtype_type]; kernel_rfl) ?_)
  exact wpAny_pure (h s.toks)
theorem call_list_lri {r l : Addr} {items : Array Value} {Q : Value → Shared → Prop} (hh : A.handled = none) (hr : s.heap.IsRevIter r l ((items.size : Int) - 1)) (hl : s.heap.IsList l items) (hne : l ≠ r) (hz : items.size ≤ sizeLine)
    (hQ : ∀ (h' : Heap) (tk : Nat) (acc : Array Value) (c : Nat), (∀ b o, b ≠ r → s.heap.get? b = some o → h'.get? b = some o) → h'.get? s.heap.objs.size = some { cls := .type "list", dict := none, data := .seq acc c, slots := #[] } →
      ItemsOf (fun i v => items[items.size - 1 - i]? = some v) acc items.size → Q (.ref s.heap.objs.size) { s with heap := h', toks := tk }) : wpAny (model prog w) A (call (.type "list") [.ref r]) Q E s := by
  have rlt : r < s.heap.objs.size := by obtain ⟨_, q, _⟩ := hr; exact Heap.lt_size q
  have llt : l < s.heap.objs.size := by obtain ⟨_, q, _⟩ := hl; exact Heap.lt_size q
  refine callType_codes (Q₁ := fun obj t => obj = .ref s.heap.objs.size ∧ t = { s with heap := s.heap.push { cls := .type "list", data := .seq #[] } }) F.called_list (F.typeCall_list_1 _) F.entry_list_init (code_list_new _ ⟨rfl, rfl⟩) fun obj t ht => ?_
  obtain ⟨rfl, rfl⟩ := ht
  have hS : (s.heap.push { cls := .type "list", data := .seq #[] }).get? s.heap.objs.size = some { cls := .type "list", data := .seq #[] } := Heap.get?_push_size _ rfl
  refine ⟨⟨_, hS, rfl⟩, F.args_list_init_2 _ _, ?_⟩
  generalize hh2 : s.heap.push { cls := .type "list", data := .seq #[] } = h2 at hS
  have old : ∀ b o, s.heap.get? b = some o → h2.get? b = some o := fun b o e => hh2 ▸ Heap.get?_push_of_some _ e
  have hSr : s.heap.objs.size ≠ r := Nat.ne_of_gt rlt
  have hSl : s.heap.objs.size ≠ l := Nat.ne_of_gt llt
  show wpAny _ _ (do let was ← Builtin.List.listItems (.ref s.heap.objs.size); Builtin.List.listUpdate (.ref s.heap.objs.size) (fun _ => #[]); letGo was.toList.reverse; Builtin.List.listExtendWith (.ref s.heap.objs.size) (.ref r) .none) _ _ _
  refine wpAny_bind ?_
  unfold Builtin.List.listItems
  refine wpAny_bind (wpAny_seqItems hS rfl (wpAny_pure ?_))
  show wpAny _ _ (updateSeq s.heap.objs.size (fun _ => #[]) >>= fun _ => letGo (#[] : Array Value).toList.reverse >>= fun _ => Builtin.List.listExtendWith (.ref s.heap.objs.size) (.ref r) .none) _ _ _
  refine wpAny_bind (wpAny_updateSeq hS rfl ?_)
  have hS3 := Heap.get?_update_self (Obj.mapSeq (fun _ => (#[] : Array Value))) hS rfl
  refine wpAny_bind (wpAny_letGo ?_)
  have oth : ∀ b o, b ≠ s.heap.objs.size → h2.get? b = some o → (h2.update s.heap.objs.size (Obj.mapSeq (fun _ => (#[] : Array Value)))).get? b = some o := fun b o n e => (Heap.get?_update_other _ _ (Ne.symm n)).trans e
  generalize h2.update s.heap.objs.size (Obj.mapSeq (fun _ => (#[] : Array Value))) = h3 at hS3 oth
  have old3 : ∀ b o, s.heap.get? b = some o → h3.get? b = some o := fun b o e => oth b o (Nat.ne_of_lt (Heap.lt_size e)) (old b o e)
  have hr3 : h3.IsRevIter r l ((items.size : Int) - 1) := hr.at fun o e => old3 r o e
  have hl3 : h3.IsList l items := hl.at fun o e => old3 l o e
  have W := (Walks.listRev (prog := prog) (w := w) (A := A.in1.in1) hh r l hne items).toS
  unfold Builtin.List.listExtendWith
  refine wpAny_bind (wpAny_typeOf (T := "list_reverseiterator") (s := { s with heap := h3 }) hr3.typeIs ?_)
  have z1 : Builtin.List.listSameRef (.ref s.heap.objs.size) (.ref r) = false := by simp [Builtin.List.listSameRef, hSr]
  rw [if_neg (by rw [z1]; decide)]
  refine wpAny_bind (wpAny_pyIter_revIter (s := { s with heap := h3 }) hr3 ?_)
  refine wpAny_bind (wpAny_holding (hint_lri (s := { s with heap := h3 }) hr3 fun tk => ?_))
  rw [if_neg (by decide)]
  have nf : s.heap.objs.size ∉ [r, l] := fun q => by
    rcases List.mem_cons.mp q with e | e
    · exact hSr e
    · exact hSl (by simpa using e)
  have st0 : 0 ≤ items.size ∧ h3.IsRevIter r l ((items.size : Int) - 1 - ((0 : Nat) : Int)) ∧ h3.IsList l items := ⟨Nat.zero_le _, by simpa using hr3, hl3⟩
  refine wpAny_pure ⟨plainId_quiet F.plain_extend_loop _, codeAny_extend_loopS W hz _ nf _ items.size 0 _ _ _ rfl (Nat.zero_le _) st0 hS3 (ItemsOf.nil _) fun s' acc c hm hS' hacc => ?_⟩
  rw [Moved.eq_with hm]
  refine ⟨rfl, hQ s'.heap s'.toks acc c (fun b o n e => hm.heap b o (fun q => ?_) (old3 b o e)) hS' hacc⟩
  rcases List.mem_cons.mp q with z | z
  · exact Nat.ne_of_lt (Heap.lt_size e) z
  · exact n (by simpa using z)
end
theorem bt_reversed2 : bootBuiltins "reversed" = some (.type "reversed") := by decide +kernel
theorem items_rev {items : Array Value} {acc : Array Value} (h : ItemsOf (fun i v => items[items.size - 1 - i]? = some v) acc items.size) : acc.toList = items.toList.reverse := by
  have hl : acc.size = items.size := h.1
  apply List.ext_getElem?
  intro i
  by_cases c : i < items.size
  · have ha : i < acc.size := by lia
    have e := h.2 i acc[i] (Array.getElem?_eq_getElem ha)
    rw [List.getElem?_reverse (by rw [Array.length_toList]; exact c), Array.length_toList, Array.getElem?_toList, Array.getElem?_toList, Array.getElem?_eq_getElem ha]
    exact e.symm
  · rw [List.getElem?_eq_none (by rw [Array.length_toList]; lia), List.getElem?_eq_none (by rw [List.length_reverse, Array.length_toList]; lia)]
section
variable {X : Cx}
theorem pe_lrev {e : Expr} {te : TA} {p1 p2 p3 p4 : Pos} (hg1 : Gl X "list") (hm1 : X.mg "list" = none) (hg2 : Gl X "reversed") (hm2 : X.mg "reversed" = none) (hc : X.calm = true) (he : PA X [e] te) (hs : starEach [e] X.env = [(false, eval e X.env)] := by rfl)
    (hs2 : starEach [.Call (.Name "reversed" p2) [e] [] p3] X.env = [(false, eval (.Call (.Name "reversed" p2) [e] [] p3) X.env)] := by rfl) : PE X (.Call (.Name "list" p1) [.Call (.Name "reversed" p2) [e] [] p3] [] p4)
      (fun σ H Q => te σ H fun vs H1 => ∃ a xs, vs = [.ref a] ∧ SqL X.K H1 a xs ∧ ∀ p, H1 p = none → Q (.ref p) (upd H1 p (.lst xs.reverse))) := by
  intro pins s σ H Q I h
  refine Call_ (ld_blt I hg1 hm1 bt_list (PyProof.Rows.callWith_type1 ?_ hs2 rfl))
  rw [hs2]
  show wpAny _ _ (spliced [(false, eval (.Call (.Name "reversed" p2) [e] [] p3) X.env)]) _ _ s
  refine Calls.spliced_cons ?_
  refine Call_ (ld_blt I hg2 hm2 bt_reversed2 (PyProof.Rows.callWith_type1 (thn (he p3 pins s σ H _ I h) fun us s1 zz271 => el5 zz271 fun vs H1 I1 r1 q1 => ?_) hs rfl))
  obtain ⟨a, xs, rfl, hq, q⟩ := q1
  obtain ⟨u, rfl, rx⟩ := vals1 r1
  cases rx
  obtain ⟨its, rv, pl, hz⟩ := I1.list hq
  have alt : a < s1.heap.objs.size := by obtain ⟨_, z, _⟩ := pl.isList; exact Heap.lt_size z
  refine call_reversed_list pl.isList (Calls.spliced_nil ?_)
  have hr : (s1.heap.push (revObj a ((its.toArray.size : Int) - 1))).IsRevIter s1.heap.objs.size a ((its.toArray.size : Int) - 1) := ⟨_, Heap.get?_push_size _ rfl, rfl, rfl⟩
  have hl2 : (s1.heap.push (revObj a ((its.toArray.size : Int) - 1))).IsList a its.toArray := pl.isList.push _
  have hsz : (s1.heap.push (revObj a ((its.toArray.size : Int) - 1))).objs.size = s1.heap.objs.size + 1 := Heap.size_push ..
  refine call_list_lri (s := { s1 with heap := s1.heap.push (revObj a ((its.toArray.size : Int) - 1)) }) (I1.ok.hd hc) hr hl2 (Nat.ne_of_lt alt) (by rw [List.size_toArray, ← rv.length]; exact hz) fun h' tk acc c hk hS hacc => ?_
  have eq := items_rev hacc
  refine ⟨.ref _, _, I1.laid (t' := tk) (o := .lst xs.reverse) (fun b o z => hk b o (Nat.ne_of_lt (Heap.lt_size z)) (Heap.get?_push_of_some _ z)) (by show s1.heap.objs.size ≤ _; rw [hsz]; exact Nat.le_succ _) (show ObjOk X.prog X.w _ h' _ (.lst xs.reverse) from ⟨by rw [List.length_reverse]; exact hz, acc.toList, c, ?_, by simpa using hS⟩), rfl, q _ (I1.hok.fresh (by show s1.heap.objs.size ≤ _; rw [hsz]; exact Nat.le_succ _))⟩
  rw [eq]
  exact Vals.rev rv
def Itv (K : PySem.W.Frag) (a : Addr) (n : Nat) : It :=
  ⟨fun i H => ∃ xs x, SqL K H a xs ∧ xs.length = n ∧ xs.reverse[i]? = some x, fun i H x H' => H' = H ∧ ∀ xs, SqL K H a xs → xs.reverse[i]? = some x, fun i _ => n ≤ i⟩
theorem turn_rev {P : Program} {w : World} {K : PySem.W.Frag} {tg : Expr} (a it : Addr) (n : Nat) : Turn P w K tg (Itv K a n) [it] it (fun i h => i ≤ n ∧ h.IsRevIter it a ((n : Int) - 1 - ((i : Nat) : Int))) where
  mem := by simp
  obj := fun i h st b hb => by
    have e : b = it := by simpa using hb
    subst e
    obtain ⟨_, o, e, c, d⟩ := st
    exact ⟨o, e, fun v z => by rw [d] at z; cases z⟩
  keep := fun i h h' st k => ⟨st.1, st.2.at fun o e => k it (by simp) o e⟩
  item := by
    intro X hP hw hK hc i pins s σ H E I hf st hg
    subst hP hw hK
    obtain ⟨xs, x, hq, hn, hx⟩ := hg
    obtain ⟨its, rv, p, hz⟩ := I.list hq
    have hil : i < n := by
      have := (List.getElem?_eq_some_iff.mp hx).1
      rw [List.length_reverse, hn] at this
      exact this
    have hx' : xs[n - 1 - i]? = some x := by rw [List.getElem?_reverse (by lia), hn] at hx; exact hx
    obtain ⟨u, hu, ru⟩ := rv.get hx'
    obtain ⟨f0, f1, f2, f3, f4, f5⟩ := hf it (by simp)
    have ei : (n : Int) - 1 - ((i : Nat) : Int) = ((n - 1 - i : Nat) : Int) := by lia
    refine wpAny_pyNext_rev_item (i := n - 1 - i) (by rw [← ei]; exact st.2) p.isList (x := u) (by simpa using hu) fun h' st' sb => ?_
    have I1 : Inv X pins σ H { s with heap := h' } := I.turned (t' := s.toks) (fun b o hb e => (sb.2 b hb).trans e) f0 f1 f3 f4 f5
    obtain ⟨o, e, c, d⟩ := id st'
    have ej : ((n - 1 - i : Nat) : Int) - 1 = (n : Int) - 1 - ((i + 1 : Nat) : Int) := by lia
    exact ⟨u, rfl, go_of (s := { s with heap := h' }) e c d (by decide) ⟨x, H, I1, ru, ⟨rfl, fun ys hy => by rw [I.list_inj hy hq]; exact hx⟩, ⟨hil, by rw [← ej]; exact st'⟩, fun b hb => (hf b hb).1⟩⟩
  done := by
    intro X hP hw hK hc i pins s σ H E I hf st hg
    subst hP hw hK
    obtain ⟨f0, f1, f2, f3, f4, f5⟩ := hf it (by simp)
    have e : i = n := Nat.le_antisymm st.1 hg
    have em : (n : Int) - 1 - ((i : Nat) : Int) = -1 := by lia
    exact wpAny_pyNext_rev_end (I.ok.hd hc) (by rw [← em]; exact st.2) fun h' eb => ⟨rfl, I.turned (t' := s.toks) (fun b o hb e => eb b o hb e) f0 f1 f3 f4 f5⟩
  self := fun _ _ _ _ _ st h => wpAny_pyIter_revIter st.2 h
def iRev (K : PySem.W.Frag) (ta : TA) : TI := fun σ H R => ta σ H fun vs H1 => ∃ a xs, vs = [.ref a] ∧ SqL K H1 a xs ∧ R (Itv K a xs.length) H1
theorem pi_rev {tg a : Expr} {ta : TA} {p pos : Pos} (hg : Gl X "reversed") (hm : X.mg "reversed" = none) (ha : PA X [a] ta) (hs : starEach [a] X.env = [(false, eval a X.env)] := by rfl) : PI X tg (.Call (.Name "reversed" p) [a] [] pos) (iRev X.K ta) := by
  intro pins s σ H R I h
  refine Call_ (ld_blt I hg hm bt_reversed2 (PyProof.Rows.callWith_type1 (thn (ha pos pins s σ H _ I h) fun us s1 zz272 => el5 zz272 fun vs H1 I1 r1 q1 => ?_) hs rfl))
  obtain ⟨a', xs, rfl, hq, q⟩ := q1
  obtain ⟨u, rfl, rx⟩ := vals1 r1
  cases rx
  obtain ⟨its, rv, pl, hz⟩ := I1.list hq
  have en : ((its.toArray.size : Nat) : Int) - 1 = ((xs.length : Nat) : Int) - 1 := by rw [List.size_toArray, ← rv.length]
  refine call_reversed_list pl.isList ?_
  rw [en]
  have hr : (s1.heap.push (revObj a' ((xs.length : Int) - 1))).IsRevIter s1.heap.objs.size a' ((xs.length : Int) - 1) := ⟨_, Heap.get?_push_size _ rfl, rfl, rfl⟩
  refine wpAny_pyIter_revIter (s := { s1 with heap := s1.heap.push (revObj a' ((xs.length : Int) - 1)) }) hr ?_
  refine ⟨_, [s1.heap.objs.size], _, _, H1, rfl, I1.kept (t' := s1.toks) fun b o e => Heap.get?_push_of_some _ e, turn_rev a' _ xs.length, ⟨Nat.zero_le _, by simpa using hr⟩, fun b hb => ?_, q⟩
  have e : b = s1.heap.objs.size := by simpa using hb
  subst e
  exact I1.fpOk (Nat.le_refl _) (I1.hok.fresh (Nat.le_refl _))
end
end L2
namespace L2
open PySem PySem.Spec PyProof.Rows
section
variable {X : Cx} {pins : List (Addr × Obj)} {σ : St} {H : Hp} {s : Shared}
end
end L2
namespace L2
open PySem PySem.Spec PyProof.Rows
section
variable {prog : Program} {w : World} {A : Around} {E : Value → Shared → Prop} {s : Shared}
end
section
variable {prog : Program} {w : World} {A : Around} {R : Result → Shared → Prop} {I : Addr} {fp wr : List Addr} {n : Nat} {P : Nat → Value → Prop} {St : Nat → Heap → Prop}
end
section
variable {X : Cx}
end
end L2
namespace L2
open PySem PySem.Spec PyProof.Rows
section
variable {X : Cx} {pins : List (Addr × Obj)} {σ : St} {H : Hp} {s : Shared} {h' : Heap}
theorem Inv.turnedN {t' : Nat} {L : List Addr} (I : Inv X pins σ H s) (k : ∀ b o, b ∉ L → s.heap.get? b = some o → h'.get? b = some o) (f : ∀ b ∈ L, FpOk X pins H b) : Inv X pins σ H { s with heap := h', toks := t' } := by
  have nL : ∀ b u, H b = some u → b ∉ L := fun b u e z => by rw [(f b z).1] at e; cases e
  refine I.step (g' := s.gens) (d' := s.drawn) (ch := L) (fun b hb => ?_) (fun b o _ _ hc e _ => k b o hc e) (fun b o _ _ hc e _ => ⟨o.slots, k b o hc e⟩) (fun _ _ _ _ n => n)
    (fun b o hc e => ⟨o, k b o hc e⟩) (fun _ _ e => e) (fun _ _ _ e => e) (fun b ps e => ⟨#[], by rw [e]; simp⟩) (fun m hm => ?_) (fun b u q => ?_) I.bare
  · obtain ⟨e0, e1, e2, e3, e4, e5⟩ := f b hb
    exact ⟨e3, e1, e4, e5⟩
  · obtain ⟨o, es, ep, ho, r⟩ := hm
    refine ⟨o, es, ep, k _ o (fun z => ?_) ho, r⟩
    obtain ⟨e0, e1, e2, e3, e4, e5⟩ := f _ z
    exact e1 rfl
  · refine (I.hok b u q).stay (fun c v hc z => k c v ?_ z) (fun _ z => z) fun _ _ z => z
    rcases hc with z | z
    · rw [z]; exact nL b u q
    · exact nL c _ z
end
def Itz (K : PySem.W.Frag) (a b : Addr) : It :=
  ⟨fun i H => ∃ xs ys x y, SqL K H a xs ∧ SqL K H b ys ∧ xs[i]? = some x ∧ ys[i]? = some y, fun i H x H' => ∃ p u v, x = .ref p ∧ H p = none ∧ H' = upd H p (.tup [u, v]) ∧ ∀ xs ys, SqL K H a xs → SqL K H b ys → xs[i]? = some u ∧ ys[i]? = some v, fun i H => ∃ xs ys, SqL K H a xs ∧ SqL K H b ys ∧ (xs.length ≤ i ∨ ys.length ≤ i)⟩
theorem turn_zip {P : Program} {w : World} {K : PySem.W.Frag} {elts : List Expr} {x1} {tpos : Pos} (l1 l2 z TI TO i1 i2 : Addr) (D : ZipApart z TI TO i1 i2 l1 l2) :
    Turn P w K (.Tuple elts x1 tpos) (Itz K l1 l2) [z, TI, TO, i1, i2] z (fun i h => IsZip h z TI TO .none ∧ IsPair h TI (.ref i1) (.ref i2) ∧ (∃ a b, IsPair h TO a b) ∧ h.IsListIter i1 l1 i ∧ h.IsListIter i2 l2 i) where
  mem := by simp
  obj := fun i h st b hb => by
    obtain ⟨hz, hTI, ⟨a, b', hTO⟩, ⟨o1, e1, _, d1⟩, ⟨o2, e2, _, d2⟩⟩ := st
    simp at hb
    rcases hb with rfl | rfl | rfl | rfl | rfl
    · exact ⟨_, hz, fun v z => by cases (show Data.fields _ = Data.cell v from z)⟩
    · exact ⟨_, hTI, fun v z => by cases (show Data.seq _ _ = Data.cell v from z)⟩
    · exact ⟨_, hTO, fun v z => by cases (show Data.seq _ _ = Data.cell v from z)⟩
    · exact ⟨o1, e1, fun v z => by rw [d1] at z; cases z⟩
    · exact ⟨o2, e2, fun v z => by rw [d2] at z; cases z⟩
  keep := fun i h h' st k => by
    obtain ⟨hz, hTI, ⟨a, b, hTO⟩, h1, h2⟩ := st
    exact ⟨k z (by simp) _ hz, k TI (by simp) _ hTI, ⟨a, b, k TO (by simp) _ hTO⟩, h1.at fun o q => k i1 (by simp) o q, h2.at fun o q => k i2 (by simp) o q⟩
  item := by
    intro X hP hw hK hc i pins s σ H E I hf st hg
    subst hP hw hK
    obtain ⟨hz, hTI, ⟨a0, b0, hTO⟩, h1, h2⟩ := st
    obtain ⟨xs, ys, x, y, hq1, hq2, hx, hy⟩ := hg
    obtain ⟨its1, rv1, p1, _⟩ := I.list hq1
    obtain ⟨its2, rv2, p2, _⟩ := I.list hq2
    obtain ⟨u, hu, ru⟩ := rv1.get hx
    obtain ⟨v, hv, rw'⟩ := rv2.get hy
    have lt : ∀ b ∈ [z, TI, TO, i1, i2], b < s.heap.objs.size := fun b hb => by
      simp at hb
      rcases hb with rfl | rfl | rfl | rfl | rfl
      · exact Heap.lt_size hz
      · exact Heap.lt_size hTI
      · exact Heap.lt_size hTO
      · obtain ⟨_, q, _⟩ := id h1; exact Heap.lt_size q
      · obtain ⟨_, q, _⟩ := id h2; exact Heap.lt_size q
    refine wpAny_pyNext_zip_item D hz hTI hTO h1 h2 p1.isList p2.isList (x := u) (y := v) (by simpa using hu) (by simpa using hv) fun h' a1 a2 a3 a4 a5 a6 hk => ?_
    refine ⟨_, rfl, wpAny_letOwnedTupleGo_zip a1 fun h2' hz2 hs2 => ?_⟩
    replace hs2 : Heap.SameBut z h' h2' := hs2
    have hn : H s.heap.objs.size = none := I.hok.fresh (Nat.le_refl _)
    have I1 : Inv X pins σ (upd H s.heap.objs.size (.tup [x, y])) { s with heap := s.heap.push { cls := .type "tuple", data := .seq #[u, v] }, toks := s.toks } :=
      I.laid (fun b o q => Heap.get?_push_of_some _ q) (Nat.le_refl _) ⟨by show 2 ≤ sizeLine; decide, [u, v], .cons ru (.cons rw' .nil), ⟨_, Heap.get?_push_size _ rfl, rfl, _, rfl⟩⟩
    have ge : ∀ b, b < s.heap.objs.size → FpOk X pins H b → FpOk X pins (upd H s.heap.objs.size (.tup [x, y])) b := fun b hb f => ⟨by rw [upd_ne (Nat.ne_of_lt hb)]; exact f.1, f.2⟩
    have I2 := I1.turnedN (h' := h2') (t' := s.toks) (L := [z, TI, TO, i1, i2]) (fun b o nb q => by
      simp at nb
      obtain ⟨n1, n2, n3, n4, n5⟩ := nb
      rw [hs2.2 b n1]
      rcases Heap.get?_push_cases q with ⟨e1, e2⟩ | q
      · subst e1 e2
        exact a5
      · exact hk b o n1 n3 n4 n5 q) (fun b hb => ge b (lt b hb) (hf b hb))
    refine ⟨.ref s.heap.objs.size, _, I2, rfl, ⟨_, x, y, rfl, hn, rfl, fun xs' ys' q1 q2 => ⟨by rw [I.list_inj q1 hq1]; exact hx, by rw [I.list_inj q2 hq2]; exact hy⟩⟩, ⟨hz2, ?_, ⟨u, v, ?_⟩, ?_, ?_⟩, fun b hb => (ge b (lt b hb) (hf b hb)).1⟩
    · exact (hs2.2 TI D.TIz).trans (hk _ _ D.TIz D.TITO D.TIi1 D.TIi2 hTI)
    · exact (hs2.2 TO D.TOz).trans a2
    · exact a3.at fun o q => (hs2.2 i1 D.i1z).trans q
    · exact a4.at fun o q => (hs2.2 i2 D.i2z).trans q
  done := by
    intro X hP hw hK hc i pins s σ H E I hf st hg
    subst hP hw hK
    obtain ⟨hz, hTI, ⟨a0, b0, hTO⟩, h1, h2⟩ := st
    obtain ⟨xs, ys, hq1, hq2, hx⟩ := hg
    obtain ⟨its1, rv1, p1, _⟩ := I.list hq1
    obtain ⟨its2, rv2, p2, _⟩ := I.list hq2
    have e1 := rv1.length
    have e2 := rv2.length
    refine wpAny_pyNext_zip_end (I.ok.hd hc) D hz hTI hTO h1 h2 p1.isList p2.isList ?_ fun h' hk => ⟨rfl, I.turnedN (t' := s.toks) (L := [z, TI, TO, i1, i2]) (fun b o nb q => ?_) hf⟩
    · rcases hx with hx | hx
      · exact .inl (by simp; lia)
      · exact .inr (by simp; lia)
    · simp at nb
      exact hk b o nb.1 nb.2.2.1 nb.2.2.2.1 nb.2.2.2.2 q
  self := fun _ _ _ _ _ st h => wpAny_pyIter_zip st.1 h
section
variable {X : Cx}
def iZip (K : PySem.W.Frag) (ta : TA) : TI := fun σ H R => ta σ H fun vs H1 => ∃ a b, vs = [.ref a, .ref b] ∧ (∃ xs, SqL K H1 a xs) ∧ (∃ ys, SqL K H1 b ys) ∧ R (Itz K a b) H1
theorem pi_zip {elts : List Expr} {x1} {tpos : Pos} {a b : Expr} {ta : TA} {p pos : Pos} (hg : Gl X "zip") (hm : X.mg "zip" = none) (ha : PA X [a, b] ta) (hs : starEach [a, b] X.env = [(false, eval a X.env), (false, eval b X.env)] := by rfl) (hs2 : starEach [b] X.env = [(false, eval b X.env)] := by rfl) : PI X (.Tuple elts x1 tpos) (.Call (.Name "zip" p) [a, b] [] pos) (iZip X.K ta) := by
  intro pins s σ H R I h
  refine Call_ (ld_blt I hg hm bt_zip (PyProof.Rows.callWith_type1 (thn (ha pos pins s σ H _ I h) fun us s1 zz285 => el5 zz285 fun vs H1 I1 r1 q1 => ?_) (by rw [hs, hs2]) (by rw [hs2]; rfl)))
  obtain ⟨a', b', e, ⟨xs, hq1⟩, ⟨ys, hq2⟩, q⟩ := q1
  subst e
  obtain ⟨u, v, rfl, ra, rb⟩ := r1.two
  cases ra
  cases rb
  obtain ⟨its1, rv1, p1, _⟩ := I1.list hq1
  obtain ⟨its2, rv2, p2, _⟩ := I1.list hq2
  have la : a' < s1.heap.objs.size := by obtain ⟨_, e, _⟩ := p1.isList; exact Heap.lt_size e
  have lb : b' < s1.heap.objs.size := by obtain ⟨_, e, _⟩ := p2.isList; exact Heap.lt_size e
  refine call_zip_2 p1.isList p2.isList fun h' hz hTI hTO h1 h2 hsz hk => ?_
  refine wpAny_pyIter_zip (s := { s1 with heap := h' }) hz ?_
  have I2 : Inv X pins σ H1 { s1 with heap := h' } := I1.kept (t' := s1.toks) hk
  have ne : ∀ {x y : Nat}, x < y → x ≠ y := fun h => Nat.ne_of_lt h
  have lt : ∀ (x k : Nat), x < s1.heap.objs.size → x ≠ s1.heap.objs.size + k := fun x k hx => Nat.ne_of_lt (Nat.lt_of_lt_of_le hx (Nat.le_add_right _ _))
  have pn : ∀ (i j : Nat), i ≠ j → s1.heap.objs.size + i ≠ s1.heap.objs.size + j := fun i j hij z => hij (Nat.add_left_cancel z)
  refine ⟨_, [s1.heap.objs.size + 4, s1.heap.objs.size + 2, s1.heap.objs.size + 3, s1.heap.objs.size, s1.heap.objs.size + 1], _, _, H1, rfl, I2, turn_zip a' b' _ _ _ _ _ ⟨pn 2 4 (by decide), pn 3 4 (by decide), pn 0 4 (by decide), pn 1 4 (by decide), pn 2 3 (by decide), pn 2 0 (by decide), pn 2 1 (by decide), pn 3 0 (by decide), pn 3 1 (by decide), pn 0 1 (by decide), lt a' 4 la, lt a' 3 la, lt a' 0 la, lt a' 1 la, lt b' 4 lb, lt b' 3 lb, lt b' 0 lb, lt b' 1 lb⟩, ⟨hz, hTI, ⟨_, _, hTO⟩, h1, h2⟩, fun b hb => ?_, q⟩
  have fp : ∀ k : Nat, FpOk X pins H1 (s1.heap.objs.size + k) := fun k => I1.fpOk (Nat.le_add_right _ _) (I1.hok.fresh (Nat.le_add_right _ _))
  simp at hb
  rcases hb with rfl | rfl | rfl | rfl | rfl
  · exact fp 4
  · exact fp 2
  · exact fp 3
  · exact fp 0
  · exact fp 1
end
end L2
namespace L2
open PySem PySem.Spec PyProof.Rows
section
variable {X : Cx} {tg : Expr}
end
end L2
namespace L2
open PySem PySem.Spec PyProof.Rows
section
variable {prog : Program} {w : World} {A : Around} {R : Result → Shared → Prop} {I : Addr} {fp wr : List Addr} {n : Nat} {P : Nat → Value → Prop} {St : Nat → Heap → Prop}
end
section
variable {X : Cx}
end
end L2
namespace L2
open PySem PySem.Spec PyProof.Rows
section
variable {prog : Program} {w : World} {A : Around} {R : Result → Shared → Prop} {I : Addr} {fp wr : List Addr} {n : Nat} {P : Nat → Value → Prop} {St : Nat → Heap → Prop}
end
section
variable {X : Cx}
end
end L2
namespace My
open PySem L2
def Hd (H : Hp) (a l : Addr) : Prop := ∃ (ns : List Int) (p b c u v : Int), H l = some (.lst (ns.map V.int)) ∧ 0 ≤ p ∧ H a = some (.lst [.ref l, .int p, .int b, .int c, .int u, .int v])
def Kp (a : Addr) (H H' : Hp) : Prop := ∀ b o, H b = some o → b ≠ a → H' b = some o
theorem Kp.refl (a : Addr) (H : Hp) : Kp a H H := fun _ _ e _ => e
theorem Kp.trans {a : Addr} {H H1 H2 : Hp} (x : Kp a H H1) (y : Kp a H1 H2) : Kp a H H2 := fun b o e n => y b o (x b o e n) n
theorem ne_hand {H : Hp} {a l : Addr} {ns : List Int} {xs : List V} (hl : H l = some (.lst (ns.map V.int))) (ha : H a = some (.lst (.ref l :: xs))) : l ≠ a := ne_of hl ha (by
  intro e
  injection e with e
  cases ns with
  | nil => cases e
  | cons n r => injection e with e1; cases e1)
theorem Hd.at1 {H : Hp} {a l : Addr} (h : Hd H a l) : ∃ o, H a = some o := let ⟨_, _, _, _, _, _, _, _, e⟩ := h; ⟨_, e⟩
theorem Hd.at2 {H : Hp} {a l : Addr} (h : Hd H a l) : ∃ o, H l = some o := let ⟨_, _, _, _, _, _, e, _⟩ := h; ⟨_, e⟩
theorem Hd.ne {H : Hp} {a l p : Addr} (h : Hd H a l) (hp : H p = none) : p ≠ a ∧ p ≠ l := by
  obtain ⟨o, e⟩ := h.at1
  obtain ⟨o', e'⟩ := h.at2
  exact ⟨(ne_of_none e hp).symm, (ne_of_none e' hp).symm⟩
theorem Hd.wr {H : Hp} {a l p : Addr} {o : HO} (h : Hd H a l) (n1 : p ≠ a) (n2 : p ≠ l) : Hd (upd H p o) a l := by
  obtain ⟨ns, q, b, c, u, v, h1, h2, h3⟩ := h
  exact ⟨ns, q, b, c, u, v, by rw [upd_ne n2.symm]; exact h1, h2, by rw [upd_ne n1.symm]; exact h3⟩
theorem Hd.lay {H : Hp} {a l p : Addr} {o : HO} (h : Hd H a l) (hp : H p = none) : Hd (upd H p o) a l := h.wr (h.ne hp).1 (h.ne hp).2
theorem Hd.same {H H' : Hp} {a l : Addr} (h : Hd H a l) (s : Same H H') : Hd H' a l := by
  obtain ⟨ns, q, b, c, u, v, h1, h2, h3⟩ := h
  exact ⟨ns, q, b, c, u, v, s _ _ h1, h2, s _ _ h3⟩
theorem _root_.L2.Same.lay {p : Addr} {H H1 : Hp} {o : HO} (x : Same H H1) (h : H1 p = none) : Same H (upd H1 p o) := fun b u e => by
  have e1 := x b u e
  rw [upd_ne (ne_of_none e1 h)]; exact e1
theorem atI_ints {ns : List Int} {p : Int} (h0 : 0 ≤ p) (h1 : p < (ns.length : Int)) : ∃ z, atI (ns.map V.int) p = some (.int z) := by
  obtain ⟨n, rfl⟩ := Int.eq_ofNat_of_zero_le h0
  have hp : n < ns.length := by lia
  exact ⟨ns[n], atI_nat (by rw [List.getElem?_map, List.getElem?_eq_getElem hp]; rfl)⟩
def spHand (K : PySem.W.Frag) : Sp := fun vs H Q _ => ∃ (a : Addr) (ns : List Int), vs = [.ref a] ∧ SqL K H a (ns.map V.int) ∧ ∀ (p l : Addr) (H' : Hp), H p = none → H l = none → Hd H' p l → Same H H' → Q (.ref p) H'
def spNext : Sp := fun vs H Q _ => ∃ a l, vs = [.ref a] ∧ Hd H a l ∧ ∀ (r : Int) (H' : Hp), Hd H' a l → Kp a H H' → Q (.int r) H'
def spTake : Sp := fun vs H Q _ => ∃ a l, vs = [.ref a] ∧ Hd H a l ∧ ∀ (H' : Hp), Hd H' a l → Kp a H H' → Q .non H'
def spDraw : Sp := fun vs H Q _ => ∃ a l m, vs = [.ref a, .int m] ∧ Hd H a l ∧ 0 < m ∧ m < 100000000000000000000000000000000000000000000000000000000000000 ∧ ∀ (r : Int) (H' : Hp), 0 ≤ r → r < m → Hd H' a l → Kp a H H' → Q (.int r) H'
end My
namespace My
open PySem L2
def dEn (ks : List (List Int)) : List (List Key × V) := ks.map fun k => (k.map Sum.inl, V.bl true)
def dEm (ks : List (List Int × Int)) : List (List Key × V) := ks.map fun p => (p.1.map Sum.inl, V.int p.2)
def keyT (k : List Int) : PyData := .tuple (k.map PyData.int)
inductive DiU : HO → List (PyData × PyData) → Prop
  | t : DiU (.dT []) []
  | k (i j : Int) : DiU (.dK [(Sum.inl i, V.int j)]) [(.int i, .int j)]
  | f (o : Obj) (ks : List (List Int)) : DiU (.frz o (.dT (dEn ks))) ((.none, .none) :: ks.map fun k => (keyT k, .bool true))
mutual
inductive ThV (F : Addr → Prop) (H : Hp) : V → PyData → Prop
  | non : ThV F H .non .none
  | bl (b) : ThV F H (.bl b) (.bool b)
  | int (i) : ThV F H (.int i) (.int i)
  | str (x) : ThV F H (.str x) (.str x)
  | lst {a xs ds} : F a → H a = some (.lst xs) → ThVs F H xs ds → ThV F H (.ref a) (.list ds)
  | tup {a xs ds} : F a → H a = some (.tup xs) → ThVs F H xs ds → ThV F H (.ref a) (.tuple ds)
  | dic {a u kvs} : F a → H a = some u → DiU u kvs → ThV F H (.ref a) (.dict kvs)
inductive ThVs (F : Addr → Prop) (H : Hp) : List V → List PyData → Prop
  | nil : ThVs F H [] []
  | cons {x xs d ds} : ThV F H x d → ThVs F H xs ds → ThVs F H (x :: xs) (d :: ds)
end
mutual
theorem ThV.mv {F G : Addr → Prop} {H H' : Hp} (f : ∀ b o, F b → H b = some o → G b ∧ H' b = some o) : ∀ {v : V} {d : PyData}, ThV F H v d → ThV G H' v d
  | _, _, .non => .non
  | _, _, .bl b => .bl b
  | _, _, .int i => .int i
  | _, _, .str x => .str x
  | _, _, .lst n e t => .lst (f _ _ n e).1 (f _ _ n e).2 (ThVs.mv f t)
  | _, _, .tup n e t => .tup (f _ _ n e).1 (f _ _ n e).2 (ThVs.mv f t)
  | _, _, .dic n e t => .dic (f _ _ n e).1 (f _ _ n e).2 t
theorem ThVs.mv {F G : Addr → Prop} {H H' : Hp} (f : ∀ b o, F b → H b = some o → G b ∧ H' b = some o) : ∀ {vs : List V} {ds : List PyData}, ThVs F H vs ds → ThVs G H' vs ds
  | _, _, .nil => .nil
  | _, _, .cons x t => .cons (ThV.mv f x) (ThVs.mv f t)
end
theorem ThVs.same {F : Addr → Prop} {H H' : Hp} {v : List V} {d : List PyData} (t : ThVs F H v d) (s : Same H H') : ThVs F H' v d := t.mv fun b o z e => ⟨z, s b o e⟩
theorem ThVs.append {F : Addr → Prop} {H : Hp} {xs : List V} {ds : List PyData} {ys : List V} {es : List PyData} (t : ThVs F H xs ds) (y : ThVs F H ys es) : ThVs F H (xs ++ ys) (ds ++ es) := by
  induction xs generalizing ds with
  | nil => cases t; exact y
  | cons v xs ih =>
    cases t with
    | cons x t => exact .cons x (ih t)
theorem ThVs.len {F : Addr → Prop} {H : Hp} {xs : List V} {ds : List PyData} (t : ThVs F H xs ds) : xs.length = ds.length := by
  induction xs generalizing ds with
  | nil => cases t; rfl
  | cons v xs ih =>
    cases t with
    | cons x t => rw [List.length_cons, List.length_cons, ih t]
theorem ThVs.get {F : Addr → Prop} {H : Hp} : ∀ {xs : List V} {ds : List PyData} {i : Nat} {v : V}, ThVs F H xs ds → xs[i]? = some v → ∃ d, ds[i]? = some d ∧ ThV F H v d
  | _, _, _, _, .nil, e => by simp at e
  | _, _, 0, v, .cons (d := d) x _, e => by
    have e' := Option.some.inj e
    subst e'
    exact ⟨d, rfl, x⟩
  | _, _, i + 1, v, .cons _ t, e => ThVs.get (i := i) t e
theorem ThVs.at {F : Addr → Prop} {H : Hp} : ∀ {xs : List V} {ds : List PyData} {i : Nat} {d : PyData}, ThVs F H xs ds → ds[i]? = some d → ∃ v, xs[i]? = some v ∧ ThV F H v d
  | _, _, _, _, .nil, e => by simp at e
  | _, _, 0, d, .cons (x := v) x _, e => by
    have e' := Option.some.inj e
    subst e'
    exact ⟨v, rfl, x⟩
  | _, _, i + 1, v, .cons _ t, e => ThVs.at (i := i) t e
mutual
theorem ThV.dat {K : PySem.W.Frag} {F : Addr → Prop} {H : Hp} : ∀ {v : V} {d : PyData}, ThV F H v d → d.canLay0 = true → DatV K H v d
  | _, _, .non, _ => .non
  | _, _, .bl b, _ => .bl b
  | _, _, .int i, _ => .int i
  | _, _, .str x, _ => .str x
  | _, _, .lst _ e t, h => .lst (SqL.of e) (ThVs.dat t (by rw [PyData.canLay0] at h; exact h))
  | _, _, .tup _ e t, h => .tup (SqT.of e) (ThVs.dat t (by rw [PyData.canLay0] at h; exact h))
  | _, _, .dic _ _ _, h => by rw [PyData.canLay0] at h; cases h
theorem ThVs.dat {K : PySem.W.Frag} {F : Addr → Prop} {H : Hp} : ∀ {vs : List V} {ds : List PyData}, ThVs F H vs ds → PyData.canLayAll0 ds = true → DatVs K H vs ds
  | _, _, .nil, _ => .nil
  | _, _, .cons x t, h => by
    rw [PyData.canLayAll0, Bool.and_eq_true] at h
    exact .cons (ThV.dat x h.1) (ThVs.dat t h.2)
end
end My
namespace My
open PySem L2
structure DC where
  F : Addr → Prop
  hand : Option (Addr × Addr)
  H0 : Hp
def Kq (h : Option (Addr × Addr)) (H H' : Hp) : Prop := ∀ b o, H b = some o → (∀ q, h = some q → b ≠ q.1) → H' b = some o
def Hq (h : Option (Addr × Addr)) (H : Hp) : Prop := ∀ q, h = some q → Hd H q.1 q.2
section
variable {h : Option (Addr × Addr)} {H H1 H2 H' : Hp} {p : Addr} {o : HO}
theorem Kq.refl : Kq h H H := fun _ _ e _ => e
theorem Kq.trans (a : Kq h H H1) (b : Kq h H1 H2) : Kq h H H2 := fun c o e n => b c o (a c o e n) n
theorem Kq.same (s : Same H H') : Kq h H H' := fun b o e _ => s b o e
theorem Kq.fr {b : Addr} (k : Kq h H H') (q : Hq h H') (e : H' b = none) : H b = none := by
  cases z : H b with
  | none => rfl
  | some o =>
    by_cases c : ∀ p, h = some p → b ≠ p.1
    · rw [k b o z c] at e; cases e
    · refine absurd (fun p hp hb => ?_) c
      obtain ⟨o', e'⟩ := (q p hp).at1
      rw [hb, e'] at e; cases e
theorem Kq.lay (hp : H p = none) : Kq h H (upd H p o) := Kq.same ((Same.refl H).lay hp)
theorem Hq.lay (q : Hq h H) (hp : H p = none) : Hq h (upd H p o) := fun z hz => (q z hz).lay hp
theorem Hq.same (q : Hq h H) (s : Same H H') : Hq h H' := fun z hz => (q z hz).same s
end
inductive Rws (G F : Addr → Prop) (H : Hp) : List Addr → List (List PyData) → Prop
  | nil : Rws G F H [] []
  | cons {b vs as ds dss} : G b → H b = some (.lst vs) → ThVs F H vs ds → Rws G F H as dss → Rws G F H (b :: as) (ds :: dss)
theorem Rws.mv {G F G' F' : Addr → Prop} {H H' : Hp} {as : List Addr} {dss : List (List PyData)} (t : Rws G F H as dss) (f : ∀ b o, F b → H b = some o → F' b ∧ H' b = some o) (g : ∀ b o, G b → H b = some o → G' b ∧ H' b = some o) : Rws G' F' H' as dss := by
  induction t with
  | nil => exact .nil
  | cons x e y _ ih => exact .cons (g _ _ x e).1 (g _ _ x e).2 (y.mv f) ih
theorem Rws.mvl {G F G' F' : Addr → Prop} {H H' : Hp} {as : List Addr} {dss : List (List PyData)} (t : Rws G F H as dss) (f : ∀ b o, F b → H b = some o → F' b ∧ H' b = some o) (g : ∀ b ys, G b → H b = some (.lst ys) → G' b ∧ H' b = some (.lst ys)) : Rws G' F' H' as dss := by
  induction t with
  | nil => exact .nil
  | cons x e y _ ih => exact .cons (g _ _ x e).1 (g _ _ x e).2 (y.mv f) ih
def DiAt (H : Hp) (a : Addr) (ks : List (List Int)) : Bool → Prop
  | false => H a = some (.dT (dEn ks))
  | true => ∃ o, H a = some (.frz o (.dT (dEn ks)))
theorem DiAt.mv {H H' : Hp} {a : Addr} {ks : List (List Int)} {f : Bool} (h : DiAt H a ks f) (k : ∀ o, H a = some o → H' a = some o) : DiAt H' a ks f := by
  cases f with
  | false => exact k _ h
  | true => obtain ⟨o, h⟩ := h; exact ⟨o, k _ h⟩
theorem DiAt.ne {H : Hp} {a : Addr} {ks : List (List Int)} {f : Bool} (h : DiAt H a ks f) : H a ≠ none := by
  cases f with
  | false => exact fun q => by rw [show H a = _ from h] at q; cases q
  | true => obtain ⟨o, h⟩ := h; exact fun q => by rw [h] at q; cases q
def DmAt (H : Hp) (a : Addr) (ks : List (List Int × Int)) : Bool → Prop
  | false => H a = some (.dT (dEm ks))
  | true => ∃ o, H a = some (.frz o (.dT (dEm ks)))
theorem DmAt.mv {H H' : Hp} {a : Addr} {ks : List (List Int × Int)} {f : Bool} (h : DmAt H a ks f) (k : ∀ o, H a = some o → H' a = some o) : DmAt H' a ks f := by
  cases f with
  | false => exact k _ h
  | true => obtain ⟨o, h⟩ := h; exact ⟨o, k _ h⟩
theorem DmAt.ne {H : Hp} {a : Addr} {ks : List (List Int × Int)} {f : Bool} (h : DmAt H a ks f) : H a ≠ none := by
  cases f with
  | false => exact fun q => by rw [show H a = _ from h] at q; cases q
  | true => obtain ⟨o, h⟩ := h; exact fun q => by rw [h] at q; cases q
structure ORel where
  p : (Addr → Prop) → Hp → V → Prop
  mv : ∀ {W W' : Addr → Prop} {H H' : Hp} {v : V}, (∀ b o, W b → H b = some o → W' b ∧ H' b = some o) → p W H v → p W' H' v
inductive Sl where
  | no
  | sh (d : PyData)
  | ow (ds : List PyData)
  | bo (ds : List PyData)
  | hd
  | o2 (dss : List (List PyData))
  | b2 (dss : List (List PyData))
  | di (f : Bool) (ks : List (List Int))
  | dm (f : Bool) (kvs : List (List Int × Int))
  | bd (d : PyData)
  | ot (d : PyData)
  | ob (R : ORel)
abbrev Z (col : Addr → Nat) : Addr → Prop := fun b => col b = 0
abbrev Le (C : DC) : Addr → Prop := fun b => C.H0 b ≠ none ∧ ∀ q, C.hand = some q → b ≠ q.1
abbrev Ow (C : DC) (col : Addr → Nat) (H : Hp) (i : Nat) : Addr → Prop := fun b => (col b = 2 * i + 3 ∧ C.H0 b = none) ∨ (col b = 0 ∧ ∃ xs, H b = some (.tup xs))
def SlR (C : DC) (col : Addr → Nat) (H : Hp) (i : Nat) (o : Option V) : Sl → Prop
  | .no => True
  | .sh d => ∃ v, o = some v ∧ ThV (Z col) H v d
  | .ow ds => ∃ a vs, o = some (.ref a) ∧ col a = 2 * i + 3 ∧ C.H0 a = none ∧ H a = some (.lst vs) ∧ ThVs (Z col) H vs ds
  | .bo ds => ∃ a vs, o = some (.ref a) ∧ col a ≤ 1 ∧ (∀ q, C.hand = some q → a ≠ q.1) ∧ H a = some (.lst vs) ∧ ThVs (Z col) H vs ds
  | .hd => ∃ q, C.hand = some q ∧ o = some (.ref q.1)
  | .o2 dss => ∃ a as, o = some (.ref a) ∧ (col a = 2 * i + 3 ∧ C.H0 a = none) ∧ H a = some (.lst (as.map V.ref)) ∧ (a :: as).Nodup ∧ Rws (fun b => col b = 2 * i + 3 ∧ C.H0 b = none) (Z col) H as dss
  | .b2 dss => ∃ a as, o = some (.ref a) ∧ (col a ≤ 1 ∧ ∀ q, C.hand = some q → a ≠ q.1) ∧ H a = some (.lst (as.map V.ref)) ∧ Rws (fun b => col b ≤ 1 ∧ ∀ q, C.hand = some q → b ≠ q.1) (Z col) H as dss
  | .di f ks => ∃ a, o = some (.ref a) ∧ col a = 2 * i + 3 ∧ C.H0 a = none ∧ DiAt H a ks f
  | .dm f ks => ∃ a, o = some (.ref a) ∧ col a = 2 * i + 3 ∧ C.H0 a = none ∧ DmAt H a ks f
  | .bd d => ∃ v, o = some v ∧ ThV (Le C) C.H0 v d
  | .ot d => ∃ v, o = some v ∧ ThV (Ow C col H i) H v d
  | .ob R => ∃ v, o = some v ∧ R.p (Ow C col H i) H v
inductive Pe where
  | v (v : V) (d : PyData)
  | n (a : Addr) (o : HO)
  | s (vs : List V) (ds : List PyData)
  | o (c : Nat) (as : List Addr) (dss : List (List PyData))
  | w (v : V) (d : PyData)
def PeR (C : DC) (col : Addr → Nat) (H : Hp) : Pe → Prop
  | .v v d => ThV (Z col) H v d
  | .n a o => col a ≤ 1 ∧ (∀ q, C.hand = some q → a ≠ q.1) ∧ H a = some o
  | .s vs ds => ThVs (Z col) H vs ds
  | .o c as dss => as.Nodup ∧ Rws (fun b => col b = 2 * c + 2 ∧ C.H0 b = none) (Z col) H as dss
  | .w v d => ThV (Le C) C.H0 v d
structure RelC (C : DC) (col : Addr → Nat) (ρ : List Sl) (σ : St) (P : List Pe) (H : Hp) : Prop where
  fresh : ∀ b, H b = none → col b = 0
  inF : ∀ b, col b = 0 → C.F b
  hnd : ∀ q, C.hand = some q → col q.1 = 1
  sl : ∀ i s, ρ[i]? = some s → SlR C col H i (σ[i]?).join s
  pd : ∀ p ∈ P, PeR C col H p
  kq : Kq C.hand C.H0 H
  hq : Hq C.hand H
  hq0 : Hq C.hand C.H0
  nf : (∀ b, C.H0 b = none → C.F b) ∧ ∀ b xs, C.H0 b = some (.tup xs) → C.F b
  len : ρ.length = σ.length
def Rel (C : DC) (ρ : List Sl) (σ : St) (P : List Pe) (H : Hp) : Prop := ∃ col, RelC C col ρ σ P H
section
variable {C : DC} {col col' : Addr → Nat} {ρ : List Sl} {σ : St} {P P' : List Pe} {H H' : Hp} {v : V} {d : PyData} {o : HO} {p : Addr}
theorem RelC.notH (r : RelC C col ρ σ P H) {b : Addr} (hb : col b ≠ 1) : ∀ q, C.hand = some q → b ≠ q.1 := fun q hq e => hb (e ▸ r.hnd q hq)
theorem RelC.mv (r : RelC C col ρ σ P H) (k : Kq C.hand H H') (q : Hq C.hand H') : RelC C col ρ σ P H' := by
  have mv0 : ∀ b o, Z col b → H b = some o → Z col b ∧ H' b = some o := fun b o z e => ⟨z, k b o e (r.notH (by rw [show col b = 0 from z]; decide))⟩
  refine ⟨fun b e => r.fresh b (k.fr q e), r.inF, r.hnd, fun i s e => ?_, fun p hp => ?_, r.kq.trans k, q, r.hq0, r.nf, r.len⟩
  · have h := r.sl i s e
    cases s with
    | no => trivial
    | sh d => obtain ⟨v, e1, t⟩ := h; exact ⟨v, e1, t.mv mv0⟩
    | ow ds => obtain ⟨a, vs, e1, c, n, e2, t⟩ := h; exact ⟨a, vs, e1, c, n, k a _ e2 (r.notH (by lia)), t.mv mv0⟩
    | bo ds => obtain ⟨a, vs, e1, c, n, e2, t⟩ := h; exact ⟨a, vs, e1, c, n, k a _ e2 n, t.mv mv0⟩
    | hd => exact h
    | o2 dss => obtain ⟨a, as, e1, c, e2, nd, t⟩ := h; exact ⟨a, as, e1, c, k a _ e2 (r.notH (by lia)), nd, t.mv mv0 fun b o g e => ⟨g, k b o e (r.notH (by have := g.1; lia))⟩⟩
    | b2 dss => obtain ⟨a, as, e1, c, e2, t⟩ := h; exact ⟨a, as, e1, c, k a _ e2 c.2, t.mv mv0 fun b o g e => ⟨g, k b o e g.2⟩⟩
    | di f ks => obtain ⟨a, e1, c, n, e2⟩ := h; exact ⟨a, e1, c, n, e2.mv fun o e => k a o e (r.notH (by lia))⟩
    | dm f ks => obtain ⟨a, e1, c, n, e2⟩ := h; exact ⟨a, e1, c, n, e2.mv fun o e => k a o e (r.notH (by lia))⟩
    | bd d => exact h
    | ot d =>
      obtain ⟨v, e1, t⟩ := h
      refine ⟨v, e1, t.mv fun b o g e => ?_⟩
      have e' : H' b = some o := k b o e (r.notH (by rcases g with g | g <;> (have := g.1; lia)))
      exact ⟨g.imp id fun ⟨c, xs, z⟩ => ⟨c, xs, by rw [e] at z; rw [e']; exact z⟩, e'⟩
    | ob R =>
      obtain ⟨v, e1, t⟩ := h
      refine ⟨v, e1, R.mv (fun b o g e => ?_) t⟩
      have e' : H' b = some o := k b o e (r.notH (by rcases g with g | g <;> (have := g.1; lia)))
      exact ⟨g.imp id fun ⟨c, xs, z⟩ => ⟨c, xs, by rw [e] at z; rw [e']; exact z⟩, e'⟩
  · have h := r.pd p hp
    cases p with
    | v v d => exact ThV.mv mv0 h
    | n a o => exact ⟨h.1, h.2.1, k a o h.2.2 h.2.1⟩
    | s vs ds => exact ThVs.mv mv0 h
    | o c as dss => exact ⟨h.1, h.2.mv mv0 fun b o g e => ⟨g, k b o e (r.notH (by have := g.1; lia))⟩⟩
    | w v d => exact h
theorem RelC.lay (r : RelC C col ρ σ P H) (hp : H p = none) : RelC C col ρ σ P (upd H p o) := r.mv (Kq.lay hp) (r.hq.lay hp)
theorem RelC.add (r : RelC C col ρ σ P H) {x : Pe} (t : PeR C col H x) : RelC C col ρ σ (x :: P) H :=
  { r with pd := fun p hp => (List.mem_cons.mp hp).elim (fun e => e ▸ t) (r.pd p) }
theorem RelC.push (r : RelC C col ρ σ P H) (t : ThV (Z col) H v d) : RelC C col ρ σ (.v v d :: P) H := r.add t
theorem RelC.sub (r : RelC C col ρ σ P H) (h : ∀ p ∈ P', p ∈ P) : RelC C col ρ σ P' H := { r with pd := fun p hp => r.pd p (h p hp) }
theorem Rel.sub (r : Rel C ρ σ P H) (h : ∀ p ∈ P', p ∈ P) : Rel C ρ σ P' H := let ⟨c, r⟩ := r; ⟨c, r.sub h⟩
theorem Rel.pop {x : Pe} (r : Rel C ρ σ (x :: P) H) : Rel C ρ σ P H := r.sub fun _ h => List.mem_cons_of_mem _ h
theorem RelC.tup {vs : List V} {ds : List PyData} (r : RelC C col ρ σ P H) (t : ThVs (Z col) H vs ds) (hp : H p = none) : RelC C col ρ σ (.v (.ref p) (.tuple ds) :: P) (upd H p (.tup vs)) :=
  (r.lay hp).push (.tup (r.fresh p hp) upd_same (t.same ((Same.refl H).lay hp)))
theorem RelC.lst {vs : List V} {ds : List PyData} (r : RelC C col ρ σ P H) (t : ThVs (Z col) H vs ds) (hp : H p = none) : RelC C col ρ σ (.v (.ref p) (.list ds) :: P) (upd H p (.lst vs)) :=
  (r.lay hp).push (.lst (r.fresh p hp) upd_same (t.same ((Same.refl H).lay hp)))
theorem RelC.recol (r : RelC C col ρ σ P H) {ρ' : List Sl} {σ' : St} (hl : ρ'.length = σ'.length) (f : ∀ b, H b = none → col' b = 0) (i : ∀ b, col' b = 0 → C.F b) (n : ∀ q, C.hand = some q → col' q.1 = 1) (z : ∀ b, col b = 0 → H b ≠ none → col' b = 0)
    (lo : ∀ b, col b ≤ 1 → H b ≠ none → col' b ≤ 1) (c2 : ∀ b c, col b = 2 * c + 2 → col' b = 2 * c + 2) (s : ∀ i s, ρ'[i]? = some s → SlR C col' H i (σ'[i]?).join s) : RelC C col' ρ' σ' P H := by
  have mv0 : ∀ b o, Z col b → H b = some o → Z col' b ∧ H b = some o := fun b o zz e => ⟨z b zz (by rw [e]; exact fun q => nomatch q), e⟩
  refine ⟨f, i, n, s, fun p hp => ?_, r.kq, r.hq, r.hq0, r.nf, hl⟩
  have h := r.pd p hp
  cases p with
  | v v d => exact ThV.mv mv0 h
  | n a o => exact ⟨lo a h.1 (by rw [h.2.2]; exact fun q => nomatch q), h.2⟩
  | s vs ds => exact ThVs.mv mv0 h
  | o c as dss => exact ⟨h.1, h.2.mv mv0 fun b o g e => ⟨⟨c2 b c g.1, g.2⟩, e⟩⟩
  | w v d => exact h
theorem RelC.freeze {i : Nat} {ds : List PyData} (r : RelC C col ρ σ P H) (e : ρ[i]? = some (.ow ds)) :
    ∃ a, (σ[i]?).join = some (.ref a) ∧ Rel C (ρ.set i (.sh (.list ds))) σ (.v (.ref a) (.list ds) :: P) H := by
  obtain ⟨a, vs, e1, c, n, e2, t⟩ := r.sl i _ e
  let col' : Addr → Nat := fun b => if b = a then 0 else col b
  have ca : col' a = 0 := if_pos rfl
  have cn : ∀ b, b ≠ a → col' b = col b := fun b hb => if_neg hb
  have z : ∀ b, col b = 0 → col' b = 0 := fun b hb => by
    by_cases q : b = a
    · rw [q]; exact ca
    · rw [cn b q]; exact hb
  have mv0 : ∀ b o, Z col b → H b = some o → Z col' b ∧ H b = some o := fun b o zz e => ⟨z b zz, e⟩
  have T : ThV (Z col') H (.ref a) (.list ds) := .lst ca e2 (t.mv mv0)
  have R : RelC C col' (ρ.set i (.sh (.list ds))) σ P H := by
    refine r.recol (by rw [List.length_set]; exact r.len) (fun b hb => z b (r.fresh b hb)) (fun b hb => ?_) (fun q hq => ?_) (fun b hb _ => z b hb) (fun b hb _ => ?_) (fun b c2 hb => by rw [cn b (fun q => by rw [q] at hb; lia)]; exact hb) fun j s es => ?_
    · by_cases q : b = a
      · rw [q]; exact r.nf.1 a n
      · rw [cn b q] at hb; exact r.inF b hb
    · rw [cn _ fun q' => by have := r.hnd q hq; rw [q'] at this; lia]; exact r.hnd q hq
    · by_cases q : b = a
      · rw [q, ca]; lia
      · rw [cn b q]; exact hb
    · by_cases hj : j = i
      · subst hj
        rw [List.getElem?_set] at es
        simp only [if_true] at es
        split at es
        · cases es; exact ⟨_, e1, T⟩
        · cases es
      · rw [List.getElem?_set_ne (Ne.symm hj)] at es
        have h := r.sl j s es
        cases s with
        | no => trivial
        | sh d => obtain ⟨v, e1, t⟩ := h; exact ⟨v, e1, t.mv mv0⟩
        | ow ds => obtain ⟨a', vs', e1', c', n', e2', t'⟩ := h; exact ⟨a', vs', e1', by rw [cn a' (fun q => by rw [q] at c'; lia)]; exact c', n', e2', t'.mv mv0⟩
        | bo ds => obtain ⟨a', vs', e1', c', n', e2', t'⟩ := h; exact ⟨a', vs', e1', by by_cases q : a' = a; { rw [q, ca]; lia }; { rw [cn a' q]; exact c' }, n', e2', t'.mv mv0⟩
        | hd => exact h
        | o2 dss => obtain ⟨a', as', e1', c', e2', nd', t'⟩ := h; exact ⟨a', as', e1', ⟨by rw [cn a' (fun q => by rw [q] at c'; lia)]; exact c'.1, c'.2⟩, e2', nd', t'.mv mv0 fun b o g e => ⟨⟨by rw [cn b (fun q => by have := g.1; rw [q] at this; lia)]; exact g.1, g.2⟩, e⟩⟩
        | b2 dss => obtain ⟨a', as', e1', c', e2', t'⟩ := h; exact ⟨a', as', e1', ⟨by by_cases q : a' = a; { rw [q, ca]; lia }; { rw [cn a' q]; exact c'.1 }, c'.2⟩, e2', t'.mv mv0 fun b o g e => ⟨⟨by by_cases q : b = a; { rw [q, ca]; lia }; { rw [cn b q]; exact g.1 }, g.2⟩, e⟩⟩
        | di f ks => obtain ⟨a', e1', c', n', e2'⟩ := h; exact ⟨a', e1', by rw [cn a' (fun q => by rw [q] at c'; lia)]; exact c', n', e2'⟩
        | dm f ks => obtain ⟨a', e1', c', n', e2'⟩ := h; exact ⟨a', e1', by rw [cn a' (fun q => by rw [q] at c'; lia)]; exact c', n', e2'⟩
        | bd d => exact h
        | ot d => obtain ⟨v, e1', t'⟩ := h; exact ⟨v, e1', t'.mv fun b o g e => ⟨g.imp (fun g => ⟨by rw [cn b (fun q => by rw [q] at g; have := g.1; lia)]; exact g.1, g.2⟩) fun g => ⟨z b g.1, g.2⟩, e⟩⟩
        | ob R => obtain ⟨v, e1', t'⟩ := h; exact ⟨v, e1', R.mv (fun b o g e => ⟨g.imp (fun g => ⟨by rw [cn b (fun q => by rw [q] at g; have := g.1; lia)]; exact g.1, g.2⟩) fun g => ⟨z b g.1, g.2⟩, e⟩) t'⟩
  exact ⟨a, e1, col', R.push T⟩
theorem RelC.store {i : Nat} (r : RelC C col ρ σ P H) (t : ThV (Z col) H v d) : RelC C col (ρ.set i (.sh d)) (σ.set i (some v)) P H := by
  refine { r with sl := fun j s es => ?_, len := by rw [List.length_set, List.length_set]; exact r.len }
  by_cases hj : j = i
  · subst hj
    rw [List.getElem?_set] at es
    simp only [if_true] at es
    split at es
    · rename_i hl
      cases es
      refine ⟨v, ?_, t⟩
      rw [List.getElem?_set, if_pos rfl, if_pos (by rw [← r.len]; exact hl)]; rfl
    · cases es
  · rw [List.getElem?_set_ne (Ne.symm hj)] at es
    rw [List.getElem?_set_ne (Ne.symm hj)]
    exact r.sl j s es
theorem RelC.own {i : Nat} {vs : List V} {ds : List PyData} (r : RelC C col ρ σ P H) (t : ThVs (Z col) H vs ds) (hp : H p = none) : Rel C (ρ.set i (.ow ds)) (σ.set i (some (.ref p))) P (upd H p (.lst vs)) := by
  let col' : Addr → Nat := fun b => if b = p then 2 * i + 3 else col b
  have ca : col' p = 2 * i + 3 := if_pos rfl
  have cn : ∀ b, b ≠ p → col' b = col b := fun b hb => if_neg hb
  have ne : ∀ b, H b ≠ none → b ≠ p := fun b hb q => hb (q ▸ hp)
  have mv0 : ∀ b o, Z col b → H b = some o → Z col' b ∧ upd H p (.lst vs) b = some o := fun b o zz e => by
    have q := ne b (by rw [e]; exact fun q => nomatch q)
    exact ⟨(cn b q).trans zz, by rw [upd_ne q]; exact e⟩
  have r1 := r.lay (o := .lst vs) hp
  have c0 : C.H0 p = none := r.kq.fr r.hq hp
  refine ⟨col', fun b hb => ?_, fun b hb => ?_, fun q hq => ?_, fun j s es => ?_, fun x hx => ?_, r1.kq, r1.hq, r.hq0, r.nf, by rw [List.length_set, List.length_set]; exact r.len⟩
  · have q : b ≠ p := fun q => by rw [q, upd_same] at hb; cases hb
    rw [cn b q]; exact r1.fresh b hb
  · have q : b ≠ p := fun q => by rw [q, ca] at hb; cases hb
    rw [cn b q] at hb; exact r.inF b hb
  · obtain ⟨o', e'⟩ := (r.hq q hq).at1
    rw [cn _ (ne _ (by rw [e']; exact fun q => nomatch q))]; exact r.hnd q hq
  · by_cases hj : j = i
    · subst hj
      rw [List.getElem?_set] at es
      simp only [if_true] at es
      split at es
      · rename_i hl
        cases es
        exact ⟨p, vs, by rw [List.getElem?_set, if_pos rfl, if_pos (by rw [← r.len]; exact hl)]; rfl, ca, c0, upd_same, t.mv mv0⟩
      · cases es
    · rw [List.getElem?_set_ne (Ne.symm hj)] at es
      rw [List.getElem?_set_ne (Ne.symm hj)]
      have h := r.sl j s es
      cases s with
      | no => trivial
      | sh d => obtain ⟨v, e1, t⟩ := h; exact ⟨v, e1, t.mv mv0⟩
      | ow ds =>
        obtain ⟨a', vs', e1', c', n', e2', t'⟩ := h
        have q := ne a' (by rw [e2']; exact fun q => nomatch q)
        exact ⟨a', vs', e1', by rw [cn a' q]; exact c', n', by rw [upd_ne q]; exact e2', t'.mv mv0⟩
      | bo ds =>
        obtain ⟨a', vs', e1', c', n', e2', t'⟩ := h
        have q := ne a' (by rw [e2']; exact fun q => nomatch q)
        exact ⟨a', vs', e1', by rw [cn a' q]; exact c', n', by rw [upd_ne q]; exact e2', t'.mv mv0⟩
      | hd => exact h
      | o2 dss =>
        obtain ⟨a', as', e1', c', e2', nd', t'⟩ := h
        have q := ne a' (by rw [e2']; exact fun q => nomatch q)
        exact ⟨a', as', e1', ⟨by rw [cn a' q]; exact c'.1, c'.2⟩, by rw [upd_ne q]; exact e2', nd', t'.mv mv0 fun b o g e => by
          have q := ne b (by rw [e]; exact fun q => nomatch q)
          exact ⟨⟨by rw [cn b q]; exact g.1, g.2⟩, by rw [upd_ne q]; exact e⟩⟩
      | b2 dss =>
        obtain ⟨a', as', e1', c', e2', t'⟩ := h
        have q := ne a' (by rw [e2']; exact fun q => nomatch q)
        exact ⟨a', as', e1', ⟨by rw [cn a' q]; exact c'.1, c'.2⟩, by rw [upd_ne q]; exact e2', t'.mv mv0 fun b o g e => by
          have q := ne b (by rw [e]; exact fun q => nomatch q)
          exact ⟨⟨by rw [cn b q]; exact g.1, g.2⟩, by rw [upd_ne q]; exact e⟩⟩
      | di f ks =>
        obtain ⟨a', e1', c', n', e2'⟩ := h
        have q := ne a' e2'.ne
        exact ⟨a', e1', by rw [cn a' q]; exact c', n', e2'.mv fun o e => by rw [upd_ne q]; exact e⟩
      | dm f ks =>
        obtain ⟨a', e1', c', n', e2'⟩ := h
        have q := ne a' e2'.ne
        exact ⟨a', e1', by rw [cn a' q]; exact c', n', e2'.mv fun o e => by rw [upd_ne q]; exact e⟩
      | bd d => exact h
      | ot d =>
        obtain ⟨v, e1', t'⟩ := h
        exact ⟨v, e1', t'.mv fun b o g e => by
          have q := ne b (by rw [e]; exact fun q => nomatch q)
          exact ⟨g.imp (fun g => ⟨by rw [cn b q]; exact g.1, g.2⟩) fun g => ⟨by rw [cn b q]; exact g.1, by rw [upd_ne q]; exact g.2⟩, by rw [upd_ne q]; exact e⟩⟩
      | ob R =>
        obtain ⟨v, e1', t'⟩ := h
        exact ⟨v, e1', R.mv (fun b o g e => by
          have q := ne b (by rw [e]; exact fun q => nomatch q)
          exact ⟨g.imp (fun g => ⟨by rw [cn b q]; exact g.1, g.2⟩) fun g => ⟨by rw [cn b q]; exact g.1, by rw [upd_ne q]; exact g.2⟩, by rw [upd_ne q]; exact e⟩) t'⟩
  · have h := r.pd x hx
    cases x with
    | v v d => exact ThV.mv mv0 h
    | n a o =>
      have q := ne a (by rw [h.2.2]; exact fun q => nomatch q)
      exact ⟨by rw [cn a q]; exact h.1, h.2.1, by rw [upd_ne q]; exact h.2.2⟩
    | s vs ds => exact ThVs.mv mv0 h
    | o c as dss => exact ⟨h.1, h.2.mv mv0 fun b o g e => by
        have q := ne b (by rw [e]; exact fun q => nomatch q)
        exact ⟨⟨by rw [cn b q]; exact g.1, g.2⟩, by rw [upd_ne q]; exact e⟩⟩
    | w v d => exact h
theorem RelC.write {i : Nat} {a : Addr} {ws : List V} {ds es : List PyData} (r : RelC C col ρ σ P H) (e : ρ[i]? = some (.ow ds)) (ea : (σ[i]?).join = some (.ref a)) (t : ThVs (Z col) H ws es) :
    RelC C col (ρ.set i (.ow es)) σ P (upd H a (.lst ws)) := by
  obtain ⟨a', vs', e1, c, n, e2, _⟩ := r.sl i _ e
  rw [e1] at ea
  cases ea
  have ne : ∀ b, col b ≠ 2 * i + 3 → b ≠ a := fun b hb q => hb (q ▸ c)
  have mv0 : ∀ b o, Z col b → H b = some o → Z col b ∧ upd H a (.lst ws) b = some o := fun b o zz e => ⟨zz, by rw [upd_ne (ne b (by rw [show col b = 0 from zz]; lia))]; exact e⟩
  refine ⟨fun b hb => ?_, r.inF, r.hnd, fun j s es' => ?_, fun x hx => ?_, fun b o e q => ?_, fun q hq => ?_, r.hq0, r.nf, by rw [List.length_set]; exact r.len⟩
  · by_cases q : b = a
    · rw [q, upd_same] at hb; cases hb
    · rw [upd_ne q] at hb; exact r.fresh b hb
  · by_cases hj : j = i
    · subst hj
      rw [List.getElem?_set] at es'
      simp only [if_true] at es'
      split at es'
      · cases es'
        exact ⟨a, ws, e1, c, n, upd_same, t.mv mv0⟩
      · cases es'
    · rw [List.getElem?_set_ne (Ne.symm hj)] at es'
      have h := r.sl j s es'
      cases s with
      | no => trivial
      | sh d => obtain ⟨v, e1, t⟩ := h; exact ⟨v, e1, t.mv mv0⟩
      | ow ds =>
        obtain ⟨a', vs', e1', c', n', e2', t'⟩ := h
        exact ⟨a', vs', e1', c', n', by rw [upd_ne (ne a' (by lia))]; exact e2', t'.mv mv0⟩
      | bo ds =>
        obtain ⟨a', vs', e1', c', n', e2', t'⟩ := h
        exact ⟨a', vs', e1', c', n', by rw [upd_ne (ne a' (by lia))]; exact e2', t'.mv mv0⟩
      | hd => exact h
      | o2 dss =>
        obtain ⟨a', as', e1', c', e2', nd', t'⟩ := h
        exact ⟨a', as', e1', c', by rw [upd_ne (ne a' (by lia))]; exact e2', nd', t'.mv mv0 fun b o g e => ⟨g, by rw [upd_ne (ne b (by have := g.1; lia))]; exact e⟩⟩
      | b2 dss =>
        obtain ⟨a', as', e1', c', e2', t'⟩ := h
        exact ⟨a', as', e1', c', by rw [upd_ne (ne a' (by have := c'.1; lia))]; exact e2', t'.mv mv0 fun b o g e => ⟨g, by rw [upd_ne (ne b (by have := g.1; lia))]; exact e⟩⟩
      | di f ks =>
        obtain ⟨a', e1', c', n', e2'⟩ := h
        exact ⟨a', e1', c', n', e2'.mv fun o e => by rw [upd_ne (ne a' (by lia))]; exact e⟩
      | dm f ks =>
        obtain ⟨a', e1', c', n', e2'⟩ := h
        exact ⟨a', e1', c', n', e2'.mv fun o e => by rw [upd_ne (ne a' (by lia))]; exact e⟩
      | bd d => exact h
      | ot d =>
        obtain ⟨v, e1', t'⟩ := h
        exact ⟨v, e1', t'.mv fun b o g e => by
          have q := ne b (by rcases g with g | g <;> (have := g.1; lia))
          exact ⟨g.imp id fun g => ⟨g.1, by rw [upd_ne q]; exact g.2⟩, by rw [upd_ne q]; exact e⟩⟩
      | ob R =>
        obtain ⟨v, e1', t'⟩ := h
        exact ⟨v, e1', R.mv (fun b o g e => by
          have q := ne b (by rcases g with g | g <;> (have := g.1; lia))
          exact ⟨g.imp id fun g => ⟨g.1, by rw [upd_ne q]; exact g.2⟩, by rw [upd_ne q]; exact e⟩) t'⟩
  · have h := r.pd x hx
    cases x with
    | v v d => exact ThV.mv mv0 h
    | n b o => exact ⟨h.1, h.2.1, by rw [upd_ne (ne b (by have := h.1; lia))]; exact h.2.2⟩
    | s vs ds => exact ThVs.mv mv0 h
    | o c as dss => exact ⟨h.1, h.2.mv mv0 fun b o g e => ⟨g, by rw [upd_ne (ne b (by have := g.1; lia))]; exact e⟩⟩
    | w v d => exact h
  · have z := r.kq b o e q
    have q' : b ≠ a := fun q' => by rw [q', n] at e; cases e
    rw [upd_ne q']; exact z
  · obtain ⟨o1, h1⟩ := (r.hq0 q hq).at1
    obtain ⟨o2, h2⟩ := (r.hq0 q hq).at2
    exact (r.hq q hq).wr (fun z => by rw [← z, n] at h1; cases h1) (fun z => by rw [← z, n] at h2; cases h2)
end
open Classical in
theorem RelC.norm {C : DC} {col : Addr → Nat} {ρ : List Sl} {σ : St} {P : List Pe} {H : Hp} (r : RelC C col ρ σ P H) : ∃ col', RelC C col' ρ σ P H ∧ ∀ b xs, H b = some (.tup xs) → col' b = 0 := by
  let col' : Addr → Nat := fun b => if ∃ xs, H b = some (.tup xs) then 0 else col b
  have ct : ∀ b xs, H b = some (.tup xs) → col' b = 0 := fun b xs e => if_pos ⟨xs, e⟩
  have cn : ∀ b, (∀ xs, H b ≠ some (.tup xs)) → col' b = col b := fun b h => if_neg fun ⟨xs, e⟩ => h xs e
  have hl : ∀ b ys, H b = some (.lst ys) → col' b = col b := fun b ys e => cn b fun xs z => by rw [e] at z; cases z
  have hd : ∀ q, C.hand = some q → ∀ xs, H q.1 ≠ some (.tup xs) := fun q hq xs z => by
    obtain ⟨_, _, _, _, _, _, _, _, e⟩ := r.hq q hq
    rw [e] at z; cases z
  have z0 : ∀ b, col b = 0 → col' b = 0 := fun b hb => by
    by_cases h : ∃ xs, H b = some (.tup xs)
    · exact if_pos h
    · exact (if_neg h).trans hb
  have lo : ∀ b, col b ≤ 1 → col' b ≤ 1 := fun b hb => by
    by_cases h : ∃ xs, H b = some (.tup xs)
    · rw [show col' b = 0 from if_pos h]; lia
    · rw [show col' b = col b from if_neg h]; exact hb
  have mv0 : ∀ b o, Z col b → H b = some o → Z col' b ∧ H b = some o := fun b o zz e => ⟨z0 b zz, e⟩
  refine ⟨col', ⟨fun b e => z0 b (r.fresh b e), fun b hb => ?_, fun q hq => (cn _ (hd q hq)).trans (r.hnd q hq), fun i s e => ?_, fun p hp => ?_, r.kq, r.hq, r.hq0, r.nf, r.len⟩, ct⟩
  · by_cases h : ∃ xs, H b = some (.tup xs)
    · obtain ⟨xs, h⟩ := h
      cases q : C.H0 b with
      | none => exact r.nf.1 b q
      | some o =>
        have := r.kq b o q fun p hp e => hd p hp xs (e ▸ h)
        rw [this] at h
        cases h
        exact r.nf.2 b xs q
    · rw [show col' b = col b from if_neg h] at hb; exact r.inF b hb
  · have h := r.sl i s e
    cases s with
    | no => trivial
    | sh d => obtain ⟨v, e1, t⟩ := h; exact ⟨v, e1, t.mv mv0⟩
    | ow ds => obtain ⟨a, vs, e1, c, n, e2, t⟩ := h; exact ⟨a, vs, e1, (hl a _ e2).trans c, n, e2, t.mv mv0⟩
    | bo ds => obtain ⟨a, vs, e1, c, n, e2, t⟩ := h; exact ⟨a, vs, e1, lo a c, n, e2, t.mv mv0⟩
    | hd => exact h
    | o2 dss => obtain ⟨a, as, e1, c, e2, nd, t⟩ := h; exact ⟨a, as, e1, ⟨(hl a _ e2).trans c.1, c.2⟩, e2, nd, t.mvl mv0 fun b ys g e => ⟨⟨(hl b _ e).trans g.1, g.2⟩, e⟩⟩
    | b2 dss => obtain ⟨a, as, e1, c, e2, t⟩ := h; exact ⟨a, as, e1, ⟨lo a c.1, c.2⟩, e2, t.mvl mv0 fun b ys g e => ⟨⟨lo b g.1, g.2⟩, e⟩⟩
    | di f ks =>
      obtain ⟨a, e1, c, n, e2⟩ := h
      refine ⟨a, e1, (cn a fun xs z => ?_).trans c, n, e2⟩
      cases f with
      | false => rw [show H a = _ from e2] at z; cases z
      | true => obtain ⟨o, e2⟩ := e2; rw [e2] at z; cases z
    | dm f ks =>
      obtain ⟨a, e1, c, n, e2⟩ := h
      refine ⟨a, e1, (cn a fun xs z => ?_).trans c, n, e2⟩
      cases f with
      | false => rw [show H a = _ from e2] at z; cases z
      | true => obtain ⟨o, e2⟩ := e2; rw [e2] at z; cases z
    | bd d => exact h
    | ot d =>
      obtain ⟨v, e1, t⟩ := h
      refine ⟨v, e1, t.mv fun b o g e => ⟨?_, e⟩⟩
      by_cases q : ∃ xs, H b = some (.tup xs)
      · obtain ⟨xs, q⟩ := q
        exact .inr ⟨ct b xs q, xs, q⟩
      · rcases g with g | g
        · exact .inl ⟨(if_neg q).trans g.1, g.2⟩
        · exact absurd g.2 q
    | ob R =>
      obtain ⟨v, e1, t⟩ := h
      refine ⟨v, e1, R.mv (fun b o g e => ⟨?_, e⟩) t⟩
      by_cases q : ∃ xs, H b = some (.tup xs)
      · obtain ⟨xs, q⟩ := q
        exact .inr ⟨ct b xs q, xs, q⟩
      · rcases g with g | g
        · exact .inl ⟨(if_neg q).trans g.1, g.2⟩
        · exact absurd g.2 q
  · have h := r.pd p hp
    cases p with
    | v v d => exact ThV.mv mv0 h
    | n a o => exact ⟨lo a h.1, h.2⟩
    | s vs ds => exact ThVs.mv mv0 h
    | o c as dss => exact ⟨h.1, h.2.mvl mv0 fun b ys g e => ⟨⟨(hl b _ e).trans g.1, g.2⟩, e⟩⟩
    | w v d => exact h
inductive Pds (P : List Pe) : List V → List PyData → Prop
  | nil : Pds P [] []
  | cons {v d vs ds} : Pe.v v d ∈ P → Pds P vs ds → Pds P (v :: vs) (d :: ds)
theorem Pds.th {C : DC} {col : Addr → Nat} {ρ : List Sl} {σ : St} {P : List Pe} {H : Hp} (r : RelC C col ρ σ P H) : ∀ {vs : List V} {ds : List PyData}, Pds P vs ds → ThVs (Z col) H vs ds
  | _, _, .nil => .nil
  | _, _, .cons h t => .cons (r.pd _ h) (Pds.th r t)
end My
namespace My
open PySem L2
abbrev DE := List Sl → (PyData → List Sl → Prop) → Prop
abbrev DT := List Sl → (Bool → List Sl → Prop) → Prop
abbrev DF := List Sl → (List PyData → List Sl → Prop) → Prop
def eOf (C : DC) (t : DE) : TE := fun σ H Q => ∃ ρ P Qd, Rel C ρ σ P H ∧ t ρ Qd ∧ ∀ v d ρ' H', Rel C ρ' σ (.v v d :: P) H' → Qd d ρ' → Q v H'
def cOf (C : DC) (t : DT) : TT := fun σ H Q => ∃ ρ P Qd, Rel C ρ σ P H ∧ t ρ Qd ∧ ∀ b ρ' H', Rel C ρ' σ P H' → Qd b ρ' → Q b H'
def fOf (C : DC) (t : DF) : TE := fun σ H Q => ∃ ρ P Qd, Rel C ρ σ P H ∧ t ρ Qd ∧ ∀ p vs ds ρ' H1, (∃ col, RelC C col ρ' σ P H1 ∧ ThVs (Z col) H1 vs ds) → H1 p = none → Qd ds ρ' → Q (.ref p) (upd H1 p (.lst vs))
def vOf (C : DC) (t : DF) : TA := fun σ H Q => ∃ ρ P Qd, Rel C ρ σ P H ∧ t ρ Qd ∧ ∀ vs ds ρ' P' H', Rel C ρ' σ P' H' → (∀ p ∈ P, p ∈ P') → Pds P' vs ds → Qd ds ρ' → Q vs H'
def bnd {α : Type} (o : Option α) (Q : α → Prop) : Prop := match o with
  | some a => Q a
  | none => False
theorem bnd_of {α : Type} {o : Option α} {Q : α → Prop} (h : bnd o Q) : ∃ a, o = some a ∧ Q a := by
  cases o with
  | none => exact h.elim
  | some a => exact ⟨a, rfl, h⟩
section
variable {X : Cx} {C : DC}
theorem PE.wk {e : Expr} {t t' : TE} (h : PE X e t) (f : ∀ σ H Q, t' σ H Q → t σ H Q) : PE X e t' := fun pins s σ H Q I q => h pins s σ H Q I (f σ H Q q)
theorem PT.wk {e : Expr} {t t' : TT} (h : PT X e t) (f : ∀ σ H Q, t' σ H Q → t σ H Q) : PT X e t' := fun pins s σ H Q I q => h pins s σ H Q I (f σ H Q q)
theorem PW.wk {e : Expr} {t t' : TT} (h : PW X e t) (f : ∀ σ H Q, t' σ H Q → t σ H Q) : PW X e t' := fun wh pins s σ H Q I q => h wh pins s σ H Q I (f σ H Q q)
theorem PA.wk {es : List Expr} {t t' : TA} (h : PA X es t) (f : ∀ σ H Q, t' σ H Q → t σ H Q) : PA X es t' := fun pos pins s σ H Q I q => h pos pins s σ H Q I (f σ H Q q)
theorem PO.wk {e : Option Expr} {t t' : TO} (h : PO X e t) (f : ∀ σ H Q, t' σ H Q → t σ H Q) : PO X e t' := fun pins s σ H Q I q => h pins s σ H Q I (f σ H Q q)
def dC (d : PyData)  (ρ : List Sl) (Q : PyData → List Sl → Prop) : Prop := Q d ρ
theorem pd_c {e : Expr} {v : V} {d : PyData} (h : PE X e (tC v)) (t : ∀ F H, ThV F H v d) : PE X e (eOf C (dC d)) := PE.wk h fun _ _ _ zz1 => el3 zz1 fun _ _ _ zz2 ht k => zz2.elim fun col r => k _ _ _ _ ⟨col, r.push (t _ _)⟩ ht
theorem pd_int {i j pos} : PE X (.Constant (.int i) j pos) (eOf C (dC (.int i))) := pd_c pe_int fun _ _ => .int i
theorem pd_bl {b j pos} : PE X (.Constant (.bool b) j pos) (eOf C (dC (.bool b))) := pd_c pe_bl fun _ _ => .bl b
theorem pd_non {j pos} : PE X (.Constant .none j pos) (eOf C (dC .none)) := pd_c pe_non fun _ _ => .non
theorem pd_gi {e : Expr} {i : Int} (h : PE X e (tC (.int i))) : PE X e (eOf C (dC (.int i))) := pd_c h fun _ _ => .int i
theorem join_some {α : Type} {o : Option (Option α)} {v : α} (h : o.join = some v) : o = some (some v) := by
  cases o with
  | none => cases h
  | some q => exact congrArg some h
def dVar (i : Nat)  (ρ : List Sl) (Q : PyData → List Sl → Prop) : Prop := match ρ[i]? with
  | some (.sh d) => Q d ρ
  | some (.ow ds) => Q (.list ds) (ρ.set i (.sh (.list ds)))
  | _ => False
theorem pd_var {e : Expr} {i : Nat} (h : PE X e (tVar i)) : PE X e (eOf C (dVar i)) := PE.wk h fun σ H Q zz3 => el3 zz3 fun ρ P Qd zz4 ht k => zz4.elim fun col r => by
  unfold dVar at ht
  split at ht
  · rename_i d e
    obtain ⟨v, e1, t⟩ := r.sl i _ e
    exact ⟨v, join_some e1, k _ _ _ _ ⟨col, r.push t⟩ ht⟩
  · rename_i ds e
    obtain ⟨a, e1, R⟩ := r.freeze e
    exact ⟨_, join_some e1, k _ _ _ _ R ht⟩
  · exact ht.elim
def slotD (ρ : List Sl) (i : Nat) : Option PyData := match ρ[i]? with
  | some (.sh d) => some d
  | some (.ow ds) => some (.list ds)
  | some (.bo ds) => some (.list ds)
  | _ => none
inductive Red (col : Addr → Nat) (H : Hp) : V → PyData → Prop
  | th {v d} : ThV (Z col) H v d → Red col H v d
  | ls {a vs ds} : H a = some (.lst vs) → ThVs (Z col) H vs ds → Red col H (.ref a) (.list ds)
theorem RelC.slot {col : Addr → Nat} {ρ : List Sl} {σ : St} {P : List Pe} {H : Hp} (r : RelC C col ρ σ P H) {i : Nat} {d : PyData} (h : slotD ρ i = some d) : ∃ v, σ[i]? = some (some v) ∧ Red col H v d := by
  unfold slotD at h
  split at h
  · rename_i d' e
    cases h
    obtain ⟨v, e1, t⟩ := r.sl i _ e
    exact ⟨v, join_some e1, .th t⟩
  · rename_i ds e
    cases h
    obtain ⟨a, vs, e1, _, _, e2, t⟩ := r.sl i _ e
    exact ⟨_, join_some e1, .ls e2 t⟩
  · rename_i ds e
    cases h
    obtain ⟨a, vs, e1, _, _, e2, t⟩ := r.sl i _ e
    exact ⟨_, join_some e1, .ls e2 t⟩
  · cases h
theorem Red.lst {col : Addr → Nat} {H : Hp} {v : V} {ds : List PyData} (h : Red col H v (.list ds)) : ∃ a vs, v = .ref a ∧ H a = some (.lst vs) ∧ ThVs (Z col) H vs ds := by
  cases h with
  | th t => cases t with
    | lst _ e t => exact ⟨_, _, rfl, e, t⟩
  | ls e t => exact ⟨_, _, rfl, e, t⟩
theorem Red.tup {col : Addr → Nat} {H : Hp} {v : V} {ds : List PyData} (h : Red col H v (.tuple ds)) : ∃ a vs, v = .ref a ∧ H a = some (.tup vs) ∧ ThVs (Z col) H vs ds := by
  cases h with
  | th t => cases t with
    | tup _ e t => exact ⟨_, _, rfl, e, t⟩
abbrev G2 := PyData → PyData → (PyData → Prop) → Prop
def OpOk (C : DC) (r : R2) (g : G2) : Prop :=
  ∀ {ρ : List Sl} {σ : St} {P : List Pe} {H : Hp} {v w : V} {a b : PyData} {Qd : PyData → Prop} {Q : VK}, Rel C ρ σ (.v w b :: .v v a :: P) H → g a b Qd → (∀ u d H', Rel C ρ σ (.v u d :: P) H' → Qd d → Q u H') → r v w H Q
def dOp (g : G2) (ta tb : DE)  (ρ : List Sl) (Q : PyData → List Sl → Prop) : Prop := ta ρ fun a ρ1 => tb ρ1 fun b ρ2 => g a b fun d => Q d ρ2
theorem dOp_rd {r : R2} {g : G2} {ta tb : DE} (hg : OpOk C r g) {σ : St} {H : Hp} {Q : VK} (h : eOf C (dOp g ta tb) σ H Q) : tOp r (eOf C ta) (eOf C tb) σ H Q := by
  obtain ⟨ρ, P, Qd, R, ht, k⟩ := h
  exact ⟨ρ, P, _, R, ht, fun v a ρ1 H1 R1 h1 => ⟨ρ1, _, _, R1, h1, fun w b ρ2 H2 R2 h2 => hg R2 h2 fun u d H' R' q => k u d ρ2 H' R' q⟩⟩
variable {a b : Expr} {ta tb : DE} {pos : Pos}
theorem pd_op {op : Operator} {r : R2} {g : G2} (ho : OpR X (binaryOp op) r) (hg : OpOk C r g) (ha : PE X a (eOf C ta)) (hb : PE X b (eOf C tb)) : PE X (.BinOp a op b pos) (eOf C (dOp g ta tb)) := PE.wk (pe_op ho ha hb) fun _ _ _ h => dOp_rd hg h
theorem pd_cmp {op : CmpOp} {r : R2} {g : G2} (ho : OpR X (compareOp op) r) (hg : OpOk C r g) (ha : PE X a (eOf C ta)) (hb : PE X b (eOf C tb)) (hm : behindInMarks op b = false) : PE X (.Compare a [op] [b] pos) (eOf C (dOp g ta tb)) := PE.wk (pe_cmpR ho ha hb hm) fun _ _ _ h => dOp_rd hg h
def dT (t : DE)  (ρ : List Sl) (Q : Bool → List Sl → Prop) : Prop := t ρ fun d ρ' => match d with
  | .bool b => Q b ρ'
  | _ => False
theorem dT_rd {t : DE} {σ : St} {H : Hp} {Q : Bool → Hp → Prop} (h : cOf C (dT t) σ H Q) : eOf C t σ H fun x H' => ∃ k, x = .bl k ∧ Q k H' := by
  obtain ⟨ρ, P, Qd, R, ht, k⟩ := h
  refine ⟨ρ, P, _, R, ht, fun v d ρ' H' R' q => ?_⟩
  split at q
  · obtain ⟨col, r⟩ := R'
    have t := r.pd _ List.mem_cons_self
    cases (show ThV (Z col) H' v (.bool _) from t)
    exact ⟨_, rfl, k _ _ _ (Rel.pop ⟨col, r⟩) q⟩
  · exact q.elim
theorem pdt_val {e : Expr} {t : DE} (h : PE X e (eOf C t)) (he : ∀ whole, isTrue e X.env whole = (do let v ← whole; standAt e.pos; holding [v] (truthy v)) := by intro _; rfl) : PT X e (cOf C (dT t)) := PT.wk (pt_val h he) fun _ _ _ h => dT_rd h
theorem pdt_cmp {op : CmpOp} {r : R2} {g : G2} (ho : OpR X (compareOp op) r) (hg : OpOk C r g) (ha : PE X a (eOf C ta)) (hb : PE X b (eOf C tb)) (hm : behindInMarks op b = false) : PT X (.Compare a [op] [b] pos) (cOf C (dT (dOp g ta tb))) :=
  PT.wk (pt_cmpR ho ha hb hm) fun σ H Q h => dOp_rd hg (dT_rd h)
def dNot (t : DT)  (ρ : List Sl) (Q : Bool → List Sl → Prop) : Prop := t ρ fun b ρ' => Q (!b) ρ'
theorem pdt_not {t : DT} (h : PT X a (cOf C t)) : PT X (.UnaryOp .Not a pos) (cOf C (dNot t)) := PT.wk (pt_not h) fun _ _ _ zz5 => el3 zz5 fun ρ P _ R ht k => ⟨ρ, P, _, R, ht, fun b ρ' H' R' q => k _ _ _ R' q⟩
def dAnd (t u : DT)  (ρ : List Sl) (Q : Bool → List Sl → Prop) : Prop := t ρ fun b ρ' => if b = true then u ρ' Q else Q false ρ'
def dOr (t u : DT)  (ρ : List Sl) (Q : Bool → List Sl → Prop) : Prop := t ρ fun b ρ' => if b = true then Q true ρ' else u ρ' Q
variable {t u : DT} {rest : List Expr}
theorem pwd_and1 (h : PT X a (cOf C t)) : PW X (.BoolOp .And [a] pos) (cOf C t) := pw_and1 h
theorem pwd_or1 (h : PT X a (cOf C t)) : PW X (.BoolOp .Or [a] pos) (cOf C t) := pw_or1 h
theorem pwd_and (ha : PT X a (cOf C t)) (hb : PW X (.BoolOp .And (b :: rest) pos) (cOf C u)) : PW X (.BoolOp .And (a :: b :: rest) pos) (cOf C (dAnd t u)) := PW.wk (pw_and ha hb) fun _ _ _ zz6 => el3 zz6 fun ρ P Qd R ht k =>
  ⟨ρ, P, _, R, ht, fun b ρ' H' R' q => by
    cases b with
    | true => exact ⟨ρ', P, Qd, R', by simpa using q, k⟩
    | false => exact k _ _ _ R' (by simpa using q)⟩
theorem pwd_or (ha : PT X a (cOf C t)) (hb : PW X (.BoolOp .Or (b :: rest) pos) (cOf C u)) : PW X (.BoolOp .Or (a :: b :: rest) pos) (cOf C (dOr t u)) := PW.wk (pw_or ha hb) fun _ _ _ zz7 => el3 zz7 fun ρ P Qd R ht k =>
  ⟨ρ, P, _, R, ht, fun b ρ' H' R' q => by
    cases b with
    | true => exact k _ _ _ R' (by simpa using q)
    | false => exact ⟨ρ', P, Qd, R', by simpa using q, k⟩⟩
def dBV (t : DE) (f : Bool → List Sl → Prop)  (ρ : List Sl) : Prop := t ρ fun d ρ' => match d with
  | .bool b => f b ρ'
  | _ => False
def dAndV (ta tb : DE)  (ρ : List Sl) (Q : PyData → List Sl → Prop) : Prop := dBV ta (fun b ρ' => if b = true then tb ρ' Q else Q (.bool false) ρ') ρ
def dOrV (ta tb : DE)  (ρ : List Sl) (Q : PyData → List Sl → Prop) : Prop := dBV ta (fun b ρ' => if b = true then Q (.bool true) ρ' else tb ρ' Q) ρ
def dNotV (ta : DE)  (ρ : List Sl) (Q : PyData → List Sl → Prop) : Prop := dBV ta (fun b ρ' => Q (.bool (!b)) ρ') ρ
theorem dBV_rd {f : Bool → List Sl → Prop} {ρ : List Sl} {σ : St} {P : List Pe} {H : Hp} {Q : VK} (R : Rel C ρ σ P H) (ht : dBV ta f ρ) (k : ∀ c ρ' H', Rel C ρ' σ P H' → f c ρ' → Q (.bl c) H') : eOf C ta σ H Q := by
  refine ⟨ρ, P, _, R, ht, fun v d ρ' H' R' q => ?_⟩
  split at q
  · obtain ⟨col, r⟩ := R'
    have t := r.pd _ List.mem_cons_self
    cases (show ThV (Z col) H' v (.bool _) from t)
    exact k _ _ _ (Rel.pop ⟨col, r⟩) q
  · exact q.elim
theorem pd_one {op} (h : PE X a (eOf C ta)) : PE X (.BoolOp op [a] pos) (eOf C ta) := pe_one h
theorem pd_and (ha : PE X a (eOf C ta)) (hb : PE X (.BoolOp .And (b :: rest) pos) (eOf C tb)) : PE X (.BoolOp .And (a :: b :: rest) pos) (eOf C (dAndV ta tb)) := PE.wk (pe_and ha hb) fun _ _ _ zz8 => el3 zz8 fun _ P Qd R ht k =>
  dBV_rd R ht fun c ρ' H' R' q => ⟨c, rfl, by
    cases c with
    | true => exact iteT ⟨ρ', P, Qd, R', by simpa using q, k⟩
    | false =>
      obtain ⟨col, r⟩ := R'
      exact iteF (k _ _ _ _ ⟨col, r.push (.bl false)⟩ (by simpa using q))⟩
theorem pd_or (ha : PE X a (eOf C ta)) (hb : PE X (.BoolOp .Or (b :: rest) pos) (eOf C tb)) : PE X (.BoolOp .Or (a :: b :: rest) pos) (eOf C (dOrV ta tb)) := PE.wk (pe_or ha hb) fun _ _ _ zz9 => el3 zz9 fun _ P Qd R ht k =>
  dBV_rd R ht fun c ρ' H' R' q => ⟨c, rfl, by
    cases c with
    | true =>
      obtain ⟨col, r⟩ := R'
      exact iteT (k _ _ _ _ ⟨col, r.push (.bl true)⟩ (by simpa using q))
    | false => exact iteF ⟨ρ', P, Qd, R', by simpa using q, k⟩⟩
theorem pd_not (ha : PE X a (eOf C ta)) : PE X (.UnaryOp .Not a pos) (eOf C (dNotV ta)) := PE.wk (pe_not ha) fun _ _ _ zz10 => el3 zz10 fun _ _ _ R ht k =>
  dBV_rd R ht fun c ρ' H' zz11 q => zz11.elim fun col r => ⟨c, rfl, k _ _ _ _ ⟨col, r.push (.bl _)⟩ q⟩
def dNeg (ta : DE)  (ρ : List Sl) (Q : PyData → List Sl → Prop) : Prop := ta ρ fun d ρ' => match d with
  | .int i => Q (.int (-i)) ρ'
  | _ => False
def dIf (c : DT) (ta tb : DE)  (ρ : List Sl) (Q : PyData → List Sl → Prop) : Prop := c ρ fun b ρ' => if b = true then ta ρ' Q else tb ρ' Q
def dChain (g g' : G2) (ta tb tc : DE)  (ρ : List Sl) (Q : PyData → List Sl → Prop) : Prop := ta ρ fun a ρ1 => tb ρ1 fun b ρ2 => g a b fun z => match z with
  | .bool k => if k = true then tc ρ2 fun c ρ3 => g' b c fun d => Q d ρ3 else Q (.bool false) ρ2
  | _ => False
end
def gI (c : Int → Int → Prop) (f : Int → Int → PyData)  (a b : PyData) (Q : PyData → Prop) : Prop := match a, b with
  | .int i, .int j => c i j ∧ Q (f i j)
  | _, _ => False
def gI0 (f : Int → Int → PyData)  (a b : PyData) (Q : PyData → Prop) : Prop := match a, b with
  | .int i, .int j => Q (f i j)
  | _, _ => False
section
variable {C : DC} {X : Cx}
theorem th2 {ρ : List Sl} {σ : St} {P : List Pe} {H : Hp} {v w : V} {a b : PyData} (r : Rel C ρ σ (.v w b :: .v v a :: P) H) : ∃ col, RelC C col ρ σ P H ∧ ThV (Z col) H v a ∧ ThV (Z col) H w b := by
  obtain ⟨col, r⟩ := r
  exact ⟨col, r.sub fun _ h => List.mem_cons_of_mem _ (List.mem_cons_of_mem _ h), r.pd _ (List.mem_cons_of_mem _ List.mem_cons_self), r.pd _ List.mem_cons_self⟩
theorem ok_I0 {f : Int → Int → V} {g : Int → Int → PyData} (h : ∀ i j F H, ThV F H (f i j) (g i j)) : OpOk C (rI0 f) (gI0 g) := by
  intro ρ σ P H v w a b Qd Q R hg k
  unfold gI0 at hg
  split at hg
  · obtain ⟨col, r, t1, t2⟩ := th2 R
    cases t1; cases t2
    exact ⟨_, _, rfl, rfl, k _ _ _ ⟨col, r.push (h _ _ _ _)⟩ hg⟩
  · exact hg.elim
theorem ok_I {c : Int → Int → Prop} {f : Int → Int → V} {g : Int → Int → PyData} (h : ∀ i j F H, ThV F H (f i j) (g i j)) : OpOk C (rI c f) (gI c g) := by
  intro ρ σ P H v w a b Qd Q R hg k
  unfold gI at hg
  split at hg
  · obtain ⟨col, r, t1, t2⟩ := th2 R
    cases t1; cases t2
    exact ⟨_, _, rfl, rfl, hg.1, k _ _ _ ⟨col, r.push (h _ _ _ _)⟩ hg.2⟩
  · exact hg.elim
def gAdd : G2 := gI0 fun i j => .int (i + j)
def gMns : G2 := gI0 fun i j => .int (i - j)
def gMul : G2 := gI CMul fun i j => .int (i * j)
def gMod : G2 := gI (fun _ j => 0 < j) fun i j => .int (i % j)
def gDiv : G2 := gI CDivB fun i j => .int (i / j)
def gPow : G2 := gI CPow fun i j => .int (i ^ j.toNat)
def gLt : G2 := gI0 fun i j => .bool (decide (i < j))
def gLe : G2 := gI0 fun i j => .bool (decide (i ≤ j))
def gGt : G2 := gI0 fun i j => .bool (decide (j < i))
def gGe : G2 := gI0 fun i j => .bool (decide (j ≤ i))
theorem ok_add : OpOk C (rI0 (fun i j => .int (i + j))) gAdd := ok_I0 (f := fun i j => .int (i + j)) fun _ _ _ _ => .int _
theorem ok_sub : OpOk C (rI0 (fun i j => .int (i - j))) gMns := ok_I0 (f := fun i j => .int (i - j)) fun _ _ _ _ => .int _
theorem ok_mul : OpOk C (rI CMul (fun i j => .int (i * j))) gMul := ok_I (f := fun i j => .int (i * j)) fun _ _ _ _ => .int _
theorem ok_mod : OpOk C (rI (fun _ j => 0 < j) (fun i j => .int (i % j))) gMod := ok_I (f := fun i j => .int (i % j)) fun _ _ _ _ => .int _
theorem ok_pow : OpOk C (rI CPow (fun i j => .int (i ^ j.toNat))) gPow := ok_I (f := fun i j => .int (i ^ j.toNat)) fun _ _ _ _ => .int _
theorem ok_lt : OpOk C (rI0 (fun i j => .bl (decide (i < j)))) gLt := ok_I0 (f := fun i j => .bl (decide (i < j))) fun _ _ _ _ => .bl _
theorem ok_gt : OpOk C (rI0 (fun i j => .bl (decide (j < i)))) gGt := ok_I0 (f := fun i j => .bl (decide (j < i))) fun _ _ _ _ => .bl _
theorem ok_ge : OpOk C (rI0 (fun i j => .bl (decide (j ≤ i)))) gGe := ok_I0 (f := fun i j => .bl (decide (j ≤ i))) fun _ _ _ _ => .bl _
def gEq (neg : Bool)  (a b : PyData) (Q : PyData → Prop) : Prop := a.canLay0 = true ∧ b.canLay0 = true ∧ min a.depth b.depth ≤ 64 ∧ Q (.bool (if neg then !PyData.eqv a b else PyData.eqv a b))
theorem ok_eq {K : PySem.W.Frag} {neg : Bool} : OpOk C (rEqD K neg) (gEq neg) := by
  intro ρ σ P H v w a b Qd Q R hg k
  obtain ⟨col, r, t1, t2⟩ := th2 R
  exact ⟨a, b, t1.dat hg.1, t2.dat hg.2.1, hg.1, hg.2.1, hg.2.2.1, k _ _ _ ⟨col, r.push (.bl _)⟩ hg.2.2.2⟩
def isN : PyData → Bool
  | .none => true
  | _ => false
def gIsN (neg : Bool)  (a b : PyData) (Q : PyData → Prop) : Prop := match b with
  | .none => Q (.bool (if neg then !isN a else isN a))
  | _ => False
theorem isN_th {F : Addr → Prop} {H : Hp} {v : V} {a : PyData} (t : ThV F H v a) : decide (v = V.non) = isN a := by
  cases t <;> simp [isN]
theorem ok_isN : OpOk C (fun x y H Q => y = .non ∧ Q (.bl (decide (x = .non))) H) (gIsN false) := by
  intro ρ σ P H v w a b Qd Q R hg k
  unfold gIsN at hg
  split at hg
  · obtain ⟨col, r, t1, t2⟩ := th2 R
    cases t2
    refine ⟨rfl, k _ _ _ ⟨col, r.push (d := .bool (isN a)) ?_⟩ hg⟩
    rw [isN_th t1]; exact .bl _
  · exact hg.elim
theorem ok_notN : OpOk C (fun x y H Q => y = .non ∧ Q (.bl (!decide (x = .non))) H) (gIsN true) := by
  intro ρ σ P H v w a b Qd Q R hg k
  unfold gIsN at hg
  split at hg
  · obtain ⟨col, r, t1, t2⟩ := th2 R
    cases t2
    refine ⟨rfl, k _ _ _ ⟨col, r.push (d := .bool (!isN a)) ?_⟩ hg⟩
    rw [isN_th t1]; exact .bl _
  · exact hg.elim
end
section
variable {X : Cx} {C : DC} {a b c : Expr} {ta tb tc : DE} {pos : Pos}
theorem chain_rd {f f' : Int → Int → Bool} {σ : St} {H : Hp} {Q : VK} (h : eOf C (dChain (gI0 fun i j => .bool (f i j)) (gI0 fun i j => .bool (f' i j)) ta tb tc) σ H Q) :
    tChain (rI0 fun i j => .bl (f i j)) (rI0 fun i j => .bl (f' i j)) (eOf C ta) (eOf C tb) (eOf C tc) σ H Q := by
  obtain ⟨ρ, P, Qd, R, ht, k⟩ := h
  exact ⟨ρ, P, _, R, ht, fun v x ρ1 H1 R1 h1 => ⟨ρ1, _, _, R1, h1, fun w y ρ2 H2 R2 h2 => by
    obtain ⟨col, r, t1, t2⟩ := th2 R2
    cases x with
    | int i =>
      cases y with
      | int j =>
        cases t1; cases t2
        refine ⟨i, j, rfl, rfl, f i j, rfl, ?_⟩
        have h2' : if f i j = true then tc ρ2 (fun c ρ3 => gI0 (fun i j => .bool (f' i j)) (.int j) c fun d => Qd d ρ3) else Qd (.bool false) ρ2 := h2
        cases e : f i j with
        | true =>
          rw [e] at h2'
          refine iteT ⟨ρ2, P, _, ⟨col, r⟩, by simpa using h2', fun u z ρ3 H3 R3 h3 => ?_⟩
          obtain ⟨col3, r3⟩ := R3
          have t3 := r3.pd _ List.mem_cons_self
          cases z with
          | int l =>
            cases (show ThV (Z col3) H3 u (.int l) from t3)
            exact ⟨j, l, rfl, rfl, k _ _ _ _ ⟨col3, (r3.sub fun _ h => List.mem_cons_of_mem _ h).push (.bl _)⟩ h3⟩
          | _ => exact h3.elim
        | false =>
          rw [e] at h2'
          exact iteF (k _ _ _ _ ⟨col, r.push (.bl false)⟩ (by simpa using h2'))
      | _ => exact h2.elim
    | _ => exact h2.elim⟩⟩
theorem pd_chain {op op' : CmpOp} {f f' : Int → Int → Bool} (ho : OpR X (compareOp op) (rI0 fun i j => .bl (f i j))) (ho' : OpR X (compareOp op') (rI0 fun i j => .bl (f' i j))) (ha : PE X a (eOf C ta)) (hb : PE X b (eOf C tb)) (hc : PE X c (eOf C tc))
    (hm : lastMarks [op, op'] [b, c] = false := by with_unfolding_all rfl) : PE X (.Compare a [op, op'] [b, c] pos) (eOf C (dChain (gI0 fun i j => .bool (f i j)) (gI0 fun i j => .bool (f' i j)) ta tb tc)) := PE.wk (pe_chain ho ho' ha hb hc hm) fun _ _ _ h => chain_rd h
theorem pdt_chain {op op' : CmpOp} {f f' : Int → Int → Bool} (ho : OpR X (compareOp op) (rI0 fun i j => .bl (f i j))) (ho' : OpR X (compareOp op') (rI0 fun i j => .bl (f' i j))) (ha : PE X a (eOf C ta)) (hb : PE X b (eOf C tb)) (hc : PE X c (eOf C tc))
    (hm : lastMarks [op, op'] [b, c] = false := by with_unfolding_all rfl) : PT X (.Compare a [op, op'] [b, c] pos) (cOf C (dT (dChain (gI0 fun i j => .bool (f i j)) (gI0 fun i j => .bool (f' i j)) ta tb tc))) := PT.wk (pt_chain ho ho' ha hb hc hm) fun _ _ _ h => chain_rd (dT_rd h)
end
end My
namespace My
open PySem L2
section
variable {X : Cx} {C : DC} {e a b : Expr} {es : List Expr} {t ta tb : DE} {u : DF} {pos : Pos}
theorem sub_cons {P P' : List Pe} {x : Pe} (h : ∀ p ∈ P, p ∈ P') : ∀ p ∈ x :: P, p ∈ x :: P' := fun p hp => (List.mem_cons.mp hp).elim (fun e => e ▸ List.mem_cons_self) fun hp => List.mem_cons_of_mem _ (h p hp)
def dNil  (ρ : List Sl) (Q : List PyData → List Sl → Prop) : Prop := Q [] ρ
def dCons (t : DE) (u : DF)  (ρ : List Sl) (Q : List PyData → List Sl → Prop) : Prop := t ρ fun d ρ1 => u ρ1 fun ds ρ2 => Q (d :: ds) ρ2
theorem dv_nil : PA X [] (vOf C dNil) := PA.wk pa_nil fun _ _ _ zz1 => el3 zz1 fun _ _ _ R ht k => k [] [] _ _ _ R (fun _ h => h) .nil ht
theorem dv_cons (ha : PE X e (eOf C t)) (hr : PA X es (vOf C u)) (hs : starEach (e :: es) X.env = (false, eval e X.env) :: starEach es X.env := by rfl) : PA X (e :: es) (vOf C (dCons t u)) := PA.wk (pa_cons ha hr hs) fun _ _ _ zz2 => el3 zz2 fun ρ P _ R ht k =>
  ⟨ρ, P, _, R, ht, fun _ _ ρ1 _ R1 h1 => ⟨ρ1, _, _, R1, h1, fun _ _ _ _ _ R2 s2 p2 h2 => k _ _ _ _ _ R2 (fun p hp => s2 p (List.mem_cons_of_mem _ hp)) (.cons (s2 _ List.mem_cons_self) p2) h2⟩⟩
def dTup (t : DF)  (ρ : List Sl) (Q : PyData → List Sl → Prop) : Prop := t ρ fun ds ρ' => ds.length ≤ 1000 ∧ Q (.tuple ds) ρ'
theorem pd_tup {x1} (h : PA X es (vOf C u)) : PE X (.Tuple es x1 pos) (eOf C (dTup u)) := PE.wk (pe_tup h) fun _ _ _ zz3 => el3 zz3 fun ρ P _ R ht k => ⟨ρ, P, _, R, ht, fun vs ds ρ' P' H' zz4 s p q => zz4.elim fun col r =>
  ⟨by rw [(p.th r).len]; exact Nat.le_of_lt (small1000 q.1), fun b hb => k _ _ _ _ ⟨col, (r.tup (p.th r) hb).sub (sub_cons s)⟩ q.2⟩⟩
def dLst (t : DF)  (ρ : List Sl) (Q : List PyData → List Sl → Prop) : Prop := t ρ fun ds ρ' => ds.length ≤ 1000 ∧ Q ds ρ'
theorem pf_lst (h : PA X es (vOf C u)) : PE X (.List es pos) (fOf C (dLst u)) := PE.wk (pe_lst h) fun _ _ _ zz5 => el3 zz5 fun ρ P _ R ht k => ⟨ρ, P, _, R, ht, fun vs ds ρ' P' H' zz6 s p q => zz6.elim fun col r =>
  ⟨by rw [(p.th r).len]; exact Nat.le_of_lt (small1000 q.1), fun b hb => k _ _ _ _ _ ⟨col, r.sub s, p.th r⟩ hb q.2⟩⟩
def dF (t : DF)  (ρ : List Sl) (Q : PyData → List Sl → Prop) : Prop := t ρ fun ds ρ' => Q (.list ds) ρ'
theorem pd_f (h : PE X e (fOf C u)) : PE X e (eOf C (dF u)) := PE.wk h fun _ _ _ zz7 => el3 zz7 fun ρ P _ R ht k => ⟨ρ, P, _, R, ht, fun _ _ _ _ _ zz8 hp q => el2 zz8 fun col r t => k _ _ _ _ ⟨col, r.lst t hp⟩ q⟩
def ixD (a b : PyData) : Option PyData := match a, b with
  | .list xs, .int i => atI xs i
  | .tuple xs, .int i => atI xs i
  | _, _ => none
theorem atI_th {F : Addr → Prop} {H : Hp} {vs : List V} {ds : List PyData} {i : Int} {d : PyData} (t : ThVs F H vs ds) (h : atI ds i = some d) : ∃ v, atI vs i = some v ∧ ThV F H v d := by
  unfold atI at h ⊢
  rw [t.len]
  cases q : ixN ds.length i with
  | none => rw [q] at h; cases h
  | some j =>
    rw [q] at h
    exact t.at h
theorem ix_rd {K : PySem.W.Frag} {col : Addr → Nat} {H : Hp} {v w : V} {a b d : PyData} (t1 : Red col H v a) (t2 : ThV (Z col) H w b) (h : ixD a b = some d) : ∃ u, ThV (Z col) H u d ∧ ∀ Q : VK, Q u H → rIx K v w H Q := by
  unfold ixD at h
  split at h
  · cases t2
    obtain ⟨p, vs, rfl, e, t⟩ := t1.lst
    obtain ⟨u, hu, tu⟩ := atI_th t h
    exact ⟨u, tu, fun Q q => .inl ⟨p, vs, _, u, rfl, rfl, SqL.of e, hu, q⟩⟩
  · cases t2
    obtain ⟨p, vs, rfl, e, t⟩ := t1.tup
    obtain ⟨u, hu, tu⟩ := atI_th t h
    exact ⟨u, tu, fun Q q => .inr (.inl ⟨p, vs, _, u, rfl, rfl, SqT.of e, hu, q⟩)⟩
  · cases h
def dIx (ta tb : DE)  (ρ : List Sl) (Q : PyData → List Sl → Prop) : Prop := ta ρ fun a ρ1 => tb ρ1 fun b ρ2 => bnd (ixD a b) fun d => Q d ρ2
theorem pd_ix (ha : PE X a (eOf C ta)) (hb : PE X b (eOf C tb)) (hs : PlainIx b) : PE X (.Subscript a b pos) (eOf C (dIx ta tb)) := PE.wk (pe_ix ix_seq ha hb hs) fun _ _ _ zz9 => el3 zz9 fun ρ P _ R ht k => ⟨ρ, P, _, R, ht, fun v _ ρ1 H1 R1 h1 => ⟨ρ1, _, _, R1, h1, fun w _ ρ2 H2 R2 h2 => by
  obtain ⟨d, hd, q⟩ := bnd_of h2
  obtain ⟨col, r, t1, t2⟩ := th2 R2
  obtain ⟨u, tu, f⟩ := ix_rd (K := X.K) (.th t1) t2 hd
  exact f _ (k _ _ _ _ ⟨col, r.push tu⟩ q)⟩⟩
def dIxV (i : Nat) (tb : DE)  (ρ : List Sl) (Q : PyData → List Sl → Prop) : Prop := bnd (slotD ρ i) fun _ => tb ρ fun b ρ2 => bnd (slotD ρ2 i) fun a => bnd (ixD a b) fun d => Q d ρ2
theorem pd_ixv {i : Nat} (ha : PE X a (tVar i)) (hb : PE X b (eOf C tb)) (hs : PlainIx b) : PE X (.Subscript a b pos) (eOf C (dIxV i tb)) := PE.wk (pe_ix ix_seq ha hb hs) fun σ H Q zz10 => el3 zz10 fun ρ P Qd zz11 ht k => zz11.elim fun col0 r0 => by
  obtain ⟨_, h0, ht⟩ := bnd_of ht
  obtain ⟨v, ev, _⟩ := r0.slot h0
  refine ⟨v, ev, ρ, P, _, ⟨col0, r0⟩, ht, fun w b ρ2 H2 R2 h2 => ?_⟩
  obtain ⟨a, ha, h2⟩ := bnd_of h2
  obtain ⟨d, hd, q⟩ := bnd_of h2
  obtain ⟨col, r⟩ := R2
  obtain ⟨v', ev', t1⟩ := r.slot ha
  rw [ev] at ev'
  cases ev'
  obtain ⟨u, tu, f⟩ := ix_rd (K := X.K) t1 (r.pd _ List.mem_cons_self) hd
  exact f _ (k _ _ _ _ ⟨col, (r.sub fun _ h => List.mem_cons_of_mem _ h).push tu⟩ q)
def CbOk (C : DC) (r : List V → Hp → VK → Prop) (g : List PyData → (PyData → Prop) → Prop) : Prop :=
  ∀ {ρ : List Sl} {σ : St} {P : List Pe} {col : Addr → Nat} {H : Hp} {vs : List V} {ds : List PyData} {Qd : PyData → Prop} {Q : VK}, RelC C col ρ σ P H → ThVs (Z col) H vs ds → g ds Qd → (∀ u d H', Rel C ρ σ (.v u d :: P) H' → Qd d → Q u H') → r vs H Q
def dCb (g : List PyData → (PyData → Prop) → Prop) (u : DF)  (ρ : List Sl) (Q : PyData → List Sl → Prop) : Prop := u ρ fun ds ρ' => g ds fun d => Q d ρ'
theorem pd_cb {r : List V → Hp → VK → Prop} {g : List PyData → (PyData → Prop) → Prop} (hr : CbOk C r g) (h : PE X e (tCB r (vOf C u))) : PE X e (eOf C (dCb g u)) := PE.wk h fun _ _ _ zz12 => el3 zz12 fun ρ P _ R ht k => ⟨ρ, P, _, R, ht, fun vs ds ρ' P' H' zz13 s p q => zz13.elim fun col r =>
  hr (r.sub s) (p.th r) q fun u d H2 R2 q2 => k _ _ _ _ R2 q2⟩
theorem ths1 {F : Addr → Prop} {H : Hp} {vs : List V} {d : PyData} (t : ThVs F H vs [d]) : ∃ v, vs = [v] ∧ ThV F H v d := by
  cases t with
  | cons x y => cases y; exact ⟨_, rfl, x⟩
theorem ths2 {F : Addr → Prop} {H : Hp} {vs : List V} {d d' : PyData} (t : ThVs F H vs [d, d']) : ∃ v w, vs = [v, w] ∧ ThV F H v d ∧ ThV F H w d' := by
  cases t with
  | cons x y =>
    obtain ⟨w, rfl, z⟩ := ths1 y
    exact ⟨_, w, rfl, x, z⟩
def lenD : PyData → Option Nat
  | .list xs => some xs.length
  | .tuple xs => some xs.length
  | _ => none
def gLen  (ds : List PyData) (Q : PyData → Prop) : Prop := match ds with
  | [d] => bnd (lenD d) fun n => Q (.int n)
  | _ => False
abbrev rLen (K : PySem.W.Frag) : List V → Hp → VK → Prop := fun xs H Q => ∃ p ys, xs = [.ref p] ∧ (SqL K H p ys ∨ SqT K H p ys) ∧ Q (.int ys.length) H
theorem len_rd {K : PySem.W.Frag} {col : Addr → Nat} {H : Hp} {v : V} {a : PyData} {n : Nat} {Q : VK} (t : Red col H v a) (h : lenD a = some n) (q : Q (.int n) H) : rLen K [v] H Q := by
  cases a with
  | list ds =>
    cases h
    obtain ⟨p, vs, rfl, e, t⟩ := t.lst
    exact ⟨p, vs, rfl, .inl (SqL.of e), by rw [t.len]; exact q⟩
  | tuple ds =>
    cases h
    obtain ⟨p, vs, rfl, e, t⟩ := t.tup
    exact ⟨p, vs, rfl, .inr (SqT.of e), by rw [t.len]; exact q⟩
  | _ => cases h
theorem cb_len {K : PySem.W.Frag} : CbOk C (rLen K) gLen := by
  intro ρ σ P col H vs ds Qd Q r t g k
  unfold gLen at g
  split at g
  · obtain ⟨v, rfl, t1⟩ := ths1 t
    obtain ⟨n, hn, q⟩ := bnd_of g
    exact len_rd (.th t1) hn (k _ _ _ ⟨col, r.push (.int _)⟩ q)
  · exact g.elim
def dLenV (i : Nat)  (ρ : List Sl) (Q : PyData → List Sl → Prop) : Prop := bnd (slotD ρ i) fun a => bnd (lenD a) fun n => Q (.int n) ρ
theorem pd_lenv {i : Nat} {K : PySem.W.Frag} (h : PE X e (tCB (rLen K) (tCons (tVar i) tNil))) : PE X e (eOf C (dLenV i)) := PE.wk h fun _ _ _ zz14 => el3 zz14 fun ρ P _ zz15 ht k => zz15.elim fun col r => by
  obtain ⟨a, ha, ht⟩ := bnd_of ht
  obtain ⟨n, hn, q⟩ := bnd_of ht
  obtain ⟨v, ev, t⟩ := r.slot ha
  exact ⟨v, ev, len_rd t hn (k _ _ _ _ ⟨col, r.push (.int _)⟩ q)⟩
def gI2 (f : Int → Int → Int)  (ds : List PyData) (Q : PyData → Prop) : Prop := match ds with
  | [.int i, .int j] => Q (.int (f i j))
  | _ => False
theorem cb_I2 {f : Int → Int → Int} : CbOk C (fun xs H Q => ∃ i j, xs = [.int i, .int j] ∧ Q (.int (f i j)) H) (gI2 f) := by
  intro ρ σ P col H vs ds Qd Q r t g k
  unfold gI2 at g
  split at g
  · obtain ⟨v, w, rfl, t1, t2⟩ := ths2 t
    cases t1; cases t2
    exact ⟨_, _, rfl, k _ _ _ ⟨col, r.push (.int _)⟩ g⟩
  · exact g.elim
def gMin := gI2 fun i j => if j < i then j else i
def gMax := gI2 fun i j => if j > i then j else i
theorem cb_min : CbOk C (fun xs H Q => ∃ i j, xs = [.int i, .int j] ∧ Q (.int (if j < i then j else i)) H) gMin := cb_I2 (f := fun i j => if j < i then j else i)
def gAbs  (ds : List PyData) (Q : PyData → Prop) : Prop := match ds with
  | [.int i] => Q (.int (if i < 0 then -i else i))
  | _ => False
def gInt  (ds : List PyData) (Q : PyData → Prop) : Prop := match ds with
  | [.int i] => Q (.int i)
  | [.bool b] => Q (.int (if b then 1 else 0))
  | _ => False
theorem cb_int : CbOk C (fun xs H Q => (∃ i, xs = [.int i] ∧ Q (.int i) H) ∨ ∃ k, xs = [.bl k] ∧ Q (.int (if k then 1 else 0)) H) gInt := by
  intro ρ σ P col H vs ds Qd Q r t g k
  unfold gInt at g
  split at g
  · obtain ⟨v, rfl, t1⟩ := ths1 t
    cases t1
    exact .inl ⟨_, rfl, k _ _ _ ⟨col, r.push (.int _)⟩ g⟩
  · obtain ⟨v, rfl, t1⟩ := ths1 t
    cases t1
    exact .inr ⟨_, rfl, k _ _ _ ⟨col, r.push (.int _)⟩ g⟩
  · exact g.elim
def boolsD : List PyData → Option (List Bool)
  | [] => some []
  | .bool b :: r => (boolsD r).map (b :: ·)
  | _ :: _ => none
theorem bools_th {F : Addr → Prop} {H : Hp} {ds : List PyData} {vs : List V} {bs : List Bool} (t : ThVs F H vs ds) (h : boolsD ds = some bs) : vs = bs.map V.bl := by
  induction ds generalizing vs bs with
  | nil => cases t; cases h; rfl
  | cons d r ih =>
    cases t with
    | cons x y =>
      cases x with
      | bl b =>
        have h' : (boolsD r).map (b :: ·) = some bs := h
        cases q : boolsD r with
        | none => rw [q] at h'; cases h'
        | some cs =>
          rw [q] at h'
          cases h'
          rw [ih y q]; rfl
      | _ => cases h
def gBs (f : List Bool → Bool)  (ds : List PyData) (Q : PyData → Prop) : Prop := match ds with
  | [.list xs] => bnd (boolsD xs) fun bs => Q (.bool (f bs))
  | _ => False
theorem cb_bs {K : PySem.W.Frag} {f : List Bool → Bool} : CbOk C (fun xs H Q => ∃ (p : Addr) (bs : List Bool), xs = [.ref p] ∧ SqL K H p (bs.map V.bl) ∧ Q (.bl (f bs)) H) (gBs f) := by
  intro ρ σ P col H vs ds Qd Q r t g k
  unfold gBs at g
  split at g
  · obtain ⟨bs, hb, q⟩ := bnd_of g
    obtain ⟨v, rfl, t1⟩ := ths1 t
    cases t1 with
    | lst _ e t2 =>
      have z := bools_th t2 hb
      subst z
      exact ⟨_, bs, rfl, SqL.of e, k _ _ _ ⟨col, r.push (.bl _)⟩ q⟩
  · exact g.elim
def gAll := gBs fun bs => bs.all id
def gAny := gBs fun bs => bs.any id
theorem cb_all {K : PySem.W.Frag} : CbOk C (fun xs H Q => ∃ (p : Addr) (bs : List Bool), xs = [.ref p] ∧ SqL K H p (bs.map V.bl) ∧ Q (.bl (bs.all id)) H) gAll := cb_bs
theorem cb_any {K : PySem.W.Frag} : CbOk C (fun xs H Q => ∃ (p : Addr) (bs : List Bool), xs = [.ref p] ∧ SqL K H p (bs.map V.bl) ∧ Q (.bl (bs.any id)) H) gAny := cb_bs
abbrev rListOf (K : PySem.W.Frag) : List V → Hp → VK → Prop := fun xs H Q => ∃ p ys, xs = [.ref p] ∧ (SqL K H p ys ∨ SqT K H p ys) ∧ ∀ l, H l = none → Q (.ref l) (upd H l (.lst ys))
def itemsD : PyData → Option (List PyData)
  | .list xs => some xs
  | .tuple xs => some xs
  | _ => none
theorem items_rd {col : Addr → Nat} {H : Hp} {v : V} {a : PyData} {ds : List PyData} (t : Red col H v a) (h : itemsD a = some ds) : ∃ p vs, v = .ref p ∧ (H p = some (.lst vs) ∨ H p = some (.tup vs)) ∧ ThVs (Z col) H vs ds := by
  cases a with
  | list ds =>
    cases h
    obtain ⟨p, vs, rfl, e, t⟩ := t.lst
    exact ⟨p, vs, rfl, .inl e, t⟩
  | tuple ds =>
    cases h
    obtain ⟨p, vs, rfl, e, t⟩ := t.tup
    exact ⟨p, vs, rfl, .inr e, t⟩
  | _ => cases h
def dListV (i : Nat)  (ρ : List Sl) (Q : List PyData → List Sl → Prop) : Prop := bnd (slotD ρ i) fun a => bnd (itemsD a) fun ds => Q ds ρ
theorem pf_listv {i : Nat} {K : PySem.W.Frag} (h : PE X e (tCB (rListOf K) (tCons (tVar i) tNil))) : PE X e (fOf C (dListV i)) := PE.wk h fun _ _ _ zz16 => el3 zz16 fun ρ P _ zz17 ht k => zz17.elim fun col r => by
  obtain ⟨a, ha, ht⟩ := bnd_of ht
  obtain ⟨ds, hn, q⟩ := bnd_of ht
  obtain ⟨v, ev, t⟩ := r.slot ha
  obtain ⟨p, vs, rfl, e, t⟩ := items_rd t hn
  exact ⟨_, ev, p, vs, rfl, e.elim (fun e => .inl (SqL.of e)) (fun e => .inr (SqT.of e)), fun l hl => k _ _ _ _ _ ⟨col, r, t⟩ hl q⟩
def dList (ta : DE)  (ρ : List Sl) (Q : List PyData → List Sl → Prop) : Prop := ta ρ fun a ρ' => bnd (itemsD a) fun ds => Q ds ρ'
abbrev DO := List Sl → (Option Int → List Sl → Prop) → Prop
def oOf (C : DC) (t : DO) : TO := fun σ H Q => ∃ ρ P Qd, Rel C ρ σ P H ∧ t ρ Qd ∧ ∀ o ρ' H', Rel C ρ' σ P H' → Qd o ρ' → Q o H'
def oN  (ρ : List Sl) (Q : Option Int → List Sl → Prop) : Prop := Q none ρ
def oS (t : DE)  (ρ : List Sl) (Q : Option Int → List Sl → Prop) : Prop := t ρ fun d ρ' => match d with
  | .int i => Q (some i) ρ'
  | _ => False
theorem do_n : PO X none (oOf C oN) := PO.wk po_none fun _ _ _ zz20 => el3 zz20 fun _ _ _ R ht k => k _ _ _ R ht
theorem do_s (h : PE X e (eOf C t)) : PO X (some e) (oOf C (oS t)) := PO.wk (po_some h) fun _ _ _ zz21 => el3 zz21 fun ρ P _ R ht k => ⟨ρ, P, _, R, ht, fun v d ρ' H' R' q => by
  split at q
  · obtain ⟨col, r⟩ := R'
    have t := r.pd _ List.mem_cons_self
    cases (show ThV (Z col) H' v (.int _) from t)
    exact ⟨_, rfl, k _ _ _ (Rel.pop ⟨col, r⟩) q⟩
  · exact q.elim⟩
def cutD (xs : List PyData) (lo hi : Option Int) : List PyData := (xs.drop (HT.sIx xs.length 0 lo)).take (HT.sIx xs.length xs.length hi - HT.sIx xs.length 0 lo)
theorem ThVs.drop {F : Addr → Prop} {H : Hp} : ∀ {vs : List V} {ds : List PyData} (n : Nat), ThVs F H vs ds → ThVs F H (vs.drop n) (ds.drop n)
  | _, _, 0, h => h
  | _, _, _ + 1, .nil => .nil
  | _, _, n + 1, .cons _ t => ThVs.drop n t
theorem ThVs.take {F : Addr → Prop} {H : Hp} : ∀ {vs : List V} {ds : List PyData} (n : Nat), ThVs F H vs ds → ThVs F H (vs.take n) (ds.take n)
  | _, _, 0, _ => .nil
  | _, _, _ + 1, .nil => .nil
  | _, _, n + 1, .cons x t => .cons x (ThVs.take n t)
theorem cut_th {F : Addr → Prop} {H : Hp} {vs : List V} {ds : List PyData} (t : ThVs F H vs ds) (lo hi : Option Int) : ThVs F H (cutV vs lo hi) (cutD ds lo hi) := by
  unfold cutV cutD
  rw [t.len]
  exact (t.drop _).take _
def listD : PyData → Option (List PyData)
  | .list xs => some xs
  | _ => none
def dSlV (i : Nat) (tl th : DO)  (ρ : List Sl) (Q : List PyData → List Sl → Prop) : Prop := bnd (slotD ρ i) fun _ => tl ρ fun lo ρ1 => th ρ1 fun hi ρ2 => bnd (slotD ρ2 i) fun a => bnd (listD a) fun xs => Q (cutD xs lo hi) ρ2
theorem pf_slv {i : Nat} {lo hi : Option Expr} {p2 : Pos} {tl th : DO} (ha : PE X a (tVar i)) (hl : PO X lo (oOf C tl)) (hh : PO X hi (oOf C th)) : PE X (.Subscript a (.Slice lo hi none p2) pos) (fOf C (dSlV i tl th)) := PE.wk (pe_slice sl_list ha hl hh) fun σ H Q zz22 => el3 zz22 fun ρ P Qd zz23 ht k => zz23.elim fun col0 r0 => by
  obtain ⟨_, h0, ht⟩ := bnd_of ht
  obtain ⟨v, ev, _⟩ := r0.slot h0
  refine ⟨v, ev, ρ, P, _, ⟨col0, r0⟩, ht, fun lo ρ1 H1 R1 h1 => ⟨ρ1, P, _, R1, h1, fun hi ρ2 H2 R2 h2 => ?_⟩⟩
  obtain ⟨a, ha, h2⟩ := bnd_of h2
  obtain ⟨xs, hx, q⟩ := bnd_of h2
  obtain ⟨col, r⟩ := R2
  obtain ⟨v', ev', t1⟩ := r.slot ha
  rw [ev] at ev'
  cases ev'
  cases a with
  | list ds =>
    cases hx
    obtain ⟨p, vs, rfl, e, t⟩ := t1.lst
    exact ⟨p, vs, rfl, SqL.of e, fun b hb => k _ _ _ _ _ ⟨col, r, cut_th t lo hi⟩ hb q⟩
  | _ => cases hx
def dSl (ta : DE) (tl th : DO)  (ρ : List Sl) (Q : List PyData → List Sl → Prop) : Prop := ta ρ fun a ρ0 => tl ρ0 fun lo ρ1 => th ρ1 fun hi ρ2 => bnd (listD a) fun xs => Q (cutD xs lo hi) ρ2
def dCat (ta tb : DE)  (ρ : List Sl) (Q : List PyData → List Sl → Prop) : Prop := ta ρ fun a ρ1 => tb ρ1 fun b ρ2 => bnd (listD a) fun xs => bnd (listD b) fun ys => xs.length + ys.length ≤ 100000 ∧ Q (xs ++ ys) ρ2
def repD (xs : List PyData) (n : Nat) : List PyData := (List.replicate n xs).flatten
theorem rep_th {F : Addr → Prop} {H : Hp} {vs : List V} {ds : List PyData} (t : ThVs F H vs ds) : ∀ n : Nat, ThVs F H (List.replicate n vs).flatten (repD ds n)
  | 0 => .nil
  | n + 1 => by
    unfold repD
    rw [List.replicate_succ, List.replicate_succ, List.flatten_cons, List.flatten_cons]
    exact t.append (rep_th t n)
def dRep (ta tb : DE)  (ρ : List Sl) (Q : List PyData → List Sl → Prop) : Prop := ta ρ fun a ρ1 => tb ρ1 fun b ρ2 => match b with
  | .int k => bnd (listD a) fun xs => (-1000 ≤ k ∧ k ≤ 1000 ∧ xs.length ≤ 100) ∧ Q (repD xs k.toNat) ρ2
  | _ => False
theorem pf_rep (ha : PE X a (eOf C ta)) (hb : PE X b (eOf C tb)) : PE X (.BinOp a .Mult b pos) (fOf C (dRep ta tb)) := PE.wk (pe_op op_rep ha hb) fun σ H Q zz26 => el3 zz26 fun ρ P Qd R ht k =>
  ⟨ρ, P, _, R, ht, fun v a ρ1 H1 R1 h1 => ⟨ρ1, _, _, R1, h1, fun w b ρ2 H2 R2 h2 => by
    split at h2
    · obtain ⟨xs, hx, ⟨h3, h4, h5⟩, q⟩ := bnd_of h2
      obtain ⟨col, r, t1, t2⟩ := th2 R2
      cases t2
      cases a with
      | list ds =>
        cases hx
        obtain ⟨p, vs, rfl, e, t⟩ := Red.lst (.th t1)
        rename_i kk
        refine ⟨p, kk, vs, rfl, rfl, e, by lia, by lia, ?_, fun b hb => k _ _ _ _ _ ⟨col, r, rep_th t _⟩ hb q⟩
        have hl := t.len
        rw [← hl] at h5
        have : vs.length * kk.toNat ≤ 100 * 1000 := Nat.mul_le_mul h5 (by lia)
        rw [sizeLine_eq]
        lia
      | _ => cases hx
    · exact h2.elim⟩⟩
def tyD : PyData → Option String
  | .none => some "NoneType"
  | .bool _ => some "bool"
  | .int _ => some "int"
  | .str _ => some "str"
  | .list _ => some "list"
  | .tuple _ => some "tuple"
  | .dict _ => some "dict"
theorem ty_rd {K : PySem.W.Frag} {col : Addr → Nat} {H : Hp} {v : V} {a : PyData} (t : Red col H v a) : ∃ T, tyD a = some T ∧ TyOf2 K H v (.type T) := by
  cases t with
  | th t => cases t with
    | non => exact ⟨_, rfl, .o .non⟩
    | bl b => exact ⟨_, rfl, .o (.bl b)⟩
    | int i => exact ⟨_, rfl, .o (.int i)⟩
    | str x => exact ⟨_, rfl, .o (.str x)⟩
    | lst _ e _ => exact ⟨_, rfl, .o (.lst e)⟩
    | tup _ e _ => exact ⟨_, rfl, .o (.tup e)⟩
    | dic _ e u => cases u with
      | t => exact ⟨_, rfl, .o (.dT e)⟩
      | k i j => exact ⟨_, rfl, .o (.dK e)⟩
      | f o ks => exact ⟨_, rfl, .f e⟩
  | ls e _ => exact ⟨_, rfl, .o (.lst e)⟩
def isiD (T : String) (d : PyData) : Bool := match tyD d with
  | some t => t == T || (T == "int" && t == "bool")
  | none => false
def TyOk (K : PySem.W.Frag) (T : String) : Prop := ∀ d t, tyD d = some t → PySem.W.kitOne K (.type t) (.type T) = some (isiD T d)
abbrev rIsi (K : PySem.W.Frag) : List V → Hp → VK → Prop := fun xs H Q => ∃ x cv c t b, xs = [x, cv] ∧ RelV cv c ∧ TyOf2 K H x t ∧ PySem.W.kitOne K t c = some b ∧ Q (.bl b) H
def dIsiV (i : Nat) (T : String)  (ρ : List Sl) (Q : PyData → List Sl → Prop) : Prop := bnd (slotD ρ i) fun a => Q (.bool (isiD T a)) ρ
theorem pd_isiv {i : Nat} {K : PySem.W.Frag} {T : String} (hT : TyOk K T) (h : PE X e (tCB (rIsi K) (tCons (tVar i) (tCons (tC (.ty T)) tNil)))) : PE X e (eOf C (dIsiV i T)) := PE.wk h fun _ _ _ zz27 => el3 zz27 fun ρ P _ zz28 ht k => zz28.elim fun col r => by
  obtain ⟨a, ha, q⟩ := bnd_of ht
  obtain ⟨v, ev, t⟩ := r.slot ha
  obtain ⟨t', e1, e2⟩ := ty_rd (K := K) t
  exact ⟨v, ev, v, .ty T, .type T, _, _, rfl, rfl, e2, hT a t' e1, k _ _ _ _ ⟨col, r.push (.bl _)⟩ q⟩
def dIsi (ta : DE) (T : String)  (ρ : List Sl) (Q : PyData → List Sl → Prop) : Prop := ta ρ fun a ρ' => Q (.bool (isiD T a)) ρ'
theorem ty_int {K : PySem.W.Frag} : TyOk K "int" := fun d t h => by cases d <;> cases h <;> with_unfolding_all rfl
theorem ty_bool {K : PySem.W.Frag} : TyOk K "bool" := fun d t h => by cases d <;> cases h <;> with_unfolding_all rfl
theorem ty_list {K : PySem.W.Frag} : TyOk K "list" := fun d t h => by cases d <;> cases h <;> with_unfolding_all rfl
theorem ty_tuple {K : PySem.W.Frag} : TyOk K "tuple" := fun d t h => by cases d <;> cases h <;> with_unfolding_all rfl
end
inductive Md where
  | sh
  | bo
  | hd
  | b2
  | bd
def rowsL : List PyData → Option (List (List PyData))
  | [] => some []
  | .list ds :: r => (rowsL r).map (ds :: ·)
  | _ => none
def rowsD : PyData → Option (List (List PyData))
  | .list xs => rowsL xs
  | _ => none
abbrev lls (dss : List (List PyData)) : List PyData := dss.map PyData.list
theorem rowsL_eq {xs : List PyData} {dss : List (List PyData)} (h : rowsL xs = some dss) : xs = lls dss := by
  induction xs generalizing dss with
  | nil => cases h; rfl
  | cons x r ih =>
    cases x with
    | list ds =>
      have h' : (rowsL r).map (ds :: ·) = some dss := h
      cases q : rowsL r with
      | none => rw [q] at h'; cases h'
      | some ess =>
        rw [q] at h'
        cases h'
        rw [ih q]; rfl
    | _ => cases h
theorem rowsD_eq {d : PyData} {dss : List (List PyData)} (h : rowsD d = some dss) : d = .list (lls dss) := by
  cases d with
  | list xs => rw [rowsL_eq h]
  | _ => cases h
theorem th_rows {F : Addr → Prop} {H : Hp} {dss : List (List PyData)} {vs : List V} (t : ThVs F H vs (lls dss)) : ∃ as : List Addr, vs = as.map V.ref ∧ Rws F F H as dss := by
  induction dss generalizing vs with
  | nil => cases t; exact ⟨[], rfl, .nil⟩
  | cons ds dss ih =>
    cases t with
    | cons x y =>
      obtain ⟨as, rfl, r⟩ := ih y
      cases x with
      | lst n e z => exact ⟨_ :: as, rfl, .cons n e z r⟩
def slot2 (ρ : List Sl) (i : Nat) : Option (List (List PyData)) := match ρ[i]? with
  | some (.o2 dss) => some dss
  | some (.b2 dss) => some dss
  | some (.sh d) => rowsD d
  | _ => none
def ArgR (F : Addr → Prop) (hand : Option (Addr × Addr)) (H : Hp) (v : V) (d : PyData) : Md → Prop
  | .sh => ThV F H v d
  | .bo => ∃ a vs ds, v = .ref a ∧ d = .list ds ∧ (∀ q, hand = some q → a ≠ q.1) ∧ H a = some (.lst vs) ∧ ThVs F H vs ds
  | .hd => ∃ q, hand = some q ∧ v = .ref q.1
  | .b2 => ∃ a as dss, v = .ref a ∧ d = .list (lls dss) ∧ (∀ q, hand = some q → a ≠ q.1) ∧ H a = some (.lst (as.map V.ref)) ∧ Rws (fun b => ∀ q, hand = some q → b ≠ q.1) F H as dss
  | .bd => ThV (fun b => ∀ q, hand = some q → b ≠ q.1) H v d
inductive ArgsR (F : Addr → Prop) (hand : Option (Addr × Addr)) (H : Hp) : List Md → List V → List PyData → Prop
  | nil : ArgsR F hand H [] [] []
  | cons {m v d ms vs ds} : ArgR F hand H v d m → ArgsR F hand H ms vs ds → ArgsR F hand H (m :: ms) (v :: vs) (d :: ds)
theorem ArgsR.len {F : Addr → Prop} {hand : Option (Addr × Addr)} {H : Hp} {ms : List Md} {vs : List V} {ds : List PyData} (t : ArgsR F hand H ms vs ds) : vs.length = ms.length ∧ ds.length = ms.length := by
  induction t with
  | nil => exact ⟨rfl, rfl⟩
  | cons _ t ih => exact ⟨congrArg (· + 1) ih.1, congrArg (· + 1) ih.2⟩
abbrev DSp := List PyData → (PyData → Prop) → Prop
def spD (ms : List Md) (sp : DSp) : Sp := fun vs H Q _ => ∃ F hand ds Qd, ((∀ b, H b = none → F b) ∧ ∀ b xs, H b = some (.tup xs) → F b) ∧ (∀ q, hand = some q → ¬ F q.1) ∧ Hq hand H ∧ ArgsR F hand H ms vs ds ∧ sp ds Qd ∧ ∀ d v H', Qd d → ThV F H' v d → Kq hand H H' → Hq hand H' → Q v H'
inductive Ar where
  | v (d : PyData)
  | s (i : Nat)
  | w (d : PyData)
inductive ArV (σ : St) (P : List Pe) : List V → List Ar → Prop
  | nil : ArV σ P [] []
  | v {v d vs as} : Pe.v v d ∈ P → ArV σ P vs as → ArV σ P (v :: vs) (.v d :: as)
  | s {i v vs as} : σ[i]? = some (some v) → ArV σ P vs as → ArV σ P (v :: vs) (.s i :: as)
  | w {v d vs as} : Pe.w v d ∈ P → ArV σ P vs as → ArV σ P (v :: vs) (.w d :: as)
abbrev DA := List Sl → (List Ar → List Sl → Prop) → Prop
def aOf (C : DC) (t : DA) : TA := fun σ H Q => ∃ ρ P Qd, Rel C ρ σ P H ∧ t ρ Qd ∧ ∀ vs as ρ' P' H', Rel C ρ' σ P' H' → (∀ p ∈ P, p ∈ P') → ArV σ P' vs as → Qd as ρ' → Q vs H'
def isSl (ρ : List Sl) (i : Nat) : Bool := match ρ[i]? with
  | some .no => false
  | none => false
  | _ => true
section
variable {X : Cx} {C : DC} {e : Expr} {es : List Expr} {t : DE} {u : DA}
def aNil  (ρ : List Sl) (Q : List Ar → List Sl → Prop) : Prop := Q [] ρ
def aV (t : DE) (u : DA)  (ρ : List Sl) (Q : List Ar → List Sl → Prop) : Prop := t ρ fun d ρ1 => u ρ1 fun as ρ2 => Q (.v d :: as) ρ2
def aS (i : Nat) (u : DA)  (ρ : List Sl) (Q : List Ar → List Sl → Prop) : Prop := isSl ρ i = true ∧ u ρ fun as ρ2 => Q (.s i :: as) ρ2
theorem da_nil : PA X [] (aOf C aNil) := PA.wk pa_nil fun _ _ _ zz31 => el3 zz31 fun _ _ _ R ht k => k [] [] _ _ _ R (fun _ h => h) .nil ht
theorem da_v (ha : PE X e (eOf C t)) (hr : PA X es (aOf C u)) (hs : starEach (e :: es) X.env = (false, eval e X.env) :: starEach es X.env := by rfl) : PA X (e :: es) (aOf C (aV t u)) := PA.wk (pa_cons ha hr hs) fun _ _ _ zz32 => el3 zz32 fun ρ P _ R ht k =>
  ⟨ρ, P, _, R, ht, fun _ _ ρ1 _ R1 h1 => ⟨ρ1, _, _, R1, h1, fun _ _ _ _ _ R2 s2 p2 h2 => k _ _ _ _ _ R2 (fun p hp => s2 p (List.mem_cons_of_mem _ hp)) (.v (s2 _ List.mem_cons_self) p2) h2⟩⟩
theorem slot_at {col : Addr → Nat} {ρ : List Sl} {σ : St} {P : List Pe} {H : Hp} {i : Nat} (r : RelC C col ρ σ P H) (h : isSl ρ i = true) : ∃ v, σ[i]? = some (some v) := by
  unfold isSl at h
  split at h
  · cases h
  · cases h
  · rename_i s n1 n2
    cases q : ρ[i]? with
    | none => exact absurd q n2
    | some s =>
      have z := r.sl i s q
      cases s with
      | no => exact absurd q n1
      | sh d => obtain ⟨v, e, _⟩ := z; exact ⟨v, join_some e⟩
      | ow d => obtain ⟨a, _, e, _⟩ := z; exact ⟨_, join_some e⟩
      | bo d => obtain ⟨a, _, e, _⟩ := z; exact ⟨_, join_some e⟩
      | hd => obtain ⟨q, _, e⟩ := z; exact ⟨_, join_some e⟩
      | o2 d => obtain ⟨a, _, e, _⟩ := z; exact ⟨_, join_some e⟩
      | b2 d => obtain ⟨a, _, e, _⟩ := z; exact ⟨_, join_some e⟩
      | di f ks => obtain ⟨a, e, _⟩ := z; exact ⟨_, join_some e⟩
      | dm f ks => obtain ⟨a, e, _⟩ := z; exact ⟨_, join_some e⟩
      | bd d => obtain ⟨v, e, _⟩ := z; exact ⟨v, join_some e⟩
      | ot d => obtain ⟨v, e, _⟩ := z; exact ⟨v, join_some e⟩
      | ob R => obtain ⟨v, e, _⟩ := z; exact ⟨v, join_some e⟩
def lentD (ρ : List Sl) (i : Nat) : Option PyData := match ρ[i]? with
  | some (.bd d) => some d
  | _ => none
theorem RelC.lent {col : Addr → Nat} {ρ : List Sl} {σ : St} {P : List Pe} {H : Hp} (r : RelC C col ρ σ P H) {i : Nat} {d : PyData} (h : lentD ρ i = some d) : ∃ v, σ[i]? = some (some v) ∧ ThV (Le C) C.H0 v d := by
  unfold lentD at h
  split at h
  · rename_i d' e
    cases h
    obtain ⟨v, e1, t⟩ := r.sl i _ e
    exact ⟨v, join_some e1, t⟩
  · cases h
theorem RelC.le {col : Addr → Nat} {ρ : List Sl} {σ : St} {P : List Pe} {H : Hp} (r : RelC C col ρ σ P H) {v : V} {d : PyData} (t : ThV (Le C) C.H0 v d) : ThV (Le C) H v d := t.mv fun b o g e => ⟨g, r.kq b o e g.2⟩
theorem RelC.slot2 {col : Addr → Nat} {ρ : List Sl} {σ : St} {P : List Pe} {H : Hp} (r : RelC C col ρ σ P H) {i : Nat} {dss : List (List PyData)} (h : slot2 ρ i = some dss) : ∃ a as, σ[i]? = some (some (.ref a)) ∧ (∀ q, C.hand = some q → a ≠ q.1) ∧ H a = some (.lst (as.map V.ref)) ∧ Rws (fun b => ∀ q, C.hand = some q → b ≠ q.1) (Z col) H as dss := by
  unfold My.slot2 at h
  split at h
  · rename_i dss' e
    cases h
    obtain ⟨a, as, e1, c, e2, nd, t⟩ := r.sl i _ e
    exact ⟨a, as, join_some e1, r.notH (by have := c.1; lia), e2, t.mv (fun b o z e => ⟨z, e⟩) fun b o g e => ⟨r.notH (by have := g.1; lia), e⟩⟩
  · rename_i dss' e
    cases h
    obtain ⟨a, as, e1, c, e2, t⟩ := r.sl i _ e
    exact ⟨a, as, join_some e1, c.2, e2, t.mv (fun b o z e => ⟨z, e⟩) fun b o g e => ⟨g.2, e⟩⟩
  · rename_i d e
    cases rowsD_eq h
    obtain ⟨v, e1, t⟩ := r.sl i _ e
    cases t with
    | lst n e2 t =>
      obtain ⟨as, rfl, t2⟩ := th_rows t
      exact ⟨_, as, join_some e1, r.notH (by rw [show col _ = 0 from n]; decide), e2, t2.mv (fun b o z e => ⟨z, e⟩) fun b o g e => ⟨r.notH (by rw [show col b = 0 from g]; decide), e⟩⟩
  · cases h
theorem da_s {i : Nat} (ha : PE X e (tVar i)) (hr : PA X es (aOf C u)) (hs : starEach (e :: es) X.env = (false, eval e X.env) :: starEach es X.env := by rfl) : PA X (e :: es) (aOf C (aS i u)) := PA.wk (pa_cons ha hr hs) fun σ H Q zz33 => el3 zz33 fun ρ P Qd zz34 ht k => zz34.elim fun col r => by
  obtain ⟨v, ev⟩ := slot_at r ht.1
  exact ⟨v, ev, ρ, P, _, ⟨col, r⟩, ht.2, fun _ _ _ _ _ R2 s2 p2 h2 => k _ _ _ _ _ R2 s2 (.s ev p2) h2⟩
def arD (ρ : List Sl) (m : Md) (a : Ar) : Option PyData := match m, a with
  | .sh, .v d => some d
  | .bo, .v (.list ds) => some (.list ds)
  | .bo, .s i => (slotD ρ i).bind fun d => (listD d).map PyData.list
  | .hd, .s i => match ρ[i]? with
    | some .hd => some .none
    | _ => none
  | .b2, .s i => (slot2 ρ i).map fun dss => .list (lls dss)
  | .bd, .v d => some d
  | .bd, .w d => some d
  | .bd, .s i => match ρ[i]? with
    | some (.bd d) => some d
    | some (.sh d) => some d
    | _ => none
  | _, _ => none
def arsD (ρ : List Sl) : List Md → List Ar → Option (List PyData)
  | [], [] => some []
  | m :: ms, a :: as => (arD ρ m a).bind fun d => (arsD ρ ms as).map (d :: ·)
  | _, _ => none
theorem listD_eq {d : PyData} {xs : List PyData} (h : listD d = some xs) : d = .list xs := by
  cases d <;> cases h
  rfl
theorem ar_ok {col : Addr → Nat} {ρ : List Sl} {σ : St} {P : List Pe} {H : Hp} (r : RelC C col ρ σ P H) {m : Md} {v : V} {d : PyData} {a : Ar} (ha : match a with | .v d => Pe.v v d ∈ P | .s i => σ[i]? = some (some v) | .w d => Pe.w v d ∈ P) (h : arD ρ m a = some d) : ArgR (Z col) C.hand H v d m := by
  unfold arD at h
  split at h
  · cases h; exact r.pd _ ha
  · cases h
    have z : ThV (Z col) H v (.list _) := r.pd _ ha
    cases z with
    | lst za e t => exact ⟨_, _, _, rfl, rfl, r.notH (by rw [show col _ = 0 from za]; decide), e, t⟩
  · rename_i i
    have ha' : σ[i]? = some (some v) := ha
    cases q : slotD ρ i with
    | none => rw [q] at h; cases h
    | some d' =>
      rw [q] at h
      cases q2 : listD d' with
      | none =>
        have h' : (listD d').map PyData.list = some d := h
        rw [q2] at h'; cases h'
      | some xs =>
        have h' : (listD d').map PyData.list = some d := h
        rw [q2] at h'
        cases h'
        have := listD_eq q2
        subst this
        unfold slotD at q
        split at q
        · rename_i d'' e
          cases q
          obtain ⟨v', e1, t⟩ := r.sl i _ e
          rw [join_some e1] at ha'
          cases ha'
          cases t with
          | lst za e t => exact ⟨_, _, _, rfl, rfl, r.notH (by rw [show col _ = 0 from za]; decide), e, t⟩
        · rename_i ds e
          cases q
          obtain ⟨a, vs, e1, c, _, e2, t⟩ := r.sl i _ e
          rw [join_some e1] at ha'
          cases ha'
          exact ⟨_, _, _, rfl, rfl, r.notH (by lia), e2, t⟩
        · rename_i ds e
          cases q
          obtain ⟨a, vs, e1, c, n, e2, t⟩ := r.sl i _ e
          rw [join_some e1] at ha'
          cases ha'
          exact ⟨_, _, _, rfl, rfl, n, e2, t⟩
        · cases q
  · rename_i i
    have ha' : σ[i]? = some (some v) := ha
    split at h
    · rename_i e
      cases h
      obtain ⟨q, e1, e2⟩ := r.sl i _ e
      rw [join_some e2] at ha'
      cases ha'
      exact ⟨q, e1, rfl⟩
    · cases h
  · rename_i i
    have ha' : σ[i]? = some (some v) := ha
    cases q : slot2 ρ i with
    | none => rw [q] at h; cases h
    | some dss =>
      rw [q] at h
      cases h
      obtain ⟨a, as, e1, n, e2, t⟩ := r.slot2 q
      rw [e1] at ha'
      cases ha'
      exact ⟨a, as, dss, rfl, rfl, n, e2, t⟩
  · cases h
    exact ThV.mv (fun b o z e => ⟨r.notH (by rw [show col b = 0 from z]; decide), e⟩) (r.pd _ ha)
  · cases h
    exact ThV.mv (fun b o z e => ⟨z.2, e⟩) (r.le (r.pd _ ha))
  · rename_i i
    have ha' : σ[i]? = some (some v) := ha
    split at h
    · rename_i e
      cases h
      obtain ⟨v', e1, t⟩ := r.sl i _ e
      rw [join_some e1] at ha'
      cases ha'
      exact ThV.mv (fun b o z e => ⟨z.2, e⟩) (r.le t)
    · rename_i e
      cases h
      obtain ⟨v', e1, t⟩ := r.sl i _ e
      rw [join_some e1] at ha'
      cases ha'
      exact ThV.mv (fun b o z e => ⟨r.notH (by rw [show col b = 0 from z]; decide), e⟩) t
    · cases h
  · cases h
theorem ars_ok {col : Addr → Nat} {ρ : List Sl} {σ : St} {P : List Pe} {H : Hp} (r : RelC C col ρ σ P H) : ∀ {ms : List Md} {vs : List V} {ds : List PyData} {as : List Ar}, ArV σ P vs as → arsD ρ ms as = some ds → ArgsR (Z col) C.hand H ms vs ds
  | [], _, _, _, .nil, h => by cases h; exact .nil
  | [], _, _, _, .v _ _, h => by cases h
  | [], _, _, _, .s _ _, h => by cases h
  | [], _, _, _, .w _ _, h => by cases h
  | _ :: _, _, _, _, .nil, h => by cases h
  | m :: ms, _, ds, _, .v (d := d0) (as := as) hm t, h => by
    have h' : ((arD ρ m (.v d0)).bind fun d => (arsD ρ ms as).map (d :: ·)) = some ds := h
    cases q : arD ρ m (.v d0) with
    | none => rw [q] at h'; cases h'
    | some d =>
      rw [q] at h'
      have h2 : (arsD ρ ms as).map (d :: ·) = some ds := h'
      cases q2 : arsD ρ ms as with
      | none => rw [q2] at h2; cases h2
      | some ds' =>
        rw [q2] at h2
        cases h2
        exact .cons (ar_ok r (a := .v d0) hm q) (ars_ok r t q2)
  | m :: ms, _, ds, _, .s (i := i) (as := as) hm t, h => by
    have h' : ((arD ρ m (.s i)).bind fun d => (arsD ρ ms as).map (d :: ·)) = some ds := h
    cases q : arD ρ m (.s i) with
    | none => rw [q] at h'; cases h'
    | some d =>
      rw [q] at h'
      have h2 : (arsD ρ ms as).map (d :: ·) = some ds := h'
      cases q2 : arsD ρ ms as with
      | none => rw [q2] at h2; cases h2
      | some ds' =>
        rw [q2] at h2
        cases h2
        exact .cons (ar_ok r (a := .s i) hm q) (ars_ok r t q2)
  | m :: ms, _, ds, _, .w (d := d0) (as := as) hm t, h => by
    have h' : ((arD ρ m (.w d0)).bind fun d => (arsD ρ ms as).map (d :: ·)) = some ds := h
    cases q : arD ρ m (.w d0) with
    | none => rw [q] at h'; cases h'
    | some d =>
      rw [q] at h'
      have h2 : (arsD ρ ms as).map (d :: ·) = some ds := h'
      cases q2 : arsD ρ ms as with
      | none => rw [q2] at h2; cases h2
      | some ds' =>
        rw [q2] at h2
        cases h2
        exact .cons (ar_ok r (a := .w d0) hm q) (ars_ok r t q2)
def dCall (ms : List Md) (sp : DSp) (u : DA)  (ρ : List Sl) (Q : PyData → List Sl → Prop) : Prop := u ρ fun as ρ' => bnd (arsD ρ' ms as) fun ds => sp ds fun d => Q d ρ'
theorem pd_call {ms : List Md} {sp : DSp} {E : XK} (h : PE X e (tCall (spD ms sp) [] E (aOf C u))) : PE X e (eOf C (dCall ms sp u)) := PE.wk h fun σ H Q zz35 => el3 zz35 fun ρ P Qd R ht k => ⟨ρ, P, _, R, ht, fun vs as ρ' P' H' zz36 s p q => zz36.elim fun col r => by
  obtain ⟨ds, hds, q⟩ := bnd_of q
  rw [List.append_nil]
  obtain ⟨col, r, tp⟩ := r.norm
  refine ⟨Z col, C.hand, ds, _, ⟨r.fresh, tp⟩, fun q hq z => ?_, r.hq, ars_ok r p hds, q, fun d v H2 q2 t2 k2 h2 => k _ _ _ _ ⟨col, (((r.mv k2 h2).sub s)).push t2⟩ q2⟩
  have := r.hnd q hq
  rw [show col q.1 = 0 from z] at this
  cases this⟩
end
end My
namespace My
open PySem L2
structure ItOk (C : DC) (J : It) (xs : List PyData) (P : List Pe) : Prop where
  go : ∀ {i : Nat} {ρ : List Sl} {σ : St} {P' : List Pe} {H : Hp}, (∀ p ∈ P, p ∈ P') → Rel C ρ σ P' H → i < xs.length → J.go i H
  yld : ∀ {i : Nat} {ρ : List Sl} {σ : St} {P' : List Pe} {H H' : Hp} {x : V} {d : PyData}, (∀ p ∈ P, p ∈ P') → Rel C ρ σ P' H → xs[i]? = some d → J.yld i H x H' → Rel C ρ σ (.v x d :: P') H'
  stop : ∀ {ρ : List Sl} {σ : St} {P' : List Pe} {H : Hp}, (∀ p ∈ P, p ∈ P') → Rel C ρ σ P' H → J.stop xs.length H
theorem th_lst {F : Addr → Prop} {H : Hp} {v : V} {xs : List PyData} (t : ThV F H v (.list xs)) : ∃ a vs, v = .ref a ∧ F a ∧ H a = some (.lst vs) ∧ ThVs F H vs xs := by
  cases t with
  | lst za e t => exact ⟨_, _, rfl, za, e, t⟩
theorem th_tup {F : Addr → Prop} {H : Hp} {v : V} {xs : List PyData} (t : ThV F H v (.tuple xs)) : ∃ a vs, v = .ref a ∧ F a ∧ H a = some (.tup vs) ∧ ThVs F H vs xs := by
  cases t with
  | tup za e t => exact ⟨_, _, rfl, za, e, t⟩
def iOf (C : DC) (t : DF) : TI := fun σ H R => ∃ ρ P Qd, Rel C ρ σ P H ∧ t ρ Qd ∧ ∀ xs ρ' P' H' J, Rel C ρ' σ P' H' → (∀ p ∈ P, p ∈ P') → ItOk C J xs P' → Qd xs ρ' → R J H'
section
variable {X : Cx} {C : DC} {tg e : Expr} {t : DE} {u : DF} {pos : Pos}
theorem PI.wk {tg e : Expr} {w w' : TI} (h : PI X tg e w) (f : ∀ σ H R, w' σ H R → w σ H R) : PI X tg e w' := fun pins s σ H R I q => h pins s σ H R I (f σ H R q)
theorem it_list {K : PySem.W.Frag} {a : Addr} {vs : List V} {xs : List PyData} {P : List Pe} : ItOk C (Itl K a) xs (.n a (.lst vs) :: .s vs xs :: P) where
  go := fun {i ρ σ P' H} s R hi => by
    obtain ⟨col, r⟩ := R
    have h1 := r.pd _ (s _ List.mem_cons_self)
    have h2 : ThVs (Z col) H vs xs := r.pd _ (s _ (List.mem_cons_of_mem _ List.mem_cons_self))
    have hl := h2.len
    exact ⟨vs, vs[i], SqL.of h1.2.2, List.getElem?_eq_getElem (by lia)⟩
  yld := fun {i ρ σ P' H H' x d} s R hi y => by
    obtain ⟨e, y⟩ := y
    subst e
    obtain ⟨col, r⟩ := R
    have h1 := r.pd _ (s _ List.mem_cons_self)
    have h2 : ThVs (Z col) H' vs xs := r.pd _ (s _ (List.mem_cons_of_mem _ List.mem_cons_self))
    have hx := y vs (SqL.of h1.2.2)
    obtain ⟨d', e1, t⟩ := h2.get hx
    rw [hi] at e1
    cases e1
    exact ⟨col, r.push t⟩
  stop := fun {ρ σ P' H} s R => by
    obtain ⟨col, r⟩ := R
    have h1 := r.pd _ (s _ List.mem_cons_self)
    have h2 : ThVs (Z col) H vs xs := r.pd _ (s _ (List.mem_cons_of_mem _ List.mem_cons_self))
    have hl := h2.len
    exact ⟨vs, SqL.of h1.2.2, by lia⟩
def dIl (t : DE)  (ρ : List Sl) (Q : List PyData → List Sl → Prop) : Prop := t ρ fun d ρ' => bnd (listD d) fun xs => Q xs ρ'
theorem di_list (h : PE X e (eOf C t)) : PI X tg e (iOf C (dIl t)) := PI.wk (pi_list h) fun _ _ _ zz1 => el3 zz1 fun ρ P _ R ht k => ⟨ρ, P, _, R, ht, fun v d ρ' H' zz2 q => zz2.elim fun col r => by
  obtain ⟨xs, hx, q⟩ := bnd_of q
  have := listD_eq hx
  subst this
  obtain ⟨a, vs, rfl, za, e1, t1⟩ := th_lst (show ThV (Z col) H' v (.list xs) from r.pd _ List.mem_cons_self)
  refine ⟨a, rfl, ⟨vs, SqL.of e1⟩, k xs ρ' (.n a (.lst vs) :: .s vs xs :: P) H' _ ⟨col, ?_⟩ (fun _ h => List.mem_cons_of_mem _ (List.mem_cons_of_mem _ h)) it_list q⟩
  exact ((r.sub fun _ h => List.mem_cons_of_mem _ h).add (x := .s vs xs) t1).add (x := .n a (.lst vs)) ⟨by rw [show col a = 0 from za]; decide, r.notH (by rw [show col a = 0 from za]; decide), e1⟩⟩
def tupD : PyData → Option (List PyData)
  | .tuple xs => some xs
  | _ => none
def dIt (t : DE)  (ρ : List Sl) (Q : List PyData → List Sl → Prop) : Prop := t ρ fun d ρ' => bnd (tupD d) fun xs => Q xs ρ'
def dIv (i : Nat)  (ρ : List Sl) (Q : List PyData → List Sl → Prop) : Prop := match ρ[i]? with
  | some (.sh (.list xs)) => Q xs ρ
  | some (.ow xs) => Q xs (ρ.set i (.sh (.list xs)))
  | some (.bo xs) => Q xs ρ
  | _ => False
theorem di_var {i : Nat} (h : PE X e (tVar i)) : PI X tg e (iOf C (dIv i)) := PI.wk (pi_list h) fun σ H R' zz5 => el3 zz5 fun ρ P Qd zz6 ht k => zz6.elim fun col r => by
  unfold dIv at ht
  split at ht
  · rename_i xs e
    obtain ⟨v, e1, t⟩ := r.sl i _ e
    obtain ⟨a, vs, rfl, za, e2, t1⟩ := th_lst t
    · refine ⟨_, join_some e1, a, rfl, ⟨vs, SqL.of e2⟩, k xs ρ (.n a (.lst vs) :: .s vs xs :: P) H _ ⟨col, ?_⟩ (fun _ h => List.mem_cons_of_mem _ (List.mem_cons_of_mem _ h)) it_list ht⟩
      exact (r.add (x := .s vs xs) t1).add (x := .n a (.lst vs)) ⟨by rw [show col a = 0 from za]; decide, r.notH (by rw [show col a = 0 from za]; decide), e2⟩
  · rename_i xs e
    obtain ⟨a, e1, col', r'⟩ := r.freeze e
    obtain ⟨a', vs, ea, za, e2, t1⟩ := th_lst (show ThV (Z col') H (.ref a) (.list xs) from r'.pd _ List.mem_cons_self)
    cases ea
    · refine ⟨_, join_some e1, a, rfl, ⟨vs, SqL.of e2⟩, k xs _ (.n a (.lst vs) :: .s vs xs :: P) H _ ⟨col', ?_⟩ (fun _ h => List.mem_cons_of_mem _ (List.mem_cons_of_mem _ h)) it_list ht⟩
      exact ((r'.sub fun _ h => List.mem_cons_of_mem _ h).add (x := .s vs xs) t1).add (x := .n a (.lst vs)) ⟨by rw [show col' a = 0 from za]; decide, r'.notH (by rw [show col' a = 0 from za]; decide), e2⟩
  · rename_i xs e
    obtain ⟨a, vs, e1, c, n, e2, t⟩ := r.sl i _ e
    exact ⟨_, join_some e1, a, rfl, ⟨vs, SqL.of e2⟩, k xs ρ (.n a (.lst vs) :: .s vs xs :: P) H _ ⟨col, (r.add (x := .s vs xs) t).add (x := .n a (.lst vs)) ⟨c, n, e2⟩⟩ (fun _ h => List.mem_cons_of_mem _ (List.mem_cons_of_mem _ h)) it_list ht⟩
  · exact ht.elim
def rngD (lo : Int) (n : Nat) : List PyData := (List.range n).map fun i => .int (lo + ((i : Nat) : Int))
theorem rngD_get {lo : Int} {n i : Nat} {d : PyData} (h : (rngD lo n)[i]? = some d) : i < n ∧ d = .int (lo + i) := by
  unfold rngD at h
  rw [List.getElem?_map] at h
  by_cases hi : i < n
  · rw [List.getElem?_range hi] at h
    cases h
    exact ⟨hi, rfl⟩
  · rw [List.getElem?_eq_none (by rw [List.length_range]; lia)] at h
    cases h
theorem it_rng {lo : Int} {n : Nat} {P : List Pe} : ItOk C (Itr lo n) (rngD lo n) P where
  go := fun {i _ _ _ _} _ _ hi => by
    have : (rngD lo n).length = n := by unfold rngD; rw [List.length_map, List.length_range]
    show i < n
    lia
  yld := fun {i ρ σ P' H H' x d} _ R hi y => by
    obtain ⟨e1, e2⟩ := y
    subst e1 e2
    obtain ⟨_, e3⟩ := rngD_get hi
    subst e3
    obtain ⟨col, r⟩ := R
    exact ⟨col, r.push (.int _)⟩
  stop := fun _ _ => by
    have : (rngD lo n).length = n := by unfold rngD; rw [List.length_map, List.length_range]
    show n ≤ (rngD lo n).length
    lia
def dRng1 (u : DF)  (ρ : List Sl) (Q : List PyData → List Sl → Prop) : Prop := u ρ fun ds ρ' => match ds with
  | [.int j] => (-(2 ^ 62) ≤ j ∧ j < 2 ^ 62) ∧ Q (rngD 0 j.toNat) ρ'
  | _ => False
theorem di_rng1 (h : PI X tg e (iRng1 (vOf C u))) : PI X tg e (iOf C (dRng1 u)) := PI.wk h fun _ _ _ zz7 => el3 zz7 fun ρ P _ R ht k => ⟨ρ, P, _, R, ht, fun vs ds ρ' P' H' zz8 s p q => zz8.elim fun col r => by
  split at q
  · have t := p.th r
    obtain ⟨v, rfl, t1⟩ := ths1 t
    cases t1
    exact ⟨_, rfl, q.1.1, q.1.2, k _ _ P' _ _ ⟨col, r⟩ s it_rng q.2⟩
  · exact q.elim⟩
def dRng2 (u : DF)  (ρ : List Sl) (Q : List PyData → List Sl → Prop) : Prop := u ρ fun ds ρ' => match ds with
  | [.int i, .int j] => (-(2 ^ 62) ≤ i ∧ i < 2 ^ 62 ∧ -(2 ^ 62) ≤ j ∧ j < 2 ^ 62) ∧ Q (rngD i (j - i).toNat) ρ'
  | _ => False
def enumD (xs : List PyData) : List PyData := xs.zipIdx.map fun p => .tuple [.int (p.2 : Nat), p.1]
theorem enumD_get {xs : List PyData} {i : Nat} {d : PyData} (h : (enumD xs)[i]? = some d) : ∃ x, xs[i]? = some x ∧ d = .tuple [.int (i : Nat), x] := by
  unfold enumD at h
  rw [List.getElem?_map, List.getElem?_zipIdx] at h
  cases q : xs[i]? with
  | none => rw [q] at h; cases h
  | some x => rw [q] at h; cases h; exact ⟨x, rfl, by rw [Nat.zero_add]⟩
theorem it_enum {K : PySem.W.Frag} {a : Addr} {vs : List V} {xs : List PyData} {P : List Pe} : ItOk C (Ite K a) (enumD xs) (.n a (.lst vs) :: .s vs xs :: P) where
  go := fun {i ρ σ P' H} s R hi => by
    obtain ⟨col, r⟩ := R
    have h1 := r.pd _ (s _ List.mem_cons_self)
    have h2 : ThVs (Z col) H vs xs := r.pd _ (s _ (List.mem_cons_of_mem _ List.mem_cons_self))
    have hl := h2.len
    have hi' : i < xs.length := by unfold enumD at hi; rw [List.length_map, List.length_zipIdx] at hi; exact hi
    exact ⟨vs, vs[i], SqL.of h1.2.2, List.getElem?_eq_getElem (by lia)⟩
  yld := fun {i ρ σ P' H H' x d} s R hi y => by
    obtain ⟨p, v, rfl, hp, rfl, y⟩ := y
    obtain ⟨col, r⟩ := R
    have h1 := r.pd _ (s _ List.mem_cons_self)
    have h2 : ThVs (Z col) H vs xs := r.pd _ (s _ (List.mem_cons_of_mem _ List.mem_cons_self))
    have hx := y vs (SqL.of h1.2.2)
    obtain ⟨x, e1, rfl⟩ := enumD_get hi
    obtain ⟨d', e2, t⟩ := h2.get hx
    rw [e1] at e2
    cases e2
    exact ⟨col, r.tup (.cons (.int _) (.cons t .nil)) hp⟩
  stop := fun {ρ σ P' H} s R => by
    obtain ⟨col, r⟩ := R
    have h1 := r.pd _ (s _ List.mem_cons_self)
    have h2 : ThVs (Z col) H vs xs := r.pd _ (s _ (List.mem_cons_of_mem _ List.mem_cons_self))
    have hl := h2.len
    exact ⟨vs, SqL.of h1.2.2, by unfold enumD; rw [List.length_map, List.length_zipIdx]; lia⟩
def dEnum (t : DE)  (ρ : List Sl) (Q : List PyData → List Sl → Prop) : Prop := t ρ fun d ρ' => bnd (listD d) fun xs => Q (enumD xs) ρ'
end
def dCompL (tt : DT) (te : DE) (ρ : List Sl) (Q : List PyData → Prop) : List PyData → List PyData → Prop
  | [], acc => Q acc
  | x :: r, acc => tt (ρ ++ [.sh x]) fun b ρ' => ρ' = ρ ++ [.sh x] ∧ if b = true then te (ρ ++ [.sh x]) fun d ρ'' => ρ'' = ρ ++ [.sh x] ∧ dCompL tt te ρ Q r (acc ++ [d]) else dCompL tt te ρ Q r acc
def dComp (j : Nat) (it : DF) (tt : DT) (te : DE)  (ρ : List Sl) (Q : List PyData → List Sl → Prop) : Prop := it ρ fun xs ρ1 => (ρ1.length = j ∧ xs.length ≤ 1000) ∧ dCompL tt te ρ1 (fun ds => Q ds ρ1) xs []
def dTrue  (ρ : List Sl) (Q : Bool → List Sl → Prop) : Prop := Q true ρ
section
variable {X : Cx} {C : DC}
theorem PTs.wk {es : List Expr} {t t' : TT} (h : PTs X es t) (f : ∀ σ H Q, t' σ H Q → t σ H Q) : PTs X es t' := fun pins s σ H Q I q => h pins s σ H Q I (f σ H Q q)
theorem dts_nil : PTs X [] (cOf C dTrue) := PTs.wk pts_nil fun _ _ _ zz13 => el3 zz13 fun _ _ _ R ht k => k _ _ _ R ht
theorem Rel.ext {ρ : List Sl} {σ : St} {P : List Pe} {H : Hp} {x : V} {d : PyData} (R : Rel C ρ σ (.v x d :: P) H) : Rel C (ρ ++ [.sh d]) (σ ++ [some x]) P H := by
  obtain ⟨col, r⟩ := R
  have t : ThV (Z col) H x d := r.pd _ List.mem_cons_self
  have r := r.sub fun _ h => List.mem_cons_of_mem _ h
  refine ⟨col, { r with sl := fun i s e => ?_, len := by rw [List.length_append, List.length_append, r.len]; rfl }⟩
  by_cases hi : i < ρ.length
  · rw [List.getElem?_append_left hi] at e
    rw [List.getElem?_append_left (by rw [← r.len]; exact hi)]
    exact r.sl i s e
  · rw [List.getElem?_append_right (by lia)] at e
    rw [List.getElem?_append_right (by rw [← r.len]; lia), ← r.len]
    match q : i - ρ.length with
    | 0 =>
      rw [q] at e
      cases e
      exact ⟨x, rfl, t⟩
    | n + 1 => rw [q] at e; simp at e
theorem RelC.unext {col : Addr → Nat} {ρ ρ' : List Sl} {σ σ' : St} {P : List Pe} {H : Hp} (r : RelC C col (ρ ++ ρ') (σ ++ σ') P H) (hl : ρ.length = σ.length) : RelC C col ρ σ P H := by
  refine { r with sl := fun i s e => ?_, len := hl }
  have hi := (List.getElem?_eq_some_iff.mp e).1
  have := r.sl i s (by rw [List.getElem?_append_left hi]; exact e)
  rw [List.getElem?_append_left (by lia)] at this
  exact this
theorem ThVs.snoc {F : Addr → Prop} {H : Hp} {vs : List V} {ds : List PyData} {v : V} {d : PyData} (t : ThVs F H vs ds) (x : ThV F H v d) : ThVs F H (vs ++ [v]) (ds ++ [d]) := t.append (.cons x .nil)
theorem pad_eq {σ : St} {n j : Nat} {x : V} (h1 : n = σ.length + 1) (h2 : j = σ.length) : (padS n j σ).set j (some x) = σ ++ [some x] := by
  subst h1 h2
  unfold padS
  rw [List.take_of_length_le (by simp), List.set_append_right _ _ (Nat.le_refl _), List.set_append_right _ _ (Nat.le_refl _)]
  simp
theorem comp_rd {it : DF} {tt : DT} {te : DE} {n j : Nat} (hn : n = j + 1) {σ : St} {H : Hp} {Q : VK} (h : fOf C (dComp j it tt te) σ H Q) : tComp (iOf C it) n j (fun _ => cOf C tt) (fun _ => eOf C te) σ H Q := by
  obtain ⟨ρ, P, Qd, R, ht, k⟩ := h
  refine ⟨ρ, P, _, R, ht, fun xs ρ1 P1 H1 J R1 s1 io q => ?_⟩
  obtain ⟨⟨hj, hx⟩, q⟩ := q
  have lz : ∀ m, m ≤ 1000 → m ≤ sizeLine := fun m hm => Nat.le_of_lt (small1000 hm)
  refine ⟨fun i m ys H' => m = xs.length - i ∧ i ≤ xs.length ∧ ys.length ≤ i ∧ ∃ acc, Rel C ρ1 σ (.s ys acc :: P1) H' ∧ dCompL tt te ρ1 (fun ds => Qd ds ρ1) (xs.drop i) acc, ⟨xs.length, by simp, Nat.zero_le _, Nat.le_refl _, [], ?_, q⟩, ?_⟩
  · obtain ⟨col, r⟩ := R1
    exact ⟨col, r.add (x := .s [] []) .nil⟩
  rintro i m ys H2 ⟨rfl, hi, hy, acc, R2, q2⟩
  refine ⟨lz _ (by lia), ?_⟩
  have sub2 : ∀ p ∈ P1, p ∈ Pe.s ys acc :: P1 := fun _ h => List.mem_cons_of_mem _ h
  have hlen : ρ1.length = σ.length := by obtain ⟨col, r⟩ := R2; exact r.len
  by_cases hlt : i < xs.length
  · rw [List.drop_eq_getElem_cons hlt] at q2
    refine .inr ⟨io.go sub2 R2 hlt, fun ys' H' => ys'.length ≤ i + 1 ∧ ∃ acc, Rel C ρ1 σ (.s ys' acc :: P1) H' ∧ dCompL tt te ρ1 (fun ds => Qd ds ρ1) (xs.drop (i + 1)) acc, fun ys' H' zz14 => zz14.elim fun h1 h2 => ⟨xs.length - (i + 1), by lia, rfl, hlt, h1, h2⟩, fun x H3 y a => ?_⟩
    have R3 := (io.yld sub2 R2 (List.getElem?_eq_getElem hlt) y).ext
    rw [pad_eq (by rw [hn, ← hlen, hj]) (by rw [← hlen, hj])]
    refine ⟨_, _, _, R3, q2, fun b ρ' H4 R4 q4 => ?_⟩
    obtain ⟨rfl, q4⟩ := q4
    cases b with
    | true =>
      refine iteT ⟨_, _, _, R4, by simpa using q4, fun v d ρ'' H5 R5 q5 => ?_⟩
      obtain ⟨rfl, q5⟩ := q5
      refine ⟨by rw [List.length_append]; simp; lia, acc ++ [d], ?_, q5⟩
      obtain ⟨col, r⟩ := R5
      have t1 : ThV (Z col) H5 v d := r.pd _ List.mem_cons_self
      have t2 : ThVs (Z col) H5 ys acc := r.pd _ (List.mem_cons_of_mem _ List.mem_cons_self)
      exact ⟨col, ((r.unext hlen).sub fun _ h => List.mem_cons_of_mem _ (List.mem_cons_of_mem _ h)).add (x := .s (ys ++ [v]) (acc ++ [d])) (t2.snoc t1)⟩
    | false =>
      refine iteF ⟨by lia, acc, ?_, by simpa using q4⟩
      obtain ⟨col, r⟩ := R4
      exact ⟨col, r.unext hlen⟩
  · have e : i = xs.length := by lia
    subst e
    rw [List.drop_length] at q2
    refine .inl ⟨io.stop sub2 R2, fun p hp => k _ _ _ _ _ ?_ hp q2⟩
    obtain ⟨col, r⟩ := R2
    exact ⟨col, r.sub fun p hp => List.mem_cons_of_mem _ (s1 p hp), r.pd _ List.mem_cons_self⟩
end
structure DEnds where
  nx : List Sl → Prop
  rt : PyData → Prop
  bk : List Sl → Prop := fun _ => False
  ct : List Sl → Prop := fun _ => False
  ro : Sl → Prop := fun _ => False
abbrev DS := DEnds → List Sl → Prop
def NewV (C : DC) (col : Addr → Nat) (H : Hp) (v : V) : Sl → Prop
  | .ow ds => ∃ a vs, v = .ref a ∧ C.H0 a = none ∧ col a ≠ 0 ∧ H a = some (.lst vs) ∧ ThVs (Z col) H vs ds
  | .o2 dss => ∃ a as, v = .ref a ∧ (C.H0 a = none ∧ col a ≠ 0) ∧ H a = some (.lst (as.map V.ref)) ∧ (a :: as).Nodup ∧ Rws (fun b => C.H0 b = none ∧ col b ≠ 0) (Z col) H as dss
  | .di false ks => ∃ a, v = .ref a ∧ C.H0 a = none ∧ H a = some (.dT (dEn ks))
  | _ => False
structure EndsR (C : DC) (P : List Pe) (Dd : DEnds) (D : Ends) : Prop where
  nx : ∀ ρ σ H, Rel C ρ σ P H → Dd.nx ρ → D.nx σ H
  rt : ∀ v d ρ σ H, Rel C ρ σ (.v v d :: P) H → Dd.rt d → D.rt v H
  bk : ∀ ρ σ H, Rel C ρ σ P H → Dd.bk ρ → D.bk σ H
  ct : ∀ ρ σ H, Rel C ρ σ P H → Dd.ct ρ → D.ct σ H
  ro : ∀ (v : V) (s : Sl) (ρ : List Sl) σ H col, RelC C col ρ σ P H → NewV C col H v s → Dd.ro s → D.rt v H
def sOf (C : DC) (t : DS) : TS := fun D σ H => ∃ ρ P Dd, Rel C ρ σ P H ∧ t Dd ρ ∧ EndsR C P Dd D
section
variable {X : Cx} {C : DC} {st : Stmt} {sts : List Stmt} {e : Expr} {t u : DS} {te : DE} {tf : DF} {c : DT} {pos : Pos}
theorem PS.wk {t t' : TS} (h : PS X st t) (f : ∀ D σ H, t' D σ H → t D σ H) : PS X st t' := fun pins s σ H D I q => h pins s σ H D I (f D σ H q)
theorem PSs.wk {t t' : TS} (h : PSs X sts t) (f : ∀ D σ H, t' D σ H → t D σ H) : PSs X sts t' := fun pins s σ H D I q => h pins s σ H D I (f D σ H q)
def dSeq (t u : DS)  (D : DEnds) (ρ : List Sl) : Prop := t { D with nx := u D } ρ
def dNext  (D : DEnds) (ρ : List Sl) : Prop := D.nx ρ
theorem dss_nil : PSs X [] (sOf C dNext) := PSs.wk pss_nil fun _ _ _ zz15 => el3 zz15 fun _ _ _ R ht E => E.nx _ _ _ R ht
theorem dss_one (h : PS X st (sOf C t)) : PSs X [st] (sOf C t) := pss_one h
theorem dss_cons (h1 : PS X st (sOf C t)) (h2 : PSs X sts (sOf C u)) : PSs X (st :: sts) (sOf C (dSeq t u)) := PSs.wk (pss_cons h1 h2) fun _ _ _ zz16 => el3 zz16 fun ρ P Dd R ht E => ⟨ρ, P, { Dd with nx := u Dd }, R, ht, ⟨fun ρ' _ _ R' h => ⟨ρ', P, Dd, R', h, E⟩, E.rt, E.bk, E.ct, E.ro⟩⟩
def Go (f : List Sl → Prop) (ρ : List Sl) : Prop := f ρ
theorem go {f : List Sl → Prop} {ρ : List Sl} (h : f ρ) : Go f ρ := h
def dSeqG (t u : DS) (D : DEnds) (ρ : List Sl) : Prop := t { D with nx := Go (u D) } ρ
theorem dss_consG (h1 : PS X st (sOf C t)) (h2 : PSs X sts (sOf C u)) : PSs X (st :: sts) (sOf C (dSeqG t u)) := PSs.wk (pss_cons h1 h2) fun _ _ _ zz17 => el3 zz17 fun ρ P Dd R ht E => ⟨ρ, P, { Dd with nx := Go (u Dd) }, R, ht, ⟨fun ρ' _ _ R' h => ⟨ρ', P, Dd, R', h, E⟩, E.rt, E.bk, E.ct, E.ro⟩⟩
def dMid (t : DS)  (D : DEnds) (ρ : List Sl) : Prop := ∃ M : List Sl → Prop, t { D with nx := M } ρ ∧ ∀ ρ', M ρ' → D.nx ρ'
theorem ds_mid (h : PS X st (sOf C t)) : PS X st (sOf C (dMid t)) := PS.wk h fun _ _ _ ⟨ρ, P, Dd, R, ⟨M, h1, h2⟩, E⟩ => ⟨ρ, P, { Dd with nx := M }, R, h1, ⟨fun ρ' σ' H' R' h => E.nx ρ' σ' H' R' (h2 ρ' h), E.rt, E.bk, E.ct, E.ro⟩⟩
def dRet (te : DE)  (D : DEnds) (ρ : List Sl) : Prop := te ρ fun d _ => D.rt d
theorem ds_ret (h : PE X e (eOf C te)) : PS X (.Return (some e) pos) (sOf C (dRet te)) := PS.wk (ps_ret h) fun _ _ _ zz23 => el3 zz23 fun ρ P _ R ht E => ⟨ρ, P, _, R, ht, fun v d _ _ R' q => E.rt v d _ _ _ R' q⟩
def dIfS (c : DT) (t u : DS)  (D : DEnds) (ρ : List Sl) : Prop := c ρ fun b ρ' => if b = true then t D ρ' else u D ρ'
theorem ds_if {ce : Expr} {a b : List Stmt} (hc : PT X ce (cOf C c)) (ha : PSs X a (sOf C t)) (hb : PSs X b (sOf C u)) : PS X (.If ce a b pos) (sOf C (dIfS c t u)) := PS.wk (ps_if hc ha hb) fun _ _ _ zz26 => el3 zz26 fun ρ P Dd R ht E => ⟨ρ, P, _, R, ht, fun b ρ' _ R' q => by
  cases b with
  | true => exact iteT ⟨ρ', P, Dd, R', by simpa using q, E⟩
  | false => exact iteF ⟨ρ', P, Dd, R', by simpa using q, E⟩⟩
def dDrop (te : DE)  (D : DEnds) (ρ : List Sl) : Prop := te ρ fun _ ρ' => D.nx ρ'
def dSet (i : Nat) (te : DE)  (D : DEnds) (ρ : List Sl) : Prop := te ρ fun d ρ' => D.nx (ρ'.set i (.sh d))
theorem ds_set {i : Nat} (hp : PS X st (tAsg (eOf C te) (gName i))) : PS X st (sOf C (dSet i te)) := PS.wk hp fun _ _ _ zz28 => el3 zz28 fun ρ P _ R ht E => ⟨ρ, P, _, R, ht, fun v d ρ' H' zz29 q => zz29.elim fun col r => E.nx _ _ _ ⟨col, ((r.store (i := i) (r.pd _ List.mem_cons_self)).sub fun _ h => List.mem_cons_of_mem _ h)⟩ q⟩
def dOwn (i : Nat) (tf : DF)  (D : DEnds) (ρ : List Sl) : Prop := tf ρ fun ds ρ' => D.nx (ρ'.set i (.ow ds))
theorem ds_own {i : Nat} (hp : PS X st (tAsg (fOf C tf) (gName i))) : PS X st (sOf C (dOwn i tf)) := PS.wk hp fun _ _ _ zz30 => el3 zz30 fun ρ P _ R ht E => ⟨ρ, P, _, R, ht, fun p vs ds ρ' H1 zz31 hp q => el2 zz31 fun col r t => E.nx _ _ _ (r.own t hp) q⟩
theorem ds_ownC {i n j : Nat} {it : DF} {tt : DT} (hn : n = j + 1) (hp : PS X st (fun D σ H => tComp (iOf C it) n j (fun _ => cOf C tt) (fun _ => eOf C te) σ H fun v H1 => D.nx (σ.set i (some v)) H1)) : PS X st (sOf C (dOwn i (dComp j it tt te))) :=
  PS.wk hp fun _ _ _ zz32 => el3 zz32 fun ρ P _ R ht E => comp_rd hn ⟨ρ, P, _, R, ht, fun p vs ds ρ' H1 zz33 hp q => el2 zz33 fun col r t => E.nx _ _ _ (r.own t hp) q⟩
def dApp (i : Nat) (te : DE)  (D : DEnds) (ρ : List Sl) : Prop := match ρ[i]? with
  | some (.ow _) => te ρ fun d ρ' => match ρ'[i]? with
    | some (.ow ds) => ds.length ≤ 1000 ∧ D.nx (ρ'.set i (.ow (ds ++ [d])))
    | _ => False
  | _ => False
theorem ds_app {i : Nat} {K : PySem.W.Frag} (hp : PS X st (tDrop (tBM K "list" rAppend (tVar i) (tCons (eOf C te) tNil)))) : PS X st (sOf C (dApp i te)) := PS.wk hp fun D σ H zz36 => el3 zz36 fun ρ P Dd zz37 ht E => zz37.elim fun col r => by
  unfold dApp at ht
  split at ht
  · rename_i ds0 e0
    obtain ⟨a, vs, e1, c, n, e2, t⟩ := r.sl i _ e0
    refine ⟨.ref a, join_some e1, .inl ⟨rfl, vs, SqL.of e2⟩, ρ, P, _, ⟨col, r⟩, ht, fun v d ρ' H' zz38 q => zz38.elim fun col' r' => ?_⟩
    split at q
    · rename_i ds e0'
      obtain ⟨a', vs', e1', c', n', e2', t'⟩ := r'.sl i _ e0'
      rw [e1] at e1'
      cases e1'
      exact ⟨a, vs', v, rfl, rfl, e2', by rw [t'.len]; exact small1000 q.1, E.nx _ _ _ ⟨col', ((r'.write e0' e1 (t'.snoc (r'.pd _ List.mem_cons_self)))).sub fun _ h => List.mem_cons_of_mem _ h⟩ q.2⟩
    · exact q.elim
  · exact ht.elim
def dSetI (i : Nat) (te tk : DE)  (D : DEnds) (ρ : List Sl) : Prop := te ρ fun d ρ1 => match ρ1[i]? with
  | some (.ow _) => tk ρ1 fun k ρ2 => match ρ2[i]? with
    | some (.ow ds) => match k with
      | .int k => bnd (ixN ds.length k) fun j => D.nx (ρ2.set i (.ow (ds.set j d)))
      | _ => False
    | _ => False
  | _ => False
theorem ThVs.set {F : Addr → Prop} {H : Hp} {v : V} {d : PyData} (x : ThV F H v d) : ∀ {vs : List V} {ds : List PyData} (j : Nat), ThVs F H vs ds → ThVs F H (vs.set j v) (ds.set j d)
  | _, _, _, .nil => .nil
  | _, _, 0, .cons _ t => .cons x t
  | _, _, j + 1, .cons y t => .cons y (ThVs.set x j t)
theorem ds_setI {i : Nat} {tk : DE} (hp : PS X st (tAsg (eOf C te) (gSub (tVar i) (eOf C tk) rSetL))) : PS X st (sOf C (dSetI i te tk)) := PS.wk hp fun D σ H zz39 => el3 zz39 fun ρ P Dd R ht E => ⟨ρ, P, _, R, ht, fun v d ρ1 H1 zz40 q1 => zz40.elim fun col1 r1 => by
  split at q1
  · rename_i ds0 e0
    obtain ⟨a, vs, e1, c, n, e2, t⟩ := r1.sl i _ e0
    refine ⟨.ref a, join_some e1, ρ1, _, _, ⟨col1, r1⟩, q1, fun w k ρ2 H2 zz41 q2 => zz41.elim fun col2 r2 => ?_⟩
    split at q2
    · rename_i ds e0'
      cases k with
      | int k' =>
        obtain ⟨j, hj, q⟩ := bnd_of q2
        obtain ⟨a', vs', e1', c', n', e2', t'⟩ := r2.sl i _ e0'
        rw [e1] at e1'
        cases e1'
        have tw : ThV (Z col2) H2 w (.int k') := r2.pd _ List.mem_cons_self
        cases tw
        refine ⟨a, vs', k', j, rfl, rfl, e2', by rw [t'.len]; exact hj, E.nx _ _ _ ⟨col2, ((r2.write e0' e1 (ThVs.set (r2.pd (.v v d) (List.mem_cons_of_mem _ List.mem_cons_self)) j t'))).sub fun _ h => List.mem_cons_of_mem _ (List.mem_cons_of_mem _ h)⟩ q⟩
      | _ => exact q2.elim
    · exact q2.elim
  · exact q1.elim⟩
abbrev DG := PyData → List Sl → (List Sl → Prop) → Prop
def gOf (C : DC) (g : DG) : TG := fun v σ H Q => ∃ ρ P d Qd, Rel C ρ σ (.v v d :: P) H ∧ g d ρ Qd ∧ ∀ ρ' σ', Rel C ρ' σ' P H → Qd ρ' → Q σ' H
theorem PG.wk {tg : Expr} {g g' : TG} (h : PG X tg g) (f : ∀ v σ H Q, g' v σ H Q → g v σ H Q) : PG X tg g' := fun pins s σ H v u Q I r q => h pins s σ H v u Q I r (f v σ H Q q)
def gN (i : Nat)  (d : PyData) (ρ : List Sl) (Q : List Sl → Prop) : Prop := Q (ρ.set i (.sh d))
theorem dg_name {tg : Expr} {i : Nat} (h : PG X tg (gName i)) : PG X tg (gOf C (gN i)) := PG.wk h fun _ _ _ _ ⟨_, _, _, _, ⟨col, r⟩, ht, k⟩ => k _ _ ⟨col, ((r.store (i := i) (r.pd _ List.mem_cons_self)).sub fun _ h => List.mem_cons_of_mem _ h)⟩ ht
def gT2 (i j : Nat)  (d : PyData) (ρ : List Sl) (Q : List Sl → Prop) : Prop := match d with
  | .tuple [a, b] => Q ((ρ.set i (.sh a)).set j (.sh b))
  | _ => False
def gT3 (i j k : Nat)  (d : PyData) (ρ : List Sl) (Q : List Sl → Prop) : Prop := match d with
  | .tuple [a, b, c] => Q (((ρ.set i (.sh a)).set j (.sh b)).set k (.sh c))
  | _ => False
theorem dg_t2 {tg : Expr} {i j : Nat} {K : PySem.W.Frag} (h : PG X tg (gTup K 2 (gCons (gName i) (gCons (gName j) gNil)))) : PG X tg (gOf C (gT2 i j)) := PG.wk h fun v σ H Q ⟨ρ, P, d, Qd, ⟨col, r⟩, ht, k⟩ => by
  unfold gT2 at ht
  split at ht
  · rename_i a b
    have z : ThV (Z col) H v (.tuple [a, b]) := r.pd _ List.mem_cons_self
    cases z with
    | tup za e t =>
      obtain ⟨x, y, rfl, t1, t2⟩ := ths2 t
      exact ⟨_, _, rfl, SqT.of e, rfl, x, [y], rfl, y, [], rfl, rfl, k _ _ ⟨col, (((r.store (i := i) t1).store (i := j) t2).sub fun _ h => List.mem_cons_of_mem _ h)⟩ ht⟩
  · exact ht.elim
theorem dg_t3 {tg : Expr} {i j l : Nat} {K : PySem.W.Frag} (h : PG X tg (gTup K 3 (gCons (gName i) (gCons (gName j) (gCons (gName l) gNil))))) : PG X tg (gOf C (gT3 i j l)) := PG.wk h fun v σ H Q ⟨ρ, P, d, Qd, ⟨col, r⟩, ht, k⟩ => by
  unfold gT3 at ht
  split at ht
  · rename_i a b c
    have z : ThV (Z col) H v (.tuple [a, b, c]) := r.pd _ List.mem_cons_self
    cases z with
    | tup za e t =>
      cases t with
      | cons t1 t =>
        obtain ⟨y, z, rfl, t2, t3⟩ := ths2 t
        exact ⟨_, _, rfl, SqT.of e, rfl, _, [y, z], rfl, y, [z], rfl, z, [], rfl, rfl, k _ _ ⟨col, ((((r.store (i := i) t1).store (i := j) t2).store (i := l) t3).sub fun _ h => List.mem_cons_of_mem _ h)⟩ ht⟩
  · exact ht.elim
def dAsg (te : DE) (g : DG)  (D : DEnds) (ρ : List Sl) : Prop := te ρ fun d ρ' => g d ρ' D.nx
theorem ds_asg {g : DG} (hp : PS X st (tAsg (eOf C te) (gOf C g))) : PS X st (sOf C (dAsg te g)) := PS.wk hp fun _ _ _ zz45 => el3 zz45 fun ρ P _ R ht E => ⟨ρ, P, _, R, ht, fun v d ρ' H' R' q => ⟨ρ', P, d, _, R', q, fun ρ2 σ2 R2 q2 => E.nx _ _ _ R2 q2⟩⟩
def Blk (t : DS) (D : DEnds) (ρ : List Sl) : Prop := t D ρ
def dFor (it : DF) (g : DG) (tb : DS) (D : DEnds) (ρ : List Sl) : Prop := it ρ fun xs ρ1 => ∃ I : List PyData → List Sl → Prop, I xs ρ1 ∧ (∀ x r ρ, I (x :: r) ρ → g x ρ (Blk tb { nx := I r, ct := I r, bk := D.nx, rt := D.rt })) ∧ ∀ ρ, I [] ρ → D.nx ρ
theorem ds_for {it : DF} {g : DG} {tb : DS} (hp : PS X st (tFor (iOf C it) (gOf C g) (sOf C tb))) : PS X st (sOf C (dFor it g tb)) := PS.wk hp fun D σ H zz46 => el3 zz46 fun ρ P Dd R ht E => ⟨ρ, P, _, R, ht, fun xs ρ1 P1 H1 J R1 s1 io q => by
  obtain ⟨I, q0, qs, qd⟩ := q
  refine ⟨fun i m σ' H' => m = xs.length - i ∧ i ≤ xs.length ∧ ∃ ρ', Rel C ρ' σ' P1 H' ∧ I (xs.drop i) ρ', ⟨xs.length, by simp, Nat.zero_le _, ρ1, R1, q0⟩, ?_⟩
  rintro i m σ2 H2 ⟨rfl, hi, ρ2, R2, q2⟩
  by_cases hlt : i < xs.length
  · rw [List.drop_eq_getElem_cons hlt] at q2
    refine .inr ⟨io.go (fun _ h => h) R2 hlt, fun σ' H' => ∃ ρ', Rel C ρ' σ' P1 H' ∧ I (xs.drop (i + 1)) ρ', fun σ' H' h => ⟨xs.length - (i + 1), by lia, rfl, hlt, h⟩, fun x H3 y => ?_⟩
    refine ⟨ρ2, P1, _, _, io.yld (fun _ h => h) R2 (List.getElem?_eq_getElem hlt) y, qs _ _ _ q2, fun ρ3 σ3 R3 q3 => ?_⟩
    refine ⟨ρ3, P1, ⟨I (xs.drop (i + 1)), Dd.rt, Dd.nx, I (xs.drop (i + 1)), fun _ => False⟩, R3, q3, ⟨fun ρ4 σ4 H4 R4 q4 => ⟨ρ4, R4, q4⟩, fun v d ρ4 σ4 H4 R4 q4 => E.rt v d ρ4 σ4 H4 (R4.sub (sub_cons s1)) q4, fun ρ4 σ4 H4 R4 q4 => E.nx ρ4 σ4 H4 (R4.sub s1) q4, fun ρ4 σ4 H4 R4 q4 => ⟨ρ4, R4, q4⟩, fun _ _ _ _ _ _ _ _ h => h.elim⟩⟩
  · have e : i = xs.length := by lia
    subst e
    rw [List.drop_length] at q2
    exact .inl ⟨io.stop (fun _ h => h) R2, E.nx _ _ _ (R2.sub s1) (qd _ q2)⟩⟩
end
open PySem.Spec PyProof.Rows
def slOf : Md → PyData → Sl
  | .sh, d => .sh d
  | .bo, .list ds => .bo ds
  | .bo, _ => .no
  | .hd, _ => .hd
  | .b2, d => match rowsD d with
    | some dss => .b2 dss
    | none => .no
  | .bd, d => .bd d
theorem rowsL_lls : ∀ dss : List (List PyData), rowsL (lls dss) = some dss
  | [] => rfl
  | ds :: dss => by
    show (rowsL (lls dss)).map (ds :: ·) = some (ds :: dss)
    rw [rowsL_lls dss]; rfl
theorem slOf_b2 (dss : List (List PyData)) : slOf .b2 (.list (lls dss)) = .b2 dss := by
  show (match rowsL (lls dss) with
    | some dss => Sl.b2 dss
    | none => .no) = _
  rw [rowsL_lls]
def startD (n : Nat) : List Md → List PyData → List Sl
  | m :: ms, d :: ds => slOf m d :: startD (n - 1) ms ds
  | _, _ => List.replicate n .no
def startN : List Str → List Md → List PyData → List Sl
  | [], _, _ => []
  | _ :: N, ms, ds => (match ms, ds with
    | m :: _, d :: _ => slOf m d
    | _, _ => .no) :: startN N ms.tail ds.tail
theorem startN_nil : ∀ N : List Str, startN N [] [] = List.replicate N.length .no
  | [] => rfl
  | _ :: N => by
    show Sl.no :: startN N [] [] = _
    rw [startN_nil N]; rfl
theorem startN_eq : ∀ {N : List Str} {ms : List Md} {ds : List PyData}, ms.length ≤ N.length → ds.length = ms.length → startN N ms ds = startD N.length ms ds
  | N, [], [], _, _ => startN_nil N
  | _ :: N, m :: ms, d :: ds, h1, h2 => by
    show slOf m d :: startN N ms ds = slOf m d :: startD (N.length + 1 - 1) ms ds
    rw [startN_eq (by simpa using h1) (by simpa using h2)]; rfl
  | [], _ :: _, _, h, _ => by simp at h
  | _, [], _ :: _, _, h => by simp at h
  | _, _ :: _, [], _, h => by simp at h
section
variable {P : Program} {w : World} {K : PySem.W.Frag} {mg : Str → Option Value} {base : Heap}
theorem start_sl {C : DC} {col : Addr → Nat} {H : Hp} {F : Addr → Prop} {hand : Option (Addr × Addr)} (hC : C.hand = hand) (hH : C.H0 = H) (f : ∀ b, F b → col b = 0) (lo : ∀ b, col b ≤ 1) {ms : List Md} {vs : List V} {ds : List PyData} {n : Nat} (ar : ArgsR F hand H ms vs ds) :
    ∀ (i : Nat) (s : Sl), (startD n ms ds)[i]? = some s → ∀ j : Nat, SlR C col H j ((vs.map some ++ List.replicate (n - vs.length) none)[i]?).join s := by
  induction ar generalizing n with
  | nil =>
    intro i s e j
    have e' : (List.replicate n Sl.no)[i]? = some s := e
    rw [List.getElem?_replicate] at e'
    split at e'
    · cases e'; trivial
    · cases e'
  | @cons m v d ms vs ds a t ih =>
    intro i s e j
    have e' : (slOf m d :: startD (n - 1) ms ds)[i]? = some s := e
    cases i with
    | zero =>
      cases e'
      show SlR C col H j (some v) (slOf m d)
      have mv0 : ∀ b o, F b → H b = some o → Z col b ∧ H b = some o := fun b o z e => ⟨f b z, e⟩
      cases m with
      | sh => exact ⟨v, rfl, ThV.mv mv0 a⟩
      | bo =>
        obtain ⟨ad, us, es, rfl, rfl, nh, e2, t2⟩ := a
        exact ⟨ad, us, rfl, lo ad, by rw [hC]; exact nh, e2, ThVs.mv mv0 t2⟩
      | hd =>
        obtain ⟨q, hq, rfl⟩ := a
        exact ⟨q, hC.trans hq, rfl⟩
      | b2 =>
        obtain ⟨ad, as, dss, rfl, rfl, nh, e2, t2⟩ := a
        rw [slOf_b2]
        exact ⟨ad, as, rfl, ⟨lo ad, by rw [hC]; exact nh⟩, e2, t2.mv mv0 fun b o g e => ⟨⟨lo b, by rw [hC]; exact g⟩, e⟩⟩
      | bd => exact ⟨v, rfl, ThV.mv (fun b o g e => ⟨⟨(by rw [hH, e]; exact fun q => nomatch q), by rw [hC]; exact g⟩, by rw [hH]; exact e⟩) a⟩
    | succ i =>
      have := ih (n := n - 1) i s e' j
      rw [List.map_cons, List.cons_append, List.getElem?_cons_succ, List.length_cons, show n - (vs.length + 1) = n - 1 - vs.length by lia]
      exact this
theorem start_len {F : Addr → Prop} {hand : Option (Addr × Addr)} {H : Hp} {ms : List Md} {vs : List V} {ds : List PyData} {n : Nat} (a : ArgsR F hand H ms vs ds) (h : ms.length ≤ n) : (startD n ms ds).length = n := by
  induction a generalizing n with
  | nil => show (List.replicate n Sl.no).length = n; rw [List.length_replicate]
  | @cons m v d ms vs ds a t ih =>
    show (slOf m d :: startD (n - 1) ms ds).length = n
    rw [List.length_cons] at h
    rw [List.length_cons, ih (by lia)]
    lia
open Classical in
theorem fn_d {x qual : Str} {st : Stmt} {f : Addr} {fd : FuncData} {N ps : List Str} {k : Nat} {sp : DSp} {ms : List Md} (F : Fun K x qual st f fd) (S : FnScope N ps (defScope st)) (hm : ms.length = ps.length)
    (hb : ∀ (C : DC) (cdv : Value) (A : Around) (outer : List Env) (s : Shared) (H : Hp) (E : XK), Room k (A.deeper (envOfC qual (defScope st) s.heap.objs.size f cdv)) →
      ∃ t, PSs (cxOf CX0 P w K mg base N qual (defScope st) f cdv A outer s H E).nox (defBody st) (sOf C t) ∧ ∀ ds Q, ds.length = ms.length → sp ds Q → t { nx := fun _ => Q .none, rt := Q } (startN N ms ds)) :
    FnOk P w K mg base CX0 (k + 1) f fd ps (spD ms sp) := by
  refine F.ok S (fun vs H Q E h => ?_) (fun cdv A outer s H vs Q E hr h => ?_)
  · obtain ⟨_, _, _, _, _, _, _, a, _⟩ := h
    rw [a.len.1, hm]
  · obtain ⟨G, hand, ds, Qd, h1, h2, h3, a, h4, h5⟩ := h
    obtain ⟨t, ht, q⟩ := hb ⟨G, hand, H⟩ cdv A outer s H E hr
    have hN : ps.length ≤ N.length := by have := congrArg List.length S.pre; rw [List.length_take] at this; lia
    let col : Addr → Nat := fun b => if G b then 0 else 1
    have c0 : ∀ b, G b → col b = 0 := fun b hb => if_pos hb
    have c1 : ∀ b, ¬ G b → col b = 1 := fun b hb => if_neg hb
    have lo : ∀ b, col b ≤ 1 := fun b => by
      by_cases z : G b
      · rw [c0 b z]; lia
      · rw [c1 b z]; lia
    refine ⟨_, ht, startD N.length ms ds, [], ⟨fun _ => Qd .none, Qd, fun _ => False, fun _ => False, fun _ => False⟩, ⟨col, fun b hb => c0 b (h1.1 b hb), fun b hb => ?_, fun q hq => c1 _ (h2 q hq), fun i s e => start_sl (C := ⟨G, hand, H⟩) rfl rfl c0 lo a i s e i, fun p hp => (nomatch hp), Kq.refl, h3, h3, h1, ?_⟩, by rw [← startN_eq (by lia) a.len.2]; exact q ds Qd a.len.2 h4, ⟨fun ρ σ H' R h => ?_, fun v d ρ σ H' R h => ?_, fun _ _ _ _ h => h.elim, fun _ _ _ _ h => h.elim, fun _ _ _ _ _ _ _ _ h => h.elim⟩⟩
    · by_cases z : G b
      · exact z
      · rw [c1 b z] at hb; cases hb
    · rw [start_len a (by lia)]
      unfold L2.start
      rw [List.length_append, List.length_map, List.length_replicate, a.len.1]
      lia
    · obtain ⟨col', r⟩ := R
      exact h5 _ _ _ h .non r.kq r.hq
    · obtain ⟨col', r⟩ := R
      exact h5 _ _ _ h (ThV.mv (fun b o z e => ⟨r.inF b z, e⟩) (r.pd _ List.mem_cons_self)) r.kq r.hq
open Classical in
end
end My
namespace My
open PySem L2
section
variable {X : Cx} {C : DC} {tg e a b : Expr} {t ta tb : DE} {u : DF} {pos : Pos}
def intsD : List PyData → Option (List Int)
  | [] => some []
  | .int b :: r => (intsD r).map (b :: ·)
  | _ :: _ => none
def gIn (neg : Bool)  (a b : PyData) (Q : PyData → Prop) : Prop := match a, b with
  | .int i, .list xs => bnd (intsD xs) fun ns => Q (.bool (if neg then !(ns.contains i) else ns.contains i))
  | _, _ => False
def dIndexV (i : Nat) (tk : DE)  (ρ : List Sl) (Q : PyData → List Sl → Prop) : Prop := bnd (slotD ρ i) fun a0 => bnd (listD a0) fun _ => tk ρ fun k ρ2 => match k with
  | .int k => bnd (slotD ρ2 i) fun a => bnd (listD a) fun xs => bnd (intsD xs) fun ns => (k ∈ ns ∧ ns.length ≤ 100000) ∧ Q (.int (ns.idxOf k : Nat)) ρ2
  | _ => False
def dLrev (t : DE)  (ρ : List Sl) (Q : List PyData → List Sl → Prop) : Prop := t ρ fun d ρ' => bnd (listD d) fun xs => Q xs.reverse ρ'
theorem ThVs.rev {F : Addr → Prop} {H : Hp} {vs : List V} {ds : List PyData} (t : ThVs F H vs ds) : ThVs F H vs.reverse ds.reverse := by
  induction vs generalizing ds with
  | nil => cases t; exact .nil
  | cons v vs ih =>
    cases t with
    | cons x t =>
      rw [List.reverse_cons, List.reverse_cons]
      exact (ih t).append (.cons x .nil)
theorem pf_lrev {K : PySem.W.Frag} (h : PE X e (fun σ H Q => tCons (eOf C t) tNil σ H fun vs H1 => ∃ a xs, vs = [.ref a] ∧ SqL K H1 a xs ∧ ∀ p, H1 p = none → Q (.ref p) (upd H1 p (.lst xs.reverse)))) : PE X e (fOf C (dLrev t)) := PE.wk h fun _ _ _ zz3 => el3 zz3 fun ρ P _ R ht k => ⟨ρ, P, _, R, ht, fun v d ρ' H' zz4 q => zz4.elim fun col r => by
  obtain ⟨xs, hx, q⟩ := bnd_of q
  have := listD_eq hx
  subst this
  obtain ⟨a, vs, rfl, e, t⟩ := Red.lst (.th (r.pd _ List.mem_cons_self))
  exact ⟨a, vs, rfl, SqL.of e, fun p hp => k _ _ _ _ _ ⟨col, r.sub fun _ h => List.mem_cons_of_mem _ h, t.rev⟩ hp q⟩⟩
def dIrev (t : DE)  (ρ : List Sl) (Q : List PyData → List Sl → Prop) : Prop := t ρ fun d ρ' => bnd (listD d) fun xs => Q xs.reverse ρ'
theorem pf_comp {n j : Nat} {it : DF} {tt : DT} {te : DE} (hn : n = j + 1) (h : PE X e (tComp (iOf C it) n j (fun _ => cOf C tt) (fun _ => eOf C te))) : PE X e (fOf C (dComp j it tt te)) := PE.wk h fun _ _ _ h => comp_rd hn h
def gB2 (f : Bool → Bool → Bool)  (a b : PyData) (Q : PyData → Prop) : Prop := match a, b with
  | .bool i, .bool j => Q (.bool (f i j))
  | _, _ => False
end
theorem a1_0 {α : Type} {x : α} : atI [x] 0 = some x := rfl
theorem a2_0 {α : Type} {x y : α} : atI [x, y] 0 = some x := rfl
theorem a2_1 {α : Type} {x y : α} : atI [x, y] 1 = some y := rfl
theorem a3_0 {α : Type} {x y z : α} : atI [x, y, z] 0 = some x := rfl
theorem a3_1 {α : Type} {x y z : α} : atI [x, y, z] 1 = some y := rfl
theorem a3_2 {α : Type} {x y z : α} : atI [x, y, z] 2 = some z := rfl
theorem iteTT {a b : Prop} : (if true = true then a else b) = a := rfl
theorem iteFF {a b : Prop} : (if false = true then a else b) = b := rfl
theorem iteTB {a b : Bool} : (if true = true then a else b) = a := rfl
theorem iteFB {a b : Bool} : (if false = true then a else b) = b := rfl
theorem iteTI {a b : Int} : (if true = true then a else b) = a := rfl
theorem iteFI {a b : Int} : (if false = true then a else b) = b := rfl
theorem bnd_some {α : Type} {a : α} {Q : α → Prop} : bnd (some a) Q = Q a := rfl
theorem compM {α : Type} {te : DE} {ρ : List Sl} {Q : List PyData → Prop} {g f : α → PyData} : ∀ {xs : List α} {acc : List PyData}, (∀ x ∈ xs, ∀ Q' : PyData → List Sl → Prop, Q' (f x) (ρ ++ [.sh (g x)]) → te (ρ ++ [.sh (g x)]) Q') → Q (acc ++ xs.map f) → dCompL dTrue te ρ Q (xs.map g) acc
  | [], acc, _, q => by
    have q' : Q (acc ++ []) := q
    rw [List.append_nil] at q'
    exact q'
  | x :: r, acc, h, q => by
    refine ⟨rfl, ?_⟩
    rw [if_pos rfl]
    refine h x List.mem_cons_self _ ⟨rfl, compM (fun y hy => h y (List.mem_cons_of_mem _ hy)) ?_⟩
    rw [List.append_assoc]
    exact q
end My
namespace My
open PySem L2
def dCompL3 (tt : DT) (te : DE) (ρ : List Sl) (Q : List PyData → Prop) : List PyData → List PyData → Prop
  | [], acc => Q acc
  | .tuple [x, y, z] :: r, acc => tt (ρ ++ [.sh x, .sh y, .sh z]) fun b ρ' => ρ' = ρ ++ [.sh x, .sh y, .sh z] ∧ if b = true then te (ρ ++ [.sh x, .sh y, .sh z]) fun d ρ'' => ρ'' = ρ ++ [.sh x, .sh y, .sh z] ∧ dCompL3 tt te ρ Q r (acc ++ [d]) else dCompL3 tt te ρ Q r acc
  | _ :: _, _ => False
def dCompT3 (it : DF) (tt : DT) (te : DE) (ρ : List Sl) (Q : List PyData → List Sl → Prop) : Prop := it ρ fun xs ρ1 => xs.length ≤ 1000 ∧ dCompL3 tt te ρ1 (fun ds => Q ds ρ1) xs []
section
variable {X : Cx} {C : DC}
end
section
variable {X : Cx} {C : DC}
open Classical in
end
end My
namespace My
open PySem L2
section
variable {X : Cx} {C : DC}
def gT5 (i j k l n : Nat)  (d : PyData) (ρ : List Sl) (Q : List Sl → Prop) : Prop := match d with
  | .tuple [a, b, c, e, f] => Q (((((ρ.set i (.sh a)).set j (.sh b)).set k (.sh c)).set l (.sh e)).set n (.sh f))
  | _ => False
def strsD : List PyData → Option (List Str)
  | [] => some []
  | .str b :: r => (strsD r).map (b :: ·)
  | _ :: _ => none
def gInS (neg : Bool)  (a b : PyData) (Q : PyData → Prop) : Prop := match a, b with
  | .str i, .tuple xs => bnd (strsD xs) fun ns => Q (.bool (if neg then !(inV (.str i) (ns.map V.str)) else inV (.str i) (ns.map V.str)))
  | _, _ => False
def gMaxP  (ds : List PyData) (Q : PyData → Prop) : Prop := match ds with
  | [.list xs] => xs ≠ [] ∧ (∀ x ∈ xs, ∃ i j : Int, x = .tuple [.int i, .int j]) ∧ ∀ x ∈ xs, Q x
  | _ => False
end
def spotD (b : Nat × Int) : PyData := .tuple [.int (b.1 : Nat), .int b.2]
end My
namespace My
open PySem L2
section
variable {X : Cx} {C : DC} {e : Expr} {u : DF}
def dPopI (i : Nat) (tk : DE)  (ρ : List Sl) (Q : PyData → List Sl → Prop) : Prop := match ρ[i]? with
  | some (.ow _) => tk ρ fun k ρ' => match ρ'[i]? with
    | some (.ow ds) => match k with
      | .int k => bnd (ixN ds.length k) fun j => bnd (ds[j]?) fun d => ds.length ≤ 1000 ∧ Q d (ρ'.set i (.ow (ds.eraseIdx j)))
      | _ => False
    | _ => False
  | _ => False
def dLrng (t : DE)  (ρ : List Sl) (Q : List PyData → List Sl → Prop) : Prop := t ρ fun d ρ' => match d with
  | .int n => (0 ≤ n ∧ n ≤ 1000) ∧ Q (rngD 0 n.toNat) ρ'
  | _ => False
end
end My
namespace My
open PySem L2
def zipD (xs ys : List PyData) : List PyData := (xs.zip ys).map fun p => .tuple [p.1, p.2]
theorem zipD_get {xs ys : List PyData} {i : Nat} {d : PyData} (h : (zipD xs ys)[i]? = some d) : ∃ x y, xs[i]? = some x ∧ ys[i]? = some y ∧ d = .tuple [x, y] := by
  unfold zipD at h
  rw [List.getElem?_map] at h
  cases q : (xs.zip ys)[i]? with
  | none => rw [q] at h; cases h
  | some p =>
    rw [q] at h
    cases h
    obtain ⟨e1, e2⟩ := List.getElem?_zip_eq_some.mp q
    exact ⟨p.1, p.2, e1, e2, rfl⟩
section
variable {X : Cx} {C : DC} {tg e : Expr} {t u : DE}
theorem it_zip {K : PySem.W.Frag} {a b : Addr} {vs ws : List V} {xs ys : List PyData} {P : List Pe} : ItOk C (Itz K a b) (zipD xs ys) (.n a (.lst vs) :: .s vs xs :: .n b (.lst ws) :: .s ws ys :: P) where
  go := fun {i ρ σ P' H} s R hi => by
    obtain ⟨col, r⟩ := R
    have h1 := r.pd _ (s _ List.mem_cons_self)
    have h2 : ThVs (Z col) H vs xs := r.pd _ (s _ (List.mem_cons_of_mem _ List.mem_cons_self))
    have h3 := r.pd _ (s _ (List.mem_cons_of_mem _ (List.mem_cons_of_mem _ List.mem_cons_self)))
    have h4 : ThVs (Z col) H ws ys := r.pd _ (s _ (List.mem_cons_of_mem _ (List.mem_cons_of_mem _ (List.mem_cons_of_mem _ List.mem_cons_self))))
    have l1 := h2.len
    have l2 := h4.len
    have hi' : i < min xs.length ys.length := by unfold zipD at hi; rw [List.length_map, List.length_zip] at hi; exact hi
    exact ⟨vs, ws, vs[i], ws[i], SqL.of h1.2.2, SqL.of h3.2.2, List.getElem?_eq_getElem (by lia), List.getElem?_eq_getElem (by lia)⟩
  yld := fun {i ρ σ P' H H' x d} s R hi y => by
    obtain ⟨p, v, w, rfl, hp, rfl, y⟩ := y
    obtain ⟨col, r⟩ := R
    have h1 := r.pd _ (s _ List.mem_cons_self)
    have h2 : ThVs (Z col) H vs xs := r.pd _ (s _ (List.mem_cons_of_mem _ List.mem_cons_self))
    have h3 := r.pd _ (s _ (List.mem_cons_of_mem _ (List.mem_cons_of_mem _ List.mem_cons_self)))
    have h4 : ThVs (Z col) H ws ys := r.pd _ (s _ (List.mem_cons_of_mem _ (List.mem_cons_of_mem _ (List.mem_cons_of_mem _ List.mem_cons_self))))
    obtain ⟨hx, hy⟩ := y vs ws (SqL.of h1.2.2) (SqL.of h3.2.2)
    obtain ⟨x, y', e1, e2, rfl⟩ := zipD_get hi
    obtain ⟨d1, q1, t1⟩ := h2.get hx
    obtain ⟨d2, q2, t2⟩ := h4.get hy
    rw [e1] at q1
    rw [e2] at q2
    cases q1
    cases q2
    exact ⟨col, r.tup (.cons t1 (.cons t2 .nil)) hp⟩
  stop := fun {ρ σ P' H} s R => by
    obtain ⟨col, r⟩ := R
    have h1 := r.pd _ (s _ List.mem_cons_self)
    have h2 : ThVs (Z col) H vs xs := r.pd _ (s _ (List.mem_cons_of_mem _ List.mem_cons_self))
    have h3 := r.pd _ (s _ (List.mem_cons_of_mem _ (List.mem_cons_of_mem _ List.mem_cons_self)))
    have h4 : ThVs (Z col) H ws ys := r.pd _ (s _ (List.mem_cons_of_mem _ (List.mem_cons_of_mem _ (List.mem_cons_of_mem _ List.mem_cons_self))))
    have l1 := h2.len
    have l2 := h4.len
    refine ⟨vs, ws, SqL.of h1.2.2, SqL.of h3.2.2, ?_⟩
    unfold zipD
    rw [List.length_map, List.length_zip]
    lia
def dZip (t u : DE)  (ρ : List Sl) (Q : List PyData → List Sl → Prop) : Prop := t ρ fun d ρ1 => u ρ1 fun d2 ρ2 => bnd (listD d) fun xs => bnd (listD d2) fun ys => Q (zipD xs ys) ρ2
theorem di_zip {K : PySem.W.Frag} (h : PI X tg e (iZip K (tCons (eOf C t) (tCons (eOf C u) tNil)))) : PI X tg e (iOf C (dZip t u)) := PI.wk h fun _ _ _ zz1 => el3 zz1 fun ρ P _ R ht k => ⟨ρ, P, _, R, ht, fun v d ρ1 H1 R1 h1 => ⟨ρ1, _, _, R1, h1, fun w d2 ρ2 H2 zz2 q => zz2.elim fun col r => by
  obtain ⟨xs, hx, q⟩ := bnd_of q
  obtain ⟨ys, hy, q⟩ := bnd_of q
  have := listD_eq hx
  subst this
  have := listD_eq hy
  subst this
  obtain ⟨b, ws, rfl, zb, e2, t2⟩ := th_lst (show ThV (Z col) H2 w (.list ys) from r.pd _ List.mem_cons_self)
  obtain ⟨a, vs, rfl, za, e1, t1⟩ := th_lst (show ThV (Z col) H2 v (.list xs) from r.pd _ (List.mem_cons_of_mem _ List.mem_cons_self))
  refine ⟨a, b, rfl, ⟨vs, SqL.of e1⟩, ⟨ws, SqL.of e2⟩, k _ ρ2 (.n a (.lst vs) :: .s vs xs :: .n b (.lst ws) :: .s ws ys :: P) H2 _ ⟨col, ?_⟩ (fun _ h => List.mem_cons_of_mem _ (List.mem_cons_of_mem _ (List.mem_cons_of_mem _ (List.mem_cons_of_mem _ h)))) it_zip q⟩
  have ok : ∀ (c : Addr) (o : HO), col c = 0 → H2 c = some o → PeR C col H2 (.n c o) := fun c o z e => ⟨by rw [z]; decide, r.notH (by rw [z]; decide), e⟩
  exact ((((r.sub fun _ h => List.mem_cons_of_mem _ (List.mem_cons_of_mem _ h)).add (x := .s ws ys) t2).add (x := .n b (.lst ws)) (ok b _ zb e2)).add (x := .s vs xs) t1).add (x := .n a (.lst vs)) (ok a _ za e1)⟩⟩
end
def dCompL2 (tt : DT) (te : DE) (ρ : List Sl) (Q : List PyData → Prop) : List PyData → List PyData → Prop
  | [], acc => Q acc
  | .tuple [x, y] :: r, acc => tt (ρ ++ [.sh x, .sh y]) fun b ρ' => ρ' = ρ ++ [.sh x, .sh y] ∧ if b = true then te (ρ ++ [.sh x, .sh y]) fun d ρ'' => ρ'' = ρ ++ [.sh x, .sh y] ∧ dCompL2 tt te ρ Q r (acc ++ [d]) else dCompL2 tt te ρ Q r acc
  | _ :: _, _ => False
def dCompT2 (it : DF) (tt : DT) (te : DE) (ρ : List Sl) (Q : List PyData → List Sl → Prop) : Prop := it ρ fun xs ρ1 => xs.length ≤ 1000 ∧ dCompL2 tt te ρ1 (fun ds => Q ds ρ1) xs []
theorem compL2_inv {tt : DT} {te : DE} {ρ : List Sl} {Q : List PyData → Prop} {dx : PyData} {r acc : List PyData} (h : dCompL2 tt te ρ Q (dx :: r) acc) : ∃ a b, dx = .tuple [a, b] := by
  cases dx with
  | tuple l =>
    match l, h with
    | [a, b], _ => exact ⟨a, b, rfl⟩
    | [], h => simp [dCompL2] at h
    | [_], h => simp [dCompL2] at h
    | _ :: _ :: _ :: _, h => simp [dCompL2] at h
  | _ => simp [dCompL2] at h
section
variable {X : Cx} {C : DC}
theorem Rel.ext2 {ρ : List Sl} {σ : St} {P : List Pe} {H : Hp} {v1 v2 : V} {a b : PyData} (R : ∃ col, RelC C col ρ σ P H ∧ ThV (Z col) H v1 a ∧ ThV (Z col) H v2 b) : Rel C (ρ ++ [.sh a, .sh b]) (σ ++ [some v1, some v2]) P H := by
  obtain ⟨col, r, t1, t2⟩ := R
  refine ⟨col, { r with sl := fun i s e => ?_, len := by rw [List.length_append, List.length_append, r.len]; rfl }⟩
  by_cases hi : i < ρ.length
  · rw [List.getElem?_append_left hi] at e
    rw [List.getElem?_append_left (by rw [← r.len]; exact hi)]
    exact r.sl i s e
  · rw [List.getElem?_append_right (by lia)] at e
    rw [List.getElem?_append_right (by rw [← r.len]; lia), ← r.len]
    match q : i - ρ.length with
    | 0 => rw [q] at e; cases e; exact ⟨_, rfl, t1⟩
    | 1 => rw [q] at e; cases e; exact ⟨_, rfl, t2⟩
    | n + 2 => rw [q] at e; simp at e
theorem comp_rdT2 {K : PySem.W.Frag} {it : DF} {tt : DT} {te : DE} {σ : St} {H : Hp} {Q : VK} (h : fOf C (dCompT2 it tt te) σ H Q) : tComp2 K (iOf C it) (fun _ => cOf C tt) (fun _ => eOf C te) σ H Q := by
  obtain ⟨ρ, P, Qd, R, ht, k⟩ := h
  refine ⟨ρ, P, _, R, ht, fun xs ρ1 P1 H1 J R1 s1 io q => ?_⟩
  obtain ⟨hx, q⟩ := q
  have lz : ∀ m, m ≤ 1000 → m ≤ sizeLine := fun m hm => Nat.le_of_lt (small1000 hm)
  refine ⟨fun i m ys H' => m = xs.length - i ∧ i ≤ xs.length ∧ ys.length ≤ i ∧ ∃ acc, Rel C ρ1 σ (.s ys acc :: P1) H' ∧ dCompL2 tt te ρ1 (fun ds => Qd ds ρ1) (xs.drop i) acc, ⟨xs.length, by simp, Nat.zero_le _, Nat.le_refl _, [], ?_, q⟩, ?_⟩
  · obtain ⟨col, r⟩ := R1
    exact ⟨col, r.add (x := .s [] []) .nil⟩
  rintro i m ys H2 ⟨rfl, hi, hy, acc, R2, q2⟩
  refine ⟨lz _ (by lia), ?_⟩
  have sub2 : ∀ p ∈ P1, p ∈ Pe.s ys acc :: P1 := fun _ h => List.mem_cons_of_mem _ h
  have hlen : ρ1.length = σ.length := by obtain ⟨col, r⟩ := R2; exact r.len
  by_cases hlt : i < xs.length
  · rw [List.drop_eq_getElem_cons hlt] at q2
    refine .inr ⟨io.go sub2 R2 hlt, fun ys' H' => ys'.length ≤ i + 1 ∧ ∃ acc, Rel C ρ1 σ (.s ys' acc :: P1) H' ∧ dCompL2 tt te ρ1 (fun ds => Qd ds ρ1) (xs.drop (i + 1)) acc, fun ys' H' zz3 => zz3.elim fun h1 h2 => ⟨xs.length - (i + 1), by lia, rfl, hlt, h1, h2⟩, fun x H3 y a => ?_⟩
    obtain ⟨col, r⟩ := io.yld sub2 R2 (List.getElem?_eq_getElem hlt) y
    have tx : ThV (Z col) H3 x xs[i] := r.pd _ List.mem_cons_self
    generalize xs[i] = dx at tx q2
    obtain ⟨d1, d2, rfl⟩ := compL2_inv q2
    · replace q2 : tt (ρ1 ++ [.sh d1, .sh d2]) _ := q2
      obtain ⟨pa, us, rfl, za, e1, t1⟩ := th_tup tx
      obtain ⟨y1, y2, rfl, u2, u3⟩ := ths2 t1
      refine ⟨pa, _, _, rfl, SqT.of e1, ?_⟩
      have R3 := Rel.ext2 ⟨col, (r.sub fun _ h => List.mem_cons_of_mem _ h), u2, u3⟩
      refine ⟨_, _, _, R3, q2, fun b ρ' H4 R4 q4 => ?_⟩
      obtain ⟨rfl, q4⟩ := q4
      cases b with
      | true =>
        refine iteT ⟨_, _, _, R4, by simpa using q4, fun v d ρ'' H5 R5 q5 => ?_⟩
        obtain ⟨rfl, q5⟩ := q5
        refine ⟨by rw [List.length_append]; simp; lia, acc ++ [d], ?_, q5⟩
        obtain ⟨col', r'⟩ := R5
        have w1 : ThV (Z col') H5 v d := r'.pd _ List.mem_cons_self
        have w2 : ThVs (Z col') H5 ys acc := r'.pd _ (List.mem_cons_of_mem _ List.mem_cons_self)
        exact ⟨col', ((r'.unext hlen).sub fun _ h => List.mem_cons_of_mem _ (List.mem_cons_of_mem _ h)).add (x := .s (ys ++ [v]) (acc ++ [d])) (w2.snoc w1)⟩
      | false =>
        refine iteF ⟨by lia, acc, ?_, by simpa using q4⟩
        obtain ⟨col', r'⟩ := R4
        exact ⟨col', r'.unext hlen⟩
  · have e : i = xs.length := by lia
    subst e
    rw [List.drop_length] at q2
    refine .inl ⟨io.stop sub2 R2, fun p hp => k _ _ _ _ _ ?_ hp q2⟩
    obtain ⟨col, r⟩ := R2
    exact ⟨col, r.sub fun p hp => List.mem_cons_of_mem _ (s1 p hp), r.pd _ List.mem_cons_self⟩
theorem pf_compT2 {e : Expr} {K : PySem.W.Frag} {it : DF} {tt : DT} {te : DE} (h : PE X e (tComp2 K (iOf C it) (fun _ => cOf C tt) (fun _ => eOf C te))) : PE X e (fOf C (dCompT2 it tt te)) := PE.wk h fun _ _ _ h => comp_rdT2 h
end
theorem compM2 {α : Type} {te : DE} {ρ : List Sl} {Q : List PyData → Prop} {g1 g2 f : α → PyData} : ∀ {xs : List α} {acc : List PyData}, (∀ x ∈ xs, ∀ Q' : PyData → List Sl → Prop, Q' (f x) (ρ ++ [.sh (g1 x), .sh (g2 x)]) → te (ρ ++ [.sh (g1 x), .sh (g2 x)]) Q') → Q (acc ++ xs.map f) → dCompL2 dTrue te ρ Q (xs.map fun x => .tuple [g1 x, g2 x]) acc
  | [], acc, _, q => by
    have q' : Q (acc ++ []) := q
    rw [List.append_nil] at q'
    exact q'
  | x :: r, acc, h, q => by
    refine ⟨rfl, ?_⟩
    rw [if_pos rfl]
    refine h x List.mem_cons_self _ ⟨rfl, compM2 (fun y hy => h y (List.mem_cons_of_mem _ hy)) ?_⟩
    rw [List.append_assoc]
    exact q
section
variable {X : Cx} {C : DC} {st : Stmt} {te : DE}
end
end My
namespace My
open PySem L2
section
variable {X : Cx} {C : DC} {st : Stmt}
def dIns (i : Nat) (tk te : DE)  (D : DEnds) (ρ : List Sl) : Prop := match ρ[i]? with
  | some (.ow _) => tk ρ fun k ρ1 => te ρ1 fun d ρ2 => match ρ2[i]? with
    | some (.ow ds) => ∃ n : Nat, k = .int ((n : Nat) : Int) ∧ n ≤ ds.length ∧ ds.length ≤ 1000 ∧ D.nx (ρ2.set i (.ow (ds.take n ++ [d] ++ ds.drop n)))
    | _ => False
  | _ => False
end
end My
namespace My
open PySem L2
section
variable {C : DC} {col col' : Addr → Nat} {ρ : List Sl} {σ σ' : St} {P : List Pe} {H H' : Hp} {p : Addr}
end
end My
namespace My
open PySem L2
section
variable {X : Cx} {C : DC} {a b e : Expr} {pos : Pos}
end
end My
namespace My
open PySem L2
section
variable {X : Cx} {C : DC} {e : Expr}
end
end My
namespace My
open PySem L2
section
variable {X : Cx} {C : DC} {st : Stmt} {e : Expr} {te : DE} {pos : Pos} {u : DA}
end
end My
namespace My
open PySem L2
section
variable {X : Cx} {C : DC} {e : Expr} {ta : DE}
end
end My
namespace My
abbrev Tb := List (Option Int)
abbrev Rn := List (Option Nat)
abbrev Wy := Nat × Nat × Int
def stepF (st lv c : Int) : Option Int := if lv + c < 0 then none else some (if st < lv + c then st else lv + c)
def gt {α : Type} (t : List (Option α)) (p : Nat) : Option α := (t[p]?).join
def behF (st : Int) (t : Tb) (w : Wy) : Option Int := match gt t w.1 with
  | none => none
  | some l => stepF st l w.2.2
def moreF : Option Int → Option Int → Bool
  | none, _ => false
  | some _, none => true
  | some a, some b => decide (b < a)
def leO (a b : Option Int) : Prop := moreF a b = false
theorem leO_some {a b : Int} : leO (some a) (some b) ↔ a ≤ b := by unfold leO moreF; simp
theorem leO_none {b : Option Int} : leO none b := rfl
theorem leO_sn {a : Int} : ¬ leO (some a) none := by unfold leO moreF; simp
theorem leO_refl (a : Option Int) : leO a a := by
  cases a with
  | none => rfl
  | some x => exact leO_some.mpr (Int.le_refl x)
theorem leO_trans {a b c : Option Int} (h1 : leO a b) (h2 : leO b c) : leO a c := by
  cases a with
  | none => rfl
  | some x =>
    cases b with
    | none => exact absurd h1 leO_sn
    | some y =>
      cases c with
      | none => exact absurd h2 leO_sn
      | some z => exact leO_some.mpr (Int.le_trans (leO_some.mp h1) (leO_some.mp h2))
theorem leO_anti {a b : Option Int} (h1 : leO a b) (h2 : leO b a) : a = b := by
  cases a with
  | none => cases b with
    | none => rfl
    | some y => exact absurd h2 leO_sn
  | some x => cases b with
    | none => exact absurd h1 leO_sn
    | some y => rw [Int.le_antisymm (leO_some.mp h1) (leO_some.mp h2)]
theorem more_le {a b : Option Int} (h : moreF a b = true) : leO b a := by
  cases a with
  | none => cases h
  | some x => cases b with
    | none => rfl
    | some y => unfold moreF at h; exact leO_some.mpr (by have := of_decide_eq_true h; lia)
theorem not_le {a b : Option Int} (h : moreF a b = true) : ¬ leO a b := fun z => by unfold leO at z; rw [z] at h; cases h
theorem le_or {a b : Option Int} : moreF a b = true ∨ leO a b := by
  cases e : moreF a b with
  | true => exact .inl rfl
  | false => exact .inr e
theorem step_bd {st l c x : Int} (h0 : 0 ≤ st) (h : stepF st l c = some x) : 0 ≤ x ∧ x ≤ st := by
  unfold stepF at h
  split at h
  · cases h
  · have := Option.some.inj h
    subst this
    split <;> lia
def leT (t u : Tb) : Prop := ∀ p, leO (gt t p) (gt u p)
theorem leT_refl (t : Tb) : leT t t := fun _ => leO_refl _
theorem beh_bd {st : Int} {t : Tb} {w : Wy} {x : Int} (h0 : 0 ≤ st) (h : behF st t w = some x) : 0 ≤ x ∧ x ≤ st := by
  unfold behF at h
  split at h
  · cases h
  · exact step_bd h0 h
structure TabOk (m : Nat) (st : Int) (t : Tb) : Prop where
  len : t.length = m
  bd : ∀ p x, gt t p = some x → 0 ≤ x ∧ x ≤ st
structure LandOk (m : Nat) (ws : List Wy) : Prop where
  m1 : 1 ≤ m
  m2 : m ≤ 12
  few : ws.length ≤ 40
  st : ∀ w ∈ ws, w.1 < m
  en : ∀ w ∈ ws, w.2.1 < m
  lo : ∀ w ∈ ws, -1000000000000000000 ≤ w.2.2
  hi : ∀ w ∈ ws, w.2.2 ≤ 1000000000000000000
theorem gt_out {α : Type} {t : List (Option α)} {p : Nat} (h : t.length ≤ p) : gt t p = none := by unfold gt; rw [List.getElem?_eq_none h]; rfl
theorem gt_at {α : Type} {t : List (Option α)} {p : Nat} (h : p < t.length) : t[p]? = some (gt t p) := by unfold gt; rw [List.getElem?_eq_getElem h]; rfl
theorem gt_set {α : Type} {t : List (Option α)} {i j : Nat} {x : Option α} (h : i < t.length) : gt (t.set i x) j = if i = j then x else gt t j := by
  unfold gt
  rw [List.getElem?_set]
  by_cases e : i = j
  · rw [if_pos e, if_pos h, if_pos e]; rfl
  · rw [if_neg e, if_neg e]
theorem gt_rep {α : Type} {m p : Nat} : gt (List.replicate m (none : Option α)) p = none := by
  unfold gt
  rw [List.getElem?_replicate]
  split <;> rfl
theorem tab_ext {t u : Tb} (hl : t.length = u.length) (h : ∀ p, gt t p = gt u p) : t = u := by
  apply List.ext_getElem?
  intro i
  by_cases hi : i < t.length
  · rw [gt_at hi, gt_at (by lia), h i]
  · rw [List.getElem?_eq_none (by lia), List.getElem?_eq_none (by lia)]
theorem tab_anti {t u : Tb} (hl : t.length = u.length) (h1 : leT t u) (h2 : leT u t) : t = u := tab_ext hl fun p => leO_anti (h1 p) (h2 p)
def rstep (st : Int) (t : Tb) (acc : Tb × Rn) (p : Wy × Nat) : Tb × Rn :=
  if moreF (behF st t p.1) (gt acc.1 p.1.2.1) = true then (acc.1.set p.1.2.1 (behF st t p.1), acc.2.set p.1.2.1 (some p.2)) else acc
def rowF (m : Nat) (ws : List Wy) (st : Int) (t s : Tb) : Tb × Rn := ws.zipIdx.foldl (rstep st t) (s, List.replicate m none)
structure RowI (m : Nat) (ws : List Wy) (st : Int) (t s : Tb) (L : List (Wy × Nat)) (acc : Tb × Rn) : Prop where
  l1 : acc.1.length = m
  l2 : acc.2.length = m
  up : leT s acc.1
  no : ∀ p, gt acc.2 p = none → gt acc.1 p = gt s p
  yes : ∀ p n, gt acc.2 p = some n → ∃ w, ws[n]? = some w ∧ w.2.1 = p ∧ gt acc.1 p = behF st t w ∧ moreF (behF st t w) (gt s p) = true
  top : ∀ q ∈ L, leO (behF st t q.1) (gt acc.1 q.1.2.1)
theorem row_step {m : Nat} {ws : List Wy} {st : Int} {t s : Tb} {L : List (Wy × Nat)} {acc : Tb × Rn} (ok : LandOk m ws) (I : RowI m ws st t s L acc) {q : Wy × Nat} (hq : ws[q.2]? = some q.1) : RowI m ws st t s (L ++ [q]) (rstep st t acc q) := by
  have hw : q.1 ∈ ws := List.mem_of_getElem? hq
  have he : q.1.2.1 < m := ok.en _ hw
  unfold rstep
  by_cases c : moreF (behF st t q.1) (gt acc.1 q.1.2.1) = true
  · rw [if_pos c]
    have g1 : ∀ j, gt (acc.1.set q.1.2.1 (behF st t q.1)) j = if q.1.2.1 = j then behF st t q.1 else gt acc.1 j := fun j => gt_set (by rw [I.l1]; exact he)
    have g2 : ∀ j, gt (acc.2.set q.1.2.1 (some q.2)) j = if q.1.2.1 = j then some q.2 else gt acc.2 j := fun j => gt_set (by rw [I.l2]; exact he)
    have hup : ∀ j, leO (gt acc.1 j) (gt (acc.1.set q.1.2.1 (behF st t q.1)) j) := fun j => by
      rw [g1]
      by_cases e : q.1.2.1 = j
      · rw [if_pos e, ← e]; exact more_le c
      · rw [if_neg e]; exact leO_refl _
    refine ⟨by rw [List.length_set]; exact I.l1, by rw [List.length_set]; exact I.l2, fun p => leO_trans (I.up p) (hup p), fun p hp => ?_, fun p n hp => ?_, fun r hr => ?_⟩
    · rw [g2] at hp
      by_cases e : q.1.2.1 = p
      · rw [if_pos e] at hp; cases hp
      · rw [if_neg e] at hp; rw [g1, if_neg e]; exact I.no p hp
    · rw [g2] at hp
      by_cases e : q.1.2.1 = p
      · rw [if_pos e] at hp
        cases hp
        refine ⟨q.1, hq, e, by rw [g1, if_pos e], ?_⟩
        rcases le_or (a := behF st t q.1) (b := gt s p) with z | z
        · exact z
        · exact absurd (leO_trans z (I.up p)) (not_le (e ▸ c))
      · rw [if_neg e] at hp; rw [g1, if_neg e]; exact I.yes p n hp
    · rcases List.mem_append.mp hr with hr | hr
      · exact leO_trans (I.top r hr) (hup _)
      · have : r = q := by simpa using hr
        subst this
        rw [g1, if_pos rfl]; exact leO_refl _
  · rw [if_neg c]
    refine ⟨I.l1, I.l2, I.up, I.no, I.yes, fun r hr => ?_⟩
    rcases List.mem_append.mp hr with hr | hr
    · exact I.top r hr
    · have : r = q := by simpa using hr
      subst this
      rcases le_or (a := behF st t r.1) (b := gt acc.1 r.1.2.1) with z | z
      · exact absurd z c
      · exact z
theorem row_fold {m : Nat} {ws : List Wy} {st : Int} {t s : Tb} (ok : LandOk m ws) : ∀ (R L : List (Wy × Nat)) (acc : Tb × Rn), RowI m ws st t s L acc → (∀ q ∈ R, ws[q.2]? = some q.1) → RowI m ws st t s (L ++ R) (R.foldl (rstep st t) acc)
  | [], L, acc, I, _ => by rw [List.append_nil]; exact I
  | q :: R, L, acc, I, h => by
    have := row_fold ok R (L ++ [q]) _ (row_step ok I (h q List.mem_cons_self)) fun r hr => h r (List.mem_cons_of_mem _ hr)
    rw [List.append_assoc] at this
    exact this
theorem row_ok {m : Nat} {ws : List Wy} {st : Int} {t s : Tb} (ok : LandOk m ws) (hs : s.length = m) : RowI m ws st t s ws.zipIdx (rowF m ws st t s) := by
  have h0 : RowI m ws st t s [] (s, List.replicate m none) := ⟨hs, by rw [List.length_replicate], leT_refl s, fun _ _ => rfl, fun p n h => (by rw [gt_rep] at h; cases h), fun q hq => (nomatch hq)⟩
  have := row_fold ok ws.zipIdx [] _ h0 fun q hq => by
    obtain ⟨w, n⟩ := q
    rw [List.mem_zipIdx_iff_getElem?] at hq
    exact hq
  rw [List.nil_append] at this
  exact this
theorem row_top {m : Nat} {ws : List Wy} {st : Int} {t s : Tb} (ok : LandOk m ws) (hs : s.length = m) {w : Wy} (hw : w ∈ ws) : leO (behF st t w) (gt (rowF m ws st t s).1 w.2.1) := by
  obtain ⟨n, hn, e⟩ := List.mem_iff_getElem.mp hw
  exact (row_ok ok hs).top (w, n) (by rw [List.mem_zipIdx_iff_getElem?]; show ws[n]? = some w; rw [List.getElem?_eq_getElem hn, e])
theorem row_tab {m : Nat} {ws : List Wy} {st : Int} {t s : Tb} (ok : LandOk m ws) (h0 : 0 ≤ st) (hs : TabOk m st s) : TabOk m st (rowF m ws st t s).1 := by
  have I := row_ok (st := st) (t := t) ok hs.len
  refine ⟨I.l1, fun p x h => ?_⟩
  cases e : gt (rowF m ws st t s).2 p with
  | none => rw [I.no p e] at h; exact hs.bd p x h
  | some n =>
    obtain ⟨w, _, _, e2, _⟩ := I.yes p n e
    rw [e2] at h
    exact beh_bd h0 h
abbrev Rw := Tb × Rn
inductive Rows (m : Nat) (ws : List Wy) (st : Int) (b : Tb) : List Rw → Prop
  | one : Rows m ws st b [(b, List.replicate m none)]
  | more {r rs} : Rows m ws st b (r :: rs) → (rowF m ws st r.1 r.1).1 ≠ r.1 → Rows m ws st b (rowF m ws st r.1 r.1 :: r :: rs)
section
variable {m : Nat} {ws : List Wy} {st : Int} {b : Tb}
end
end My
namespace My
abbrev Ef := Option (Int × Int × Int)
def passF (e : Ef) (x : Int) : Option Int := match e with
  | none => none
  | some (l, g, t) => if x < l then none else some (if t < x + g then t else x + g)
def joinF (a b : Ef) : Ef := match a, b with
  | some (l1, g1, t1), some (l2, g2, t2) => if t1 < l2 then none else some (if l2 - g1 > l1 then l2 - g1 else l1, g1 + g2, if t2 < t1 + g2 then t2 else t1 + g2)
  | _, _ => none
def oneF (st c : Int) : Ef := if st + c < 0 then none else some (if -c > 0 then -c else 0, c, if st + c < st then st + c else st)
def foF (st : Int) (w : Ef) (cs : List Int) : Ef := cs.foldl (fun w c => joinF w (oneF st c)) w
def fxF (st : Int) (cs : List Int) : Ef := foF st (some (0, 0, st)) cs
end My
namespace My
def wstN (ws : List Wy) (n : Nat) : Nat := match ws[n]? with
  | some w => w.1
  | none => 0
def wchN (ws : List Wy) (n : Nat) : Int := match ws[n]? with
  | some w => w.2.2
  | none => 0
def wlk (ws : List Wy) : List Rw → Nat → Nat × List Nat
  | [], p => (p, [])
  | r :: rs, p => match gt r.2 p with
    | none => wlk ws rs p
    | some n => ((wlk ws rs (wstN ws n)).1, (wlk ws rs (wstN ws n)).2 ++ [n])
section
variable {m : Nat} {ws : List Wy} {st : Int} {b : Tb}
end
def chs (ws : List Wy) (ns : List Nat) : List Int := ns.map (wchN ws)
section
variable {ws : List Wy} {st : Int} {b : Tb} {N : List Nat} {P : Nat → Nat} {L : Nat → Int}
end
def levF (st lv : Int) : List Int → List Int
  | [] => [lv]
  | c :: cs => match stepF st lv c with
    | none => [lv]
    | some x => lv :: levF st x cs
section
variable {m : Nat} {ws : List Wy} {st : Int} {b : Tb} {N : List Nat} {P : Nat → Nat} {L : Nat → Int}
end
end My
namespace My
abbrev Sp2 := Nat × Int
def baseF (m : Nat) (b : Sp2) : Tb := (List.replicate m none).set b.1 (some b.2)
def srF (m : Nat) (ws : List Wy) (st : Int) (b : Sp2) : Nat → Rw
  | 0 => (baseF m b, List.replicate m none)
  | k + 1 => rowF m ws st (srF m ws st b k).1 (List.replicate m none)
def skF (m : Nat) (ws : List Wy) (st : Int) (b : Sp2) (k : Nat) : Tb := (srF m ws st b k).1
def srs (m : Nat) (ws : List Wy) (st : Int) (b : Sp2) (n : Nat) : List Rw := (List.range n).map (srF m ws st b)
def enF (t : Tb) (g : Sp2) : Bool := match gt t g.1 with
  | none => false
  | some l => decide (g.2 ≤ l)
def goN (ws : List Wy) (st : Int) : List Nat → Sp2 → Option Sp2
  | [], q => some q
  | n :: ns, q => match ws[n]? with
    | none => none
    | some w => if w.1 = q.1 then (stepF st q.2 w.2.2).bind fun l => goN ws st ns (w.2.1, l) else none
section
variable {m : Nat} {ws : List Wy} {st : Int} {b g : Sp2}
theorem goN_snoc {w : Wy} {n : Nat} {l : Int} (hw : ws[n]? = some w) : ∀ {ns : List Nat} {q r : Sp2}, goN ws st ns q = some r → w.1 = r.1 → stepF st r.2 w.2.2 = some l → goN ws st (ns ++ [n]) q = some (w.2.1, l)
  | [], q, r, e, h1, h2 => by
    cases e
    show (match ws[n]? with
      | none => none
      | some w => if w.1 = q.1 then (stepF st q.2 w.2.2).bind fun l => goN ws st [] (w.2.1, l) else none) = _
    rw [hw]
    show (if w.1 = q.1 then (stepF st q.2 w.2.2).bind fun l => goN ws st [] (w.2.1, l) else none) = _
    rw [if_pos h1, h2]; rfl
  | k :: ns, q, r, e, h1, h2 => by
    have e' : (match ws[k]? with
      | none => none
      | some w => if w.1 = q.1 then (stepF st q.2 w.2.2).bind fun l => goN ws st ns (w.2.1, l) else none) = some r := e
    show (match ws[k]? with
      | none => none
      | some w => if w.1 = q.1 then (stepF st q.2 w.2.2).bind fun l => goN ws st (ns ++ [n]) (w.2.1, l) else none) = _
    cases hk : ws[k]? with
    | none => rw [hk] at e'; cases e'
    | some v =>
      rw [hk] at e'
      have e2 : (if v.1 = q.1 then (stepF st q.2 v.2.2).bind fun l => goN ws st ns (v.2.1, l) else none) = some r := e'
      show (if v.1 = q.1 then (stepF st q.2 v.2.2).bind fun l => goN ws st (ns ++ [n]) (v.2.1, l) else none) = _
      by_cases c : v.1 = q.1
      · rw [if_pos c] at e2 ⊢
        cases hs : stepF st q.2 v.2.2 with
        | none => rw [hs] at e2; cases e2
        | some x =>
          rw [hs] at e2
          exact goN_snoc hw (ns := ns) e2 h1 h2
      · rw [if_neg c] at e2; cases e2
theorem base_len : (baseF m b).length = m := by unfold baseF; rw [List.length_set, List.length_replicate]
theorem base_gt (hb : b.1 < m) {p : Nat} : gt (baseF m b) p = if b.1 = p then some b.2 else none := by
  unfold baseF
  rw [gt_set (by rw [List.length_replicate]; exact hb), gt_rep]
theorem sk_len (ok : LandOk m ws) : ∀ k, (skF m ws st b k).length = m
  | 0 => base_len
  | k + 1 => (row_ok (st := st) (t := skF m ws st b k) ok (List.length_replicate (a := (none : Option Int)))).l1
theorem sr_len2 (ok : LandOk m ws) : ∀ k, (srF m ws st b k).2.length = m
  | 0 => List.length_replicate
  | k + 1 => (row_ok (st := st) (t := skF m ws st b k) ok (List.length_replicate (a := (none : Option Int)))).l2
theorem sr_num (ok : LandOk m ws) : ∀ {k q n : Nat}, gt (srF m ws st b k).2 q = some n → n < ws.length
  | 0, q, n, h => by
    have h' : gt (List.replicate m (none : Option Nat)) q = some n := h
    rw [gt_rep] at h'; cases h'
  | k + 1, q, n, h => by
    obtain ⟨w, hw, _⟩ := (row_ok (st := st) (t := skF m ws st b k) ok (List.length_replicate (a := (none : Option Int)))).yes q n h
    exact (List.getElem?_eq_some_iff.mp hw).1
theorem srs_succ (n : Nat) : srs m ws st b (n + 1) = srs m ws st b n ++ [srF m ws st b n] := by unfold srs; rw [List.range_succ, List.map_append]; rfl
theorem sr_walk (ok : LandOk m ws) (hb : b.1 < m) : ∀ {k p : Nat} {l : Int}, gt (skF m ws st b k) p = some l → ∃ ns : List Nat, wlk ws (srs m ws st b (k + 1)).reverse p = (b.1, ns) ∧ ns.length = k ∧ goN ws st ns b = some (p, l) ∧ ∀ n ∈ ns, n < ws.length
  | 0, p, l, h => by
    have h' : gt (baseF m b) p = some l := h
    rw [base_gt hb] at h'
    by_cases c : b.1 = p
    · rw [if_pos c] at h'
      cases h'
      subst c
      refine ⟨[], ?_, rfl, rfl, fun n hn => nomatch hn⟩
      show (match gt (List.replicate m (none : Option Nat)) b.1 with
        | none => wlk ws [] b.1
        | some n => ((wlk ws [] (wstN ws n)).1, (wlk ws [] (wstN ws n)).2 ++ [n])) = _
      rw [gt_rep]; rfl
    · rw [if_neg c] at h'; cases h'
  | k + 1, p, l, h => by
    have I := row_ok (st := st) (t := skF m ws st b k) ok (List.length_replicate (n := m) (a := (none : Option Int)))
    have h' : gt (rowF m ws st (skF m ws st b k) (List.replicate m none)).1 p = some l := h
    cases e : gt (rowF m ws st (skF m ws st b k) (List.replicate m none)).2 p with
    | none =>
      have := I.no p e
      rw [h', gt_rep] at this; cases this
    | some n =>
      obtain ⟨w, hw, h1, h2, _⟩ := I.yes p n e
      rw [h'] at h2
      unfold behF at h2
      cases e3 : gt (skF m ws st b k) w.1 with
      | none => rw [e3] at h2; cases h2
      | some x =>
        rw [e3] at h2
        have h2' : stepF st x w.2.2 = some l := h2.symm
        obtain ⟨ns, a1, a2, a3, a4⟩ := sr_walk ok hb e3
        refine ⟨ns ++ [n], ?_, by rw [List.length_append, a2]; rfl, ?_, fun z hz => ?_⟩
        · rw [srs_succ, List.reverse_append]
          show (match gt (rowF m ws st (skF m ws st b k) (List.replicate m none)).2 p with
            | none => wlk ws (srs m ws st b (k + 1)).reverse p
            | some n => ((wlk ws (srs m ws st b (k + 1)).reverse (wstN ws n)).1, (wlk ws (srs m ws st b (k + 1)).reverse (wstN ws n)).2 ++ [n])) = _
          rw [e]
          show ((wlk ws (srs m ws st b (k + 1)).reverse (wstN ws n)).1, (wlk ws (srs m ws st b (k + 1)).reverse (wstN ws n)).2 ++ [n]) = _
          have : wstN ws n = w.1 := by unfold wstN; rw [hw]
          rw [this, a1]
        · rw [← h1]
          exact goN_snoc hw a3 rfl h2'
        · rcases List.mem_append.mp hz with z1 | z1
          · exact a4 z z1
          · have : z = n := by simpa using z1
            rw [this]
            exact (List.getElem?_eq_some_iff.mp hw).1
end
end My
namespace My
section
variable {ws : List Wy} {row : List Nat} {cs : List Int} {st sc gv x y : Int} {p0 : Nat}
end
end My
namespace My
section
variable {m : Nat} {row : List Nat} {cs : List Int} {sc gv : Int} {B S ws : List Wy}
end
section
variable {m : Nat} {ws : List Wy} {row : List Nat} {cs : List Int} {sc gv st x y : Int} {p0 pl : Nat}
end
end My
namespace My
section
variable {m : Nat} {ws : List Wy} {st : Int}
end
end My
namespace My
section
variable {m : Nat} {st : Int}
end
end My
namespace L2
open PySem PySem.Spec PyProof.Rows
end L2
namespace My
open PySem L2
section
variable {X : Cx} {C : DC}
variable {st : Stmt} {te : DE}
end
end My
namespace My
open PySem L2
section
variable {X : Cx} {C : DC} {st : Stmt} {te : DE} {tg e : Expr} {u : DF}
end
end My
namespace My
open PySem L2
section
variable {C : DC}
section
variable {X : Cx} {st : Stmt} {ta : DF}
variable {a b : Expr} {te : DE} {pos : Pos}
end
end
section
variable {X : Cx} {C : DC} {st : Stmt} {te : DE}
end
section
variable {C : DC}
end
section
variable {X : Cx} {C : DC}
end
end My
namespace My
open PySem L2
section
variable {C : DC}
end
section
variable {X : Cx} {C : DC} {st : Stmt} {te : DE}
end
section
variable {C : DC}
end
section
variable {C : DC} {col col2 : Addr → Nat} {ρ : List Sl} {σ : St} {P : List Pe} {H H2 : Hp} {i : Nat} {ds : List PyData} {a : Addr} {vs : List V}
variable {X : Cx} {e : Expr}
end
end My
namespace L2
open PySem PySem.Spec PyProof.Rows
section
variable {κ : Type} [DecidableEq κ]
end
section
variable {P : Program} {w : World} {H : Hp} {h : Heap} {a : Addr}
end
section
variable {X : Cx} {pins : List (Addr × Obj)} {σ : St} {H : Hp} {s : Shared} {a : Addr} {y v : V} {u r : Value} {o : Option V} {A : Around} {E : Value → Shared → Prop}
end
section
variable {X : Cx} {pins : List (Addr × Obj)} {σ : St} {H : Hp} {s : Shared} {a : Addr} {kvs : List (Key × V)} {k : Key} {u : Value} {A : Around} {E : Value → Shared → Prop}
end
section
variable {X : Cx} {o i e value : Expr} {pos pos' tpos : Pos} {td ty tv : TE}
end
section
variable {X : Cx} {pos : Pos}
end
section
variable {X : Cx} {pins : List (Addr × Obj)} {σ : St} {H : Hp} {s : Shared} {a : Addr} {y d : V} {u r : Value} {o : Option V} {A : Around} {E : Value → Shared → Prop}
end
section
variable {X : Cx} {o e f : Expr} {apos cpos : Pos} {td ty tx : TE}
end
section
variable {X : Cx} {pins : List (Addr × Obj)} {σ : St} {H : Hp} {s : Shared} {a : Addr} {kvs : List (Key × V)} {A : Around} {E : Value → Shared → Prop}
end
section
variable {X : Cx} {pins : List (Addr × Obj)} {σ : St} {H : Hp} {s : Shared} {a : Addr} {y : V} {u : Value} {A : Around} {E : Value → Shared → Prop}
end
end L2
namespace L2
open PySem PySem.Spec PyProof.Rows
section
variable {prog : Program} {w : World} {A : Around} {E : Value → Shared → Prop} {s : Shared}
end
end L2
namespace My
open PySem L2
section
variable {C : DC} {col : Addr → Nat} {ρ : List Sl} {σ : St} {P : List Pe} {H H' : Hp} {p : Addr}
end
open PySem.Spec PyProof.Rows
section
variable {P : Program} {w : World} {K : PySem.W.Frag} {mg : Str → Option Value} {base : Heap}
open Classical in
end
section
variable {X : Cx} {C : DC} {st : Stmt} {e a b : Expr} {te tk : DE} {u : DA} {pos : Pos}
end
end My
namespace My
open PySem L2
mutual
def lstsD : PyData → List (List PyData)
  | .list ds => ds :: lstsL ds
  | .tuple ds => lstsL ds
  | _ => []
def lstsL : List PyData → List (List PyData)
  | [] => []
  | d :: ds => lstsD d ++ lstsL ds
end
mutual
def szD : PyData → Nat
  | .list ds => szL ds + 1
  | .tuple ds => szL ds + 1
  | _ => 1
def szL : List PyData → Nat
  | [] => 0
  | d :: ds => szD d + szL ds
end
section
variable {X : Cx} {C : DC} {st : Stmt} {u : DA}
variable {a b : Expr} {tb : DE} {pos : Pos}
def dEqV (neg : Bool) (i : Nat) (tb : DE)  (ρ : List Sl) (Q : PyData → List Sl → Prop) : Prop := bnd (slotD ρ i) fun _ => tb ρ fun b ρ1 => bnd (slotD ρ1 i) fun a => gEq neg a b fun d => Q d ρ1
variable {a b : Expr} {tb : DE} {pos : Pos}
end
end My
namespace L2
open PySem PySem.Spec PyProof.Rows
end L2
namespace My
open PySem L2
open PySem.Spec PyProof.Rows
section
variable {C : DC} {col : Addr → Nat} {ρ : List Sl} {σ : L2.St} {P : List Pe} {H H' : Hp} {p : Addr}
end
section
variable {X : Cx} {C : DC} {st : Stmt} {e : Expr} {te : DE} {u : DA} {pos : Pos}
end
end My
namespace My
open PySem L2
section
variable {X : Cx} {C : DC} {st : Stmt} {e : Expr} {ta : DE}
end
end My
namespace My
open PySem L2
section
variable {X : Cx} {C : DC} {st : Stmt} {e : Expr} {ta : DE}
end
end My
namespace My
abbrev Ct := List (List (Option Int))
abbrev Spt := Nat × Nat
def ca (t : Ct) (s : Spt) : Option Int := gt (t.getD s.1 []) s.2
end My
namespace My
open PySem L2
def covF (t b : Tb) : Bool := !((b.zip t).any fun p => moreF p.1 p.2)
def witF (ws : List Wy) (st : Int) (t l : Tb) : Bool := !(ws.any fun w => moreF (behF st t w) (gt l w.2.1))
theorem cov_iff {t b : Tb} (h : t.length = b.length) : covF t b = true ↔ leT b t := by
  unfold covF
  rw [Bool.not_eq_true', List.any_eq_false]
  constructor
  · intro z p
    by_cases hp : p < b.length
    · have hp' : p < t.length := by omega
      have := z (b[p], t[p]) (by
        rw [List.mem_iff_getElem]
        exact ⟨p, by rw [List.length_zip]; omega, by rw [List.getElem_zip]⟩)
      have e1 : gt b p = b[p] := by unfold gt; rw [List.getElem?_eq_getElem hp]; rfl
      have e2 : gt t p = t[p] := by unfold gt; rw [List.getElem?_eq_getElem hp']; rfl
      rw [e1, e2]
      exact Bool.eq_false_iff.mpr this
    · rw [gt_out (by omega)]; exact leO_none
  · intro z q hq
    obtain ⟨p, hp, e⟩ := List.mem_iff_getElem.mp hq
    rw [List.length_zip] at hp
    rw [List.getElem_zip] at e
    have e1 : gt b p = b[p] := by unfold gt; rw [List.getElem?_eq_getElem (by omega)]; rfl
    have e2 : gt t p = t[p] := by unfold gt; rw [List.getElem?_eq_getElem (by omega)]; rfl
    have := z p
    rw [e1, e2] at this
    subst e
    exact Bool.eq_false_iff.mp this
theorem wit_iff {ws : List Wy} {st : Int} {t l : Tb} : witF ws st t l = true ↔ ∀ w ∈ ws, leO (behF st t w) (gt l w.2.1) := by
  unfold witF
  rw [Bool.not_eq_true', List.any_eq_false]
  exact ⟨fun z w hw => Bool.eq_false_iff.mpr (z w hw), fun z w hw => Bool.eq_false_iff.mp (z w hw)⟩
end My
namespace My
open PySem L2
end My
namespace L2
open PySem PySem.Spec PyProof.Rows
section
variable {X : Cx}
end
end L2
namespace My
open PySem L2
section
variable {C : DC}
end
end My
namespace L2
open PySem PySem.Spec PyProof.Rows
section
variable {X : Cx} {pins : List (Addr × Obj)} {σ : St} {H : Hp} {s : Shared}
end
section
variable {X : Cx}
end
end L2
namespace L2
open PySem PySem.Spec PyProof.Rows
section
variable {prog : Program} {w : World} {K : Type} [DecidableEq K] {knd : HeapKind prog w K} {A : Around} {E : Value → Shared → Prop} {s : Shared}
end
section
variable {X : Cx} {pins : List (Addr × Obj)} {σ : St} {H : Hp} {s : Shared} {a b : Addr} {kvs : List (List Key × V)} {k : List Key} {A : Around} {E : Value → Shared → Prop}
end
section
variable {prog : Program} {w : World} {A : Around} {E : Value → Shared → Prop} {s : Shared}
end
end L2
namespace L2
open PySem PySem.Spec PyProof.Rows
section
variable {prog : Program} {w : World} {A : Around} {E : Value → Shared → Prop} {s : Shared}
end
section
variable {prog : Program} {w : World} {A : Around} {E : Value → Shared → Prop} {s : Shared}
end
section
variable {prog : Program} {w : World} {A : Around} {R : Result → Shared → Prop} {I : Addr} {fp wr : List Addr} {n : Nat} {P : Nat → Value → Prop} {St : Nat → Heap → Prop}
end
section
variable {X : Cx}
end
end L2
namespace My
open PySem L2
open PySem.Spec PyProof.Rows
mutual
def flatD : PyData → Bool
  | .none => true
  | .bool _ => true
  | .int _ => true
  | .str _ => true
  | .tuple xs => flatL xs
  | .list _ => false
  | .dict _ => false
def flatL : List PyData → Bool
  | [] => true
  | d :: ds => flatD d && flatL ds
end
mutual
theorem ThV.flat {F G : Addr → Prop} {H : Hp} (ft : ∀ b xs, H b = some (.tup xs) → F b) : ∀ {v : V} {d : PyData}, ThV G H v d → flatD d = true → ThV F H v d
  | _, _, .non, _ => .non
  | _, _, .bl b, _ => .bl b
  | _, _, .int i, _ => .int i
  | _, _, .str x, _ => .str x
  | _, _, .lst _ _ _, h => by rw [flatD] at h; cases h
  | _, _, .tup _ e t, h => .tup (ft _ _ e) e (ThVs.flat ft t (by rw [flatD] at h; exact h))
  | _, _, .dic _ _ _, h => by rw [flatD] at h; cases h
theorem ThVs.flat {F G : Addr → Prop} {H : Hp} (ft : ∀ b xs, H b = some (.tup xs) → F b) : ∀ {vs : List V} {ds : List PyData}, ThVs G H vs ds → flatL ds = true → ThVs F H vs ds
  | _, _, .nil, _ => .nil
  | _, _, .cons x t, h => by
    rw [flatL, Bool.and_eq_true] at h
    exact .cons (ThV.flat ft x h.1) (ThVs.flat ft t h.2)
end
open Classical in
theorem RelC.norm0 {C : DC} {col : Addr → Nat} {ρ : List Sl} {σ : L2.St} {P : List Pe} {H : Hp} (r : RelC C col ρ σ P H) : ∃ col', RelC C col' ρ σ P H ∧ (∀ b xs, H b = some (.tup xs) → col' b = 0) ∧ ∀ b, C.H0 b ≠ none → col' b ≤ 1 := by
  obtain ⟨col, r, tp⟩ := r.norm
  let col' : Addr → Nat := fun b => if C.H0 b ≠ none ∧ 1 < col b then 1 else col b
  have c0 : ∀ b, C.H0 b = none → col' b = col b := fun b h => if_neg fun z => z.1 h
  have c1 : ∀ b, col b ≤ 1 → col' b = col b := fun b h => if_neg fun z => absurd z.2 (by lia)
  have lo : ∀ b, col b ≤ 1 → col' b ≤ 1 := fun b h => by rw [c1 b h]; exact h
  have z0 : ∀ b, col' b = 0 → col b = 0 := fun b h => by
    by_cases q : C.H0 b ≠ none ∧ 1 < col b
    · have h : (if C.H0 b ≠ none ∧ 1 < col b then 1 else col b) = 0 := h
      rw [if_pos q] at h; cases h
    · have h : (if C.H0 b ≠ none ∧ 1 < col b then 1 else col b) = 0 := h
      rw [if_neg q] at h; exact h
  have mv0 : ∀ b o, Z col b → H b = some o → Z col' b ∧ H b = some o := fun b o z e => ⟨(c1 b (by rw [show col b = 0 from z]; decide)).trans z, e⟩
  refine ⟨col', ⟨fun b hb => (c1 b (by rw [r.fresh b hb]; decide)).trans (r.fresh b hb), fun b hb => r.inF b (z0 b hb), fun q hq => (c1 _ (by rw [r.hnd q hq]; decide)).trans (r.hnd q hq), fun i s e => ?_, fun p hp => ?_, r.kq, r.hq, r.hq0, r.nf, r.len⟩, fun b xs e => (c1 b (by rw [tp b xs e]; decide)).trans (tp b xs e), fun b hb => ?_⟩
  · have h := r.sl i s e
    cases s with
    | no => trivial
    | sh d => obtain ⟨v, e1, t⟩ := h; exact ⟨v, e1, t.mv mv0⟩
    | ow ds => obtain ⟨a, vs, e1, c, n, e2, t⟩ := h; exact ⟨a, vs, e1, (c0 a n).trans c, n, e2, t.mv mv0⟩
    | bo ds => obtain ⟨a, vs, e1, c, n, e2, t⟩ := h; exact ⟨a, vs, e1, lo a c, n, e2, t.mv mv0⟩
    | hd => exact h
    | o2 dss => obtain ⟨a, as, e1, c, e2, nd, t⟩ := h; exact ⟨a, as, e1, ⟨(c0 a c.2).trans c.1, c.2⟩, e2, nd, t.mv mv0 fun b o g e => ⟨⟨(c0 b g.2).trans g.1, g.2⟩, e⟩⟩
    | b2 dss => obtain ⟨a, as, e1, c, e2, t⟩ := h; exact ⟨a, as, e1, ⟨lo a c.1, c.2⟩, e2, t.mv mv0 fun b o g e => ⟨⟨lo b g.1, g.2⟩, e⟩⟩
    | di f ks => obtain ⟨a, e1, c, n, e2⟩ := h; exact ⟨a, e1, (c0 a n).trans c, n, e2⟩
    | dm f ks => obtain ⟨a, e1, c, n, e2⟩ := h; exact ⟨a, e1, (c0 a n).trans c, n, e2⟩
    | bd d => exact h
    | ot d => obtain ⟨v, e1, t⟩ := h; exact ⟨v, e1, t.mv fun b o g e => ⟨g.imp (fun g => ⟨(c0 b g.2).trans g.1, g.2⟩) fun g => ⟨(c1 b (by rw [g.1]; decide)).trans g.1, g.2⟩, e⟩⟩
    | ob R => obtain ⟨v, e1, t⟩ := h; exact ⟨v, e1, R.mv (fun b o g e => ⟨g.imp (fun g => ⟨(c0 b g.2).trans g.1, g.2⟩) fun g => ⟨(c1 b (by rw [g.1]; decide)).trans g.1, g.2⟩, e⟩) t⟩
  · have h := r.pd p hp
    cases p with
    | v v d => exact ThV.mv mv0 h
    | n a o => exact ⟨lo a h.1, h.2⟩
    | s vs ds => exact ThVs.mv mv0 h
    | o c as dss => exact ⟨h.1, h.2.mv mv0 fun b o g e => ⟨⟨(c0 b g.2).trans g.1, g.2⟩, e⟩⟩
    | w v d => exact h
  · show (if C.H0 b ≠ none ∧ 1 < col b then 1 else col b) ≤ 1
    split
    · exact Nat.le_refl _
    · rename_i q
      rcases Nat.lt_or_ge 1 (col b) with z | z
      · exact absurd ⟨hb, z⟩ q
      · exact z
def lOf (C : DC) (t : DE) : TE := fun σ H Q => ∃ ρ P Qd, Rel C ρ σ P H ∧ t ρ Qd ∧ ∀ v d ρ' H', Rel C ρ' σ (.w v d :: P) H' → Qd d ρ' → Q v H'
section
variable {X : Cx} {C : DC} {e a b : Expr} {es : List Expr} {t ta tb te : DE} {u : DA} {pos : Pos} {st : Stmt} {tg : Expr}
def dLVar (i : Nat) (ρ : List Sl) (Q : PyData → List Sl → Prop) : Prop := bnd (lentD ρ i) fun d => Q d ρ
theorem pl_var {i : Nat} (h : PE X e (tVar i)) : PE X e (lOf C (dLVar i)) := PE.wk h fun σ H Q z => el3 z fun ρ P Qd R ht k => R.elim fun col r => by
  obtain ⟨d, hd, q⟩ := bnd_of ht
  obtain ⟨v, ev, t⟩ := r.lent hd
  exact ⟨v, ev, k _ _ _ _ ⟨col, r.add (x := .w v d) t⟩ q⟩
theorem RelC.ixL {K : PySem.W.Frag} {F : Addr → Prop} {col : Addr → Nat} {ρ : List Sl} {σ : L2.St} {P : List Pe} {H : Hp} {v w : V} {a b d : PyData} (r : RelC C col ρ σ P H) (t1 : ThV (Le C) C.H0 v a) (t2 : ThV F H w b) (h : ixD a b = some d) : ∃ u, ThV (Le C) C.H0 u d ∧ ∀ Q : VK, Q u H → rIx K v w H Q := by
  unfold ixD at h
  split at h
  · cases t2
    obtain ⟨p, vs, rfl, n, e, t⟩ := th_lst t1
    obtain ⟨u, hu, tu⟩ := atI_th t h
    exact ⟨u, tu, fun Q q => .inl ⟨p, vs, _, u, rfl, rfl, SqL.of (r.kq p _ e n.2), hu, q⟩⟩
  · cases t2
    obtain ⟨p, vs, rfl, n, e, t⟩ := th_tup t1
    obtain ⟨u, hu, tu⟩ := atI_th t h
    exact ⟨u, tu, fun Q q => .inr (.inl ⟨p, vs, _, u, rfl, rfl, SqT.of (r.kq p _ e n.2), hu, q⟩)⟩
  · cases h
def dIxL (ta tb : DE)  (ρ : List Sl) (Q : PyData → List Sl → Prop) : Prop := ta ρ fun a ρ1 => tb ρ1 fun b ρ2 => bnd (ixD a b) fun d => Q d ρ2
theorem pl_ix (ha : PE X a (lOf C ta)) (hb : PE X b (eOf C tb)) (hs : PlainIx b) : PE X (.Subscript a b pos) (lOf C (dIxL ta tb)) := PE.wk (pe_ix ix_seq ha hb hs) fun _ _ _ z => el3 z fun ρ P _ R ht k => ⟨ρ, P, _, R, ht, fun v _ ρ1 H1 R1 h1 => ⟨ρ1, _, _, R1, h1, fun w _ ρ2 H2 R2 h2 => R2.elim fun col r => by
  obtain ⟨d, hd, q⟩ := bnd_of h2
  obtain ⟨x, tu, f⟩ := r.ixL (K := X.K) (r.pd _ (List.mem_cons_of_mem _ List.mem_cons_self)) (show ThV (Z col) H2 w _ from r.pd _ List.mem_cons_self) hd
  exact f _ (k _ _ _ _ ⟨col, (r.sub fun _ h => List.mem_cons_of_mem _ (List.mem_cons_of_mem _ h)).add (x := .w x d) tu⟩ q)⟩⟩
def dFlat (t : DE)  (ρ : List Sl) (Q : PyData → List Sl → Prop) : Prop := t ρ fun d ρ' => flatD d = true ∧ Q d ρ'
theorem pd_flat (h : PE X e (lOf C t)) : PE X e (eOf C (dFlat t)) := PE.wk h fun _ _ _ z => el3 z fun ρ P _ R ht k => ⟨ρ, P, _, R, ht, fun v d ρ' H' R' q => R'.elim fun col0 r0 => by
  obtain ⟨col, r, tp, _⟩ := r0.norm0
  exact k _ _ _ _ ⟨col, (r.sub fun _ h => List.mem_cons_of_mem _ h).push ((r.le (r.pd _ List.mem_cons_self)).flat tp q.1)⟩ q.2⟩
def dLenL (t : DE)  (ρ : List Sl) (Q : PyData → List Sl → Prop) : Prop := t ρ fun d ρ' => bnd (lenD d) fun n => Q (.int n) ρ'
def dIsiL (t : DE) (T : String)  (ρ : List Sl) (Q : PyData → List Sl → Prop) : Prop := t ρ fun a ρ' => Q (.bool (isiD T a)) ρ'
def dIsNL (neg : Bool) (t : DE)  (ρ : List Sl) (Q : PyData → List Sl → Prop) : Prop := t ρ fun a ρ' => Q (.bool (if neg then !isN a else isN a)) ρ'
def dListL (t : DE)  (ρ : List Sl) (Q : List PyData → List Sl → Prop) : Prop := t ρ fun d ρ' => bnd (itemsD d) fun ds => flatL ds = true ∧ Q ds ρ'
def dIL (t : DE)  (ρ : List Sl) (Q : List PyData → List Sl → Prop) : Prop := t ρ fun d ρ' => bnd (listD d) fun xs => flatL xs = true ∧ Q xs ρ'
def dEnumL (t : DE)  (ρ : List Sl) (Q : List PyData → List Sl → Prop) : Prop := t ρ fun d ρ' => bnd (listD d) fun xs => flatL xs = true ∧ Q (enumD xs) ρ'
theorem di_enumL {K : PySem.W.Frag} (h : PI X tg e (iEnum K (tCons (lOf C t) tNil))) : PI X tg e (iOf C (dEnumL t)) := PI.wk h fun _ _ _ z => el3 z fun ρ P _ R ht k => ⟨ρ, P, _, R, ht, fun v d ρ' H' R' q => R'.elim fun col0 r0 => by
  obtain ⟨xs, hx, hf, q2⟩ := bnd_of q
  have := listD_eq hx
  subst this
  obtain ⟨col, r, tp, lo⟩ := r0.norm0
  obtain ⟨a, vs, rfl, n, e1, t1⟩ := th_lst (r.le (r.pd _ List.mem_cons_self))
  refine ⟨a, rfl, ⟨vs, SqL.of e1⟩, k _ ρ' (.n a (.lst vs) :: .s vs xs :: P) H' _ ⟨col, ?_⟩ (fun _ h => List.mem_cons_of_mem _ (List.mem_cons_of_mem _ h)) it_enum q2⟩
  exact ((r.sub fun _ h => List.mem_cons_of_mem _ h).add (x := .s vs xs) (t1.flat tp hf)).add (x := .n a (.lst vs)) ⟨lo a n.1, n.2, e1⟩⟩
def aW (t : DE) (u : DA)  (ρ : List Sl) (Q : List Ar → List Sl → Prop) : Prop := t ρ fun d ρ1 => u ρ1 fun as ρ2 => Q (.w d :: as) ρ2
end
end My
namespace My
open PySem L2
def ownS (C : DC) (col : Addr → Nat) (i : Nat) (b : Addr) : Prop := col b = 2 * i + 3 ∧ C.H0 b = none
open Classical in
noncomputable def ldC (C : DC) (col : Addr → Nat) (H : Hp) (i : Nat) : DC := ⟨fun b => C.F b ∧ ¬ ownS C col i b, C.hand, fun b => if ownS C col i b ∨ (∃ xs, H b = some (.tup xs)) then H b else C.H0 b⟩
def noBB : List Sl → Bool
  | [] => true
  | .b2 _ :: _ => false
  | .no :: r => noBB r
  | .sh _ :: r => noBB r
  | .ow _ :: r => noBB r
  | .bo _ :: r => noBB r
  | .hd :: r => noBB r
  | .o2 _ :: r => noBB r
  | .di _ _ :: r => noBB r
  | .dm _ _ :: r => noBB r
  | .bd _ :: r => noBB r
  | .ot _ :: r => noBB r
  | .ob _ :: r => noBB r
section
variable {C : DC} {col col2 : Addr → Nat} {ρ : List Sl} {σ : L2.St} {P : List Pe} {H H2 : Hp} {i : Nat} {d : PyData}
open Classical in
open Classical in
end
end My
namespace My
open PySem L2
section
variable {X : Cx} {C : DC} {e : Expr} {st : Stmt} {t te : DE} {u : DA} {i : Nat}
def dLendE (i : Nat) (t : DE)  (ρ : List Sl) (Q : PyData → List Sl → Prop) : Prop := match ρ[i]? with
  | some (.ot d) => noBB ρ = true ∧ t (ρ.set i (.bd d)) fun d' ρ' => ρ' = ρ.set i (.bd d) ∧ Q d' ρ
  | _ => t ρ Q
def flatM : List Md → List PyData → Bool
  | [], [] => true
  | .sh :: ms, d :: ds => flatD d && flatM ms ds
  | .bo :: ms, .list es :: ds => flatL es && flatM ms ds
  | .bd :: ms, _ :: ds => flatM ms ds
  | .hd :: ms, _ :: ds => flatM ms ds
  | _, _ => false
def dNewT (i : Nat) (ms : List Md) (sp : DSp) (u : DA)  (D : DEnds) (ρ : List Sl) : Prop := u ρ fun as ρ' => bnd (arsD ρ' ms as) fun ds => flatM ms ds = true ∧ sp ds fun d => D.nx (ρ'.set i (.ot d))
open Classical in
mutual
def skelD : PyData → PyData
  | .tuple xs => .tuple (skelL xs)
  | .list _ => .list []
  | .none => .none
  | .bool b => .bool b
  | .int i => .int i
  | .str s => .str s
  | .dict d => .dict d
def skelL : List PyData → List PyData
  | [] => []
  | d :: ds => skelD d :: skelL ds
end
end
end My
namespace My
open PySem L2
section
variable {X : Cx} {C : DC} {e : Expr} {st : Stmt} {t te : DE} {u : DA} {i : Nat}
def dMutA (i : Nat) (c : Int) (te : DE) (D : DEnds) (ρ : List Sl) : Prop := match ρ[i]? with
  | some (.ot (.tuple xs)) => noBB ρ = true ∧ match atI xs c with
    | some (.list ds) => (flatL ds = true ∧ ds.length ≤ 100000) ∧ te (ρ.set i (.bd (.tuple xs))) fun d' ρ' => ρ' = ρ.set i (.bd (.tuple xs)) ∧ flatD d' = true ∧ ∀ xs', skelL xs' = skelL xs → D.nx (ρ.set i (.ot (.tuple xs')))
    | _ => False
  | _ => False
open Classical in
def dMutN (i : Nat) (c : Int) (te : DE) (D : DEnds) (ρ : List Sl) : Prop := match ρ[i]? with
  | some (.ot (.tuple xs)) => noBB ρ = true ∧ match atI xs c with
    | some (.list ds) => ds.length ≤ 100000 ∧ te (ρ.set i (.bd (.tuple xs))) fun d' ρ' => ρ' = ρ.set i (.bd (.tuple xs)) ∧ D.nx (ρ.set i .no)
    | _ => False
  | _ => False
open Classical in
def dMutC (i : Nat) (c : Int) (D : DEnds) (ρ : List Sl) : Prop := match ρ[i]? with
  | some (.ot (.tuple xs)) => match atI xs c with
    | some (.list _) => ∀ xs', skelL xs' = skelL xs → D.nx (ρ.set i (.ot (.tuple xs')))
    | _ => False
  | _ => False
end
end My
namespace L2
open PySem PySem.Spec PyProof.Rows
section
variable {X : Cx}
end
end L2
namespace My
open PySem L2
section
variable {X : Cx} {C : DC} {a b : Expr} {te : DE} {pos : Pos} {i : Nat}
def dNinD (te : DE) (i : Nat) (ρ : List Sl) (Q : PyData → List Sl → Prop) : Prop := te ρ fun d ρ1 => bnd (slotD ρ1 i) fun a => bnd (listD a) fun xs => (PyData.canLayAll0 xs = true ∧ d.canLay0 = true ∧ d.depth ≤ 60) ∧ Q (.bool (!(xs.any fun z => PyData.eqv z d))) ρ1
end
end My
namespace My
open PySem L2
section
variable {X : Cx} {C : DC} {e a b : Expr} {t : DE} {tt : DT} {i : Nat} {pos : Pos}
def dLendB (i : Nat) (tt : DT)  (ρ : List Sl) (Q : Bool → List Sl → Prop) : Prop := match ρ[i]? with
  | some (.ot d) => noBB ρ = true ∧ tt (ρ.set i (.bd d)) fun b ρ' => ρ' = ρ.set i (.bd d) ∧ Q b ρ
  | _ => tt ρ Q
end
end My
namespace My
open PySem L2
section
variable {X : Cx} {C : DC} {e : Expr} {u : DA} {i : Nat}
def arS (ρ : List Sl) (i : Nat) (m : Md) (a : Ar) : Option PyData := match m, a with
  | .sh, .s j => if j = i then (match ρ[i]? with
    | some (.ot d) => some d
    | _ => none) else none
  | m, a => arD ρ m a
def arsS (ρ : List Sl) (i : Nat) : List Md → List Ar → Option (List PyData)
  | [], [] => some []
  | m :: ms, a :: as => (arS ρ i m a).bind fun d => (arsS ρ i ms as).map (d :: ·)
  | _, _ => none
def dCallS (i : Nat) (ms : List Md) (sp : DSp) (u : DA)  (ρ : List Sl) (Q : PyData → List Sl → Prop) : Prop := u ρ fun as ρ' => bnd (arsS ρ' i ms as) fun ds => sp ds fun d => flatD d = true ∧ Q d ρ'
end
end My
namespace My
open PySem L2
section
variable {C : DC} {col : Addr → Nat} {ρ : List Sl} {σ : St} {P : List Pe} {H H' : Hp} {p : Addr}
end
section
variable {X : Cx} {C : DC} {st : Stmt} {e a b : Expr} {te tk : DE} {pos : Pos}
theorem ThVs.lenD {F : Addr → Prop} {H : Hp} : ∀ {vs : List V} {ds : List PyData}, ThVs F H vs ds → vs.length = ds.length
  | _, _, .nil => rfl
  | _, _, .cons _ t => by rw [List.length_cons, List.length_cons, ThVs.lenD t]
end
section
variable {X : Cx} {C : DC} {st : Stmt}
end
end My
namespace My
open PySem L2
section
variable {X : Cx} {C : DC} {st : Stmt} {i j : Nat}
end
end My
namespace My
open PySem L2
section
variable {X : Cx} {C : DC} {e : Expr} {te tp tl : DE} {i : Nat}
open Classical in
end
end My
namespace My
open PySem L2
open PySem.Spec
section
variable {X : Cx} {C : DC} {a st : Expr} {pos : Pos}
end
end My
namespace My
open PySem L2
open PySem.Spec
section
variable {X : Cx} {C : DC}
end
end My
namespace My
open PySem L2
open PySem.Spec
mutual
def okS : PyData → Bool
  | .none => true
  | .bool _ => true
  | .int _ => true
  | .str _ => true
  | .tuple xs => okSs xs
  | .list xs => okSs xs
  | .dict ks => ks.isEmpty
def okSs : List PyData → Bool
  | [] => true
  | d :: ds => okS d && okSs ds
end
section
variable {X : Cx} {pins : List (Addr × Obj)} {σ : St} {H : Hp} {s : Shared} {F : Addr → Prop}
end
section
variable {C : DC}
end
end My
namespace My
open PySem L2
open PySem.Spec PyProof.Rows
section
variable {X : Cx} {C : DC} {st : Stmt} {i : Nat}
open Classical in
end
end My
namespace My
open PySem L2
open PySem.Spec PyProof.Rows
section
variable {X : Cx} {C : DC} {a b : Expr} {tl tb : DE} {pos : Pos}
end
end My
namespace My
open PySem L2
open PySem.Spec PyProof.Rows
mutual
inductive FpV (F : Addr → Prop) (H : Hp) : V → PyData → List Addr → Prop
  | non : FpV F H .non .none []
  | bl (b) : FpV F H (.bl b) (.bool b) []
  | int (i) : FpV F H (.int i) (.int i) []
  | str (x) : FpV F H (.str x) (.str x) []
  | lst {a xs ds fp} : F a → H a = some (.lst xs) → FpVs F H xs ds fp → FpV F H (.ref a) (.list ds) (a :: fp)
  | tup {a xs ds fp} : F a → H a = some (.tup xs) → FpVs F H xs ds fp → FpV F H (.ref a) (.tuple ds) fp
inductive FpVs (F : Addr → Prop) (H : Hp) : List V → List PyData → List Addr → Prop
  | nil : FpVs F H [] [] []
  | cons {x xs d ds fp fps} : FpV F H x d fp → FpVs F H xs ds fps → FpVs F H (x :: xs) (d :: ds) (fp ++ fps)
end
mutual
theorem FpV.th {F : Addr → Prop} {H : Hp} : ∀ {v : V} {d : PyData} {fp : List Addr}, FpV F H v d fp → ThV F H v d
  | _, _, _, .non => .non
  | _, _, _, .bl b => .bl b
  | _, _, _, .int i => .int i
  | _, _, _, .str x => .str x
  | _, _, _, .lst n e t => .lst n e (FpVs.th t)
  | _, _, _, .tup n e t => .tup n e (FpVs.th t)
theorem FpVs.th {F : Addr → Prop} {H : Hp} : ∀ {vs : List V} {ds : List PyData} {fp : List Addr}, FpVs F H vs ds fp → ThVs F H vs ds
  | _, _, _, .nil => .nil
  | _, _, _, .cons x t => .cons (FpV.th x) (FpVs.th t)
end
mutual
theorem FpV.mvm {F G : Addr → Prop} {H H' : Hp} : ∀ {v : V} {d : PyData} {fp : List Addr}, FpV F H v d fp → (∀ b o, F b → H b = some o → (b ∈ fp ∨ ∃ xs, o = .tup xs) → G b ∧ H' b = some o) → FpV G H' v d fp
  | _, _, _, .non, _ => .non
  | _, _, _, .bl b, _ => .bl b
  | _, _, _, .int i, _ => .int i
  | _, _, _, .str x, _ => .str x
  | _, _, _, .lst n e t, f =>
    have q := f _ _ n e (.inl List.mem_cons_self)
    .lst q.1 q.2 (FpVs.mvm t fun b o z e h => f b o z e (h.imp (List.mem_cons_of_mem _) id))
  | _, _, _, .tup n e t, f =>
    have q := f _ _ n e (.inr ⟨_, rfl⟩)
    .tup q.1 q.2 (FpVs.mvm t f)
theorem FpVs.mvm {F G : Addr → Prop} {H H' : Hp} : ∀ {vs : List V} {ds : List PyData} {fp : List Addr}, FpVs F H vs ds fp → (∀ b o, F b → H b = some o → (b ∈ fp ∨ ∃ xs, o = .tup xs) → G b ∧ H' b = some o) → FpVs G H' vs ds fp
  | _, _, _, .nil, _ => .nil
  | _, _, _, .cons x t, f => .cons (FpV.mvm x fun b o z e h => f b o z e (h.imp (fun h => List.mem_append.mpr (.inl h)) id)) (FpVs.mvm t fun b o z e h => f b o z e (h.imp (fun h => List.mem_append.mpr (.inr h)) id))
end
mutual
theorem FpV.mem {F : Addr → Prop} {H : Hp} : ∀ {v : V} {d : PyData} {fp : List Addr}, FpV F H v d fp → ∀ b ∈ fp, F b ∧ ∃ xs, H b = some (.lst xs)
  | _, _, _, .non, _, h => nomatch h
  | _, _, _, .bl _, _, h => nomatch h
  | _, _, _, .int _, _, h => nomatch h
  | _, _, _, .str _, _, h => nomatch h
  | _, _, _, .lst n e t, b, h => by
    rcases List.mem_cons.mp h with rfl | h
    · exact ⟨n, _, e⟩
    · exact FpVs.mem t b h
  | _, _, _, .tup n e t, b, h => FpVs.mem t b h
theorem FpVs.mem {F : Addr → Prop} {H : Hp} : ∀ {vs : List V} {ds : List PyData} {fp : List Addr}, FpVs F H vs ds fp → ∀ b ∈ fp, F b ∧ ∃ xs, H b = some (.lst xs)
  | _, _, _, .nil, _, h => nomatch h
  | _, _, _, .cons x t, b, h => by
    rcases List.mem_append.mp h with h | h
    · exact FpV.mem x b h
    · exact FpVs.mem t b h
end
mutual
theorem FpV.uniq {F G : Addr → Prop} {H : Hp} : ∀ {v : V} {d d' : PyData} {fp fq : List Addr}, FpV F H v d fp → FpV G H v d' fq → d = d' ∧ fp = fq
  | _, _, _, _, _, .non, h => by cases h; exact ⟨rfl, rfl⟩
  | _, _, _, _, _, .bl b, h => by cases h; exact ⟨rfl, rfl⟩
  | _, _, _, _, _, .int i, h => by cases h; exact ⟨rfl, rfl⟩
  | _, _, _, _, _, .str x, h => by cases h; exact ⟨rfl, rfl⟩
  | _, _, _, _, _, .lst n e t, h => by
    cases h with
    | lst n' e' t' =>
      rw [e] at e'
      cases e'
      obtain ⟨rfl, rfl⟩ := FpVs.uniq t t'
      exact ⟨rfl, rfl⟩
    | tup n' e' t' => rw [e] at e'; cases e'
  | _, _, _, _, _, .tup n e t, h => by
    cases h with
    | lst n' e' t' => rw [e] at e'; cases e'
    | tup n' e' t' =>
      rw [e] at e'
      cases e'
      obtain ⟨rfl, rfl⟩ := FpVs.uniq t t'
      exact ⟨rfl, rfl⟩
theorem FpVs.uniq {F G : Addr → Prop} {H : Hp} : ∀ {vs : List V} {ds ds' : List PyData} {fp fq : List Addr}, FpVs F H vs ds fp → FpVs G H vs ds' fq → ds = ds' ∧ fp = fq
  | _, _, _, _, _, .nil, h => by cases h; exact ⟨rfl, rfl⟩
  | _, _, _, _, _, .cons x t, h => by
    cases h with
    | cons x' t' =>
      obtain ⟨rfl, rfl⟩ := FpV.uniq x x'
      obtain ⟨rfl, rfl⟩ := FpVs.uniq t t'
      exact ⟨rfl, rfl⟩
end
def trR (d : PyData) : ORel where
  p := fun W H v => ∃ fp, FpV W H v d fp ∧ fp.Nodup
  mv := fun f ⟨fp, t, n⟩ => ⟨fp, t.mvm fun b o z e _ => f b o z e, n⟩
section
variable {C : DC} {col col2 : Addr → Nat} {ρ : List Sl} {σ : L2.St} {P : List Pe} {H H2 : Hp} {i : Nat} {d : PyData} {R : ORel}
open Classical in
open Classical in
end
section
variable {X : Cx} {C : DC} {e : Expr} {es : List Expr} {st : Stmt} {t te : DE} {tt : DT} {u : DA} {i : Nat}
def dLendO (i : Nat) (t : DE)  (ρ : List Sl) (Q : PyData → List Sl → Prop) : Prop := match ρ[i]? with
  | some (.ob R) => ∃ d, R = trR d ∧ noBB ρ = true ∧ t (ρ.set i (.bd d)) fun d' ρ' => ρ' = ρ.set i (.bd d) ∧ Q d' ρ
  | _ => t ρ Q
def dLendOB (i : Nat) (tt : DT)  (ρ : List Sl) (Q : Bool → List Sl → Prop) : Prop := match ρ[i]? with
  | some (.ob R) => ∃ d, R = trR d ∧ noBB ρ = true ∧ tt (ρ.set i (.bd d)) fun b ρ' => ρ' = ρ.set i (.bd d) ∧ Q b ρ
  | _ => tt ρ Q
def arF (ρ : List Sl) (m : Md) (a : Ar) : Option PyData := match m, a with
  | .sh, .w d => some d
  | .sh, .s i => match ρ[i]? with
    | some (.bd d) => some d
    | some (.sh d) => some d
    | _ => none
  | m, a => arD ρ m a
def arsF (ρ : List Sl) : List Md → List Ar → Option (List PyData)
  | [], [] => some []
  | m :: ms, a :: as => (arF ρ m a).bind fun d => (arsF ρ ms as).map (d :: ·)
  | _, _ => none
def dCallF (ms : List Md) (sp : DSp) (u : DA)  (ρ : List Sl) (Q : PyData → List Sl → Prop) : Prop := u ρ fun as ρ' => bnd (arsF ρ' ms as) fun ds => sp ds fun d => flatD d = true ∧ Q d ρ'
def spDA (ms : List Md) (sp : DSp) : Sp := fun vs H Q _ => ∃ F hand ds Qd, ((∀ b, H b = none → F b) ∧ ∀ b xs, H b = some (.tup xs) → F b) ∧ (∀ q, hand = some q → ¬ F q.1) ∧ Hq hand H ∧ ArgsR F hand H ms vs ds ∧ sp ds Qd ∧
  ∀ d v H' fp, Qd d → FpV (fun b => H b = none ∨ ∃ xs, H b = some (.tup xs)) H' v d fp → fp.Nodup → Kq hand H H' → Hq hand H' → Q v H'
open Classical in
def dNewA (i : Nat) (ms : List Md) (sp : DSp) (u : DA)  (D : DEnds) (ρ : List Sl) : Prop := u ρ fun as ρ' => bnd (arsD ρ' ms as) fun ds => sp ds fun d => D.nx (ρ'.set i (.ob (trR d)))
end
end My
namespace My
open PySem L2
open PySem.Spec PyProof.Rows
structure ItOkL (C : DC) (J : It) (xs : List PyData) : Prop where
  go : ∀ {i : Nat} {ρ : List Sl} {σ : L2.St} {P : List Pe} {H : Hp}, Rel C ρ σ P H → i < xs.length → J.go i H
  yld : ∀ {i : Nat} {ρ : List Sl} {σ : L2.St} {P : List Pe} {H H' : Hp} {x : V} {d : PyData}, Rel C ρ σ P H → xs[i]? = some d → J.yld i H x H' → Rel C ρ σ P H' ∧ ThV (Le C) C.H0 x d
  stop : ∀ {ρ : List Sl} {σ : L2.St} {P : List Pe} {H : Hp}, Rel C ρ σ P H → J.stop xs.length H
def jOf (C : DC) (t : DF) : TI := fun σ H R => ∃ ρ P Qd, Rel C ρ σ P H ∧ t ρ Qd ∧ ∀ xs ρ' H' J, Rel C ρ' σ P H' → ItOkL C J xs → Qd xs ρ' → R J H'
section
variable {X : Cx} {C : DC} {tg e : Expr} {t : DE} {st : Stmt} {i : Nat}
theorem it_revL {K : PySem.W.Frag} {a : Addr} {vs : List V} {xs : List PyData} (ea : C.H0 a = some (.lst vs)) (na : ∀ q, C.hand = some q → a ≠ q.1) (t : ThVs (Le C) C.H0 vs xs) : ItOkL C (Itv K a vs.length) xs.reverse where
  go := fun {i ρ σ P H} R hi => by
    obtain ⟨col, r⟩ := R
    have hl := t.len
    rw [List.length_reverse] at hi
    exact ⟨vs, vs.reverse[i]'(by rw [List.length_reverse]; omega), SqL.of (r.kq a _ ea na), rfl, List.getElem?_eq_getElem _⟩
  yld := fun {i ρ σ P H H' x d} R hi y => by
    obtain ⟨e, y⟩ := y
    subst e
    obtain ⟨col, r⟩ := R
    have hx := y vs (SqL.of (r.kq a _ ea na))
    obtain ⟨d', e1, t'⟩ := t.rev.get hx
    rw [hi] at e1
    cases e1
    exact ⟨⟨col, r⟩, t'⟩
  stop := fun {ρ σ P H} R => by
    have hl := t.len
    show vs.length ≤ xs.reverse.length
    rw [List.length_reverse]; omega
def dRevL (t : DE)  (ρ : List Sl) (Q : List PyData → List Sl → Prop) : Prop := t ρ fun d ρ' => bnd (listD d) fun xs => Q xs.reverse ρ'
theorem di_revL {K : PySem.W.Frag} (h : PI X tg e (iRev K (tCons (lOf C t) tNil))) : PI X tg e (jOf C (dRevL t)) := PI.wk h fun _ _ _ z => el3 z fun ρ P _ R ht k => ⟨ρ, P, _, R, ht, fun v d ρ' H' R' q => R'.elim fun col r => by
  obtain ⟨xs, hx, q2⟩ := bnd_of q
  have := listD_eq hx
  subst this
  obtain ⟨a, vs, rfl, n, e1, t1⟩ := th_lst (show ThV (Le C) C.H0 v (.list xs) from r.pd _ List.mem_cons_self)
  exact ⟨a, vs, rfl, SqL.of (r.kq a _ e1 n.2), k _ ρ' H' _ ⟨col, r.sub fun _ h => List.mem_cons_of_mem _ h⟩ (it_revL e1 n.2 t1) q2⟩⟩
def dILn (t : DE)  (ρ : List Sl) (Q : List PyData → List Sl → Prop) : Prop := t ρ fun d ρ' => bnd (listD d) fun xs => Q xs ρ'
theorem RelC.storeL {col : Addr → Nat} {ρ : List Sl} {σ : L2.St} {P : List Pe} {H : Hp} {v : V} {d : PyData} (r : RelC C col ρ σ P H) (t : ThV (Le C) C.H0 v d) : RelC C col (ρ.set i (.bd d)) (σ.set i (some v)) P H := by
  refine { r with sl := fun j s es => ?_, len := by rw [List.length_set, List.length_set]; exact r.len }
  by_cases hj : j = i
  · subst hj
    rw [List.getElem?_set] at es
    simp only [if_true] at es
    split at es
    · rename_i hl
      cases es
      refine ⟨v, ?_, t⟩
      rw [List.getElem?_set, if_pos rfl, if_pos (by rw [← r.len]; exact hl)]; rfl
    · cases es
  · rw [List.getElem?_set_ne (Ne.symm hj)] at es
    rw [List.getElem?_set_ne (Ne.symm hj)]
    exact r.sl j s es
def dSetL (i : Nat) (t : DE) (D : DEnds) (ρ : List Sl) : Prop := t ρ fun d ρ' => D.nx (ρ'.set i (.bd d))
def dForL (it : DF) (i : Nat) (tb : DS) (D : DEnds) (ρ : List Sl) : Prop := it ρ fun xs ρ1 => ∃ I : List PyData → List Sl → Prop, I xs ρ1 ∧ (∀ x r ρ, I (x :: r) ρ → Blk tb { nx := I r, ct := I r, bk := D.nx, rt := D.rt } (ρ.set i (.bd x))) ∧ ∀ ρ, I [] ρ → D.nx ρ
theorem ds_forL {it : DF} {tb : DS} (hp : PS X st (tFor (jOf C it) (gName i) (sOf C tb))) : PS X st (sOf C (dForL it i tb)) := PS.wk hp fun D σ H z => el3 z fun ρ P Dd R ht E => ⟨ρ, P, _, R, ht, fun xs ρ1 H1 J R1 io q => by
  obtain ⟨I, q0, qs, qd⟩ := q
  refine ⟨fun i m σ' H' => m = xs.length - i ∧ i ≤ xs.length ∧ ∃ ρ', Rel C ρ' σ' P H' ∧ I (xs.drop i) ρ', ⟨xs.length, by simp, Nat.zero_le _, ρ1, R1, q0⟩, ?_⟩
  rintro n m σ2 H2 ⟨rfl, hi, ρ2, R2, q2⟩
  by_cases hlt : n < xs.length
  · rw [List.drop_eq_getElem_cons hlt] at q2
    refine .inr ⟨io.go R2 hlt, fun σ' H' => ∃ ρ', Rel C ρ' σ' P H' ∧ I (xs.drop (n + 1)) ρ', fun σ' H' h => ⟨xs.length - (n + 1), by omega, rfl, hlt, h⟩, fun x H3 y => ?_⟩
    obtain ⟨⟨col, r3⟩, tx⟩ := io.yld R2 (List.getElem?_eq_getElem hlt) y
    refine ⟨ρ2.set i (.bd xs[n]), P, ⟨I (xs.drop (n + 1)), Dd.rt, Dd.nx, I (xs.drop (n + 1)), fun _ => False⟩, ⟨col, r3.storeL tx⟩, qs _ _ _ q2, ⟨fun ρ4 σ4 H4 R4 q4 => ⟨ρ4, R4, q4⟩, fun v d ρ4 σ4 H4 R4 q4 => E.rt v d ρ4 σ4 H4 R4 q4, fun ρ4 σ4 H4 R4 q4 => E.nx ρ4 σ4 H4 R4 q4, fun ρ4 σ4 H4 R4 q4 => ⟨ρ4, R4, q4⟩, fun _ _ _ _ _ _ _ _ h => h.elim⟩⟩
  · have e : n = xs.length := by omega
    subst e
    rw [List.drop_length] at q2
    exact .inl ⟨io.stop R2, E.nx _ _ _ R2 (qd _ q2)⟩⟩
end
end My
namespace My
open PySem L2
open PySem.Spec PyProof.Rows
section
variable {X : Cx} {C : DC} {st : Stmt} {i j ia ib : Nat}
theorem fp_lst {F : Addr → Prop} {H : Hp} {v : V} {xs : List PyData} {fp : List Addr} (t : FpV F H v (.list xs) fp) : ∃ a vs fq, v = .ref a ∧ fp = a :: fq ∧ F a ∧ H a = some (.lst vs) ∧ FpVs F H vs xs fq := by
  cases t with
  | lst n e t => exact ⟨_, _, _, rfl, rfl, n, e, t⟩
theorem fp_tup {F : Addr → Prop} {H : Hp} {v : V} {xs : List PyData} {fp : List Addr} (t : FpV F H v (.tuple xs) fp) : ∃ a vs, v = .ref a ∧ F a ∧ H a = some (.tup vs) ∧ FpVs F H vs xs fp := by
  cases t with
  | tup n e t => exact ⟨_, _, rfl, n, e, t⟩
theorem fp_two {F : Addr → Prop} {H : Hp} {vs : List V} {d1 d2 : PyData} {fp : List Addr} (t : FpVs F H vs [d1, d2] fp) : ∃ v1 v2 f1 f2, vs = [v1, v2] ∧ fp = f1 ++ f2 ∧ FpV F H v1 d1 f1 ∧ FpV F H v2 d2 f2 := by
  cases t with
  | cons x t =>
    cases t with
    | cons y t =>
      cases t
      exact ⟨_, _, _, _, rfl, by rw [List.append_nil], x, y⟩
def dClrA (i j : Nat) (D : DEnds) (ρ : List Sl) : Prop := match ρ[i]?, ρ[j]? with
  | some (.ob R), some (.sh (.int z)) => ∃ (ds ps : List PyData) (s : PyData) (k : Nat), R = trR (.list ds) ∧ z = (k : Nat) ∧ ds[k]? = some (.tuple [s, .list ps]) ∧ D.nx (ρ.set i (.ob (trR (.list (ds.set k (.tuple [s, .list []]))))))
  | _, _ => False
def PtA (n : Nat) (p : PyData) : Prop := ∃ es t, p = .tuple [.list es, t] ∧ flatL es = true ∧ flatD t = true ∧ es.length ≤ n
def dForA (i j ia ib : Nat) (D : DEnds) (ρ : List Sl) : Prop := match ρ[i]?, ρ[j]? with
  | some (.ob R), some (.sh (.int z)) => ∃ (ds ps : List PyData) (s : PyData) (k : Nat), R = trR (.list ds) ∧ z = (k : Nat) ∧ ds[k]? = some (.tuple [s, .list ps]) ∧ (∀ p ∈ ps, PtA 1000 p) ∧ ps.length ≤ 1000 ∧ ((i ≠ ia ∧ i ≠ ib ∧ ia ≠ ib) ∧ i < ρ.length ∧ ia < ρ.length ∧ ib < ρ.length) ∧
    ∀ ps' : List PyData, ps'.length = ps.length → D.nx (((ρ.set ia .no).set ib .no).set i (.ob (trR (.list (ds.set k (.tuple [s, .list ps']))))))
  | _, _ => False
theorem FpVs.len {F : Addr → Prop} {H : Hp} {vs : List V} {ds : List PyData} {fp : List Addr} (t : FpVs F H vs ds fp) : vs.length = ds.length := t.th.len
end
end My
namespace My
open PySem L2
theorem us_c {us : List Value} {n : Nat} (h : us.length = n + 1) : ∃ a r, us = a :: r ∧ r.length = n := by
  cases us with
  | nil => cases h
  | cons a r => exact ⟨a, r, rfl, Nat.succ.inj h⟩
theorem usl0 {us : List Value} (h : us.length = 0) : us = [] := by
  cases List.eq_nil_of_length_eq_zero h
  exact rfl
theorem usl1 {us : List Value} (h : us.length = 1) : ∃ a0, us = [a0] := by
  obtain ⟨a0, u0, rfl, h0⟩ := us_c h
  cases List.eq_nil_of_length_eq_zero h0
  exact ⟨a0, rfl⟩
theorem usl2 {us : List Value} (h : us.length = 2) : ∃ a0 a1, us = [a0, a1] := by
  obtain ⟨a0, u0, rfl, h0⟩ := us_c h
  obtain ⟨a1, u1, rfl, h1⟩ := us_c h0
  cases List.eq_nil_of_length_eq_zero h1
  exact ⟨a0, a1, rfl⟩
theorem usl3 {us : List Value} (h : us.length = 3) : ∃ a0 a1 a2, us = [a0, a1, a2] := by
  obtain ⟨a0, u0, rfl, h0⟩ := us_c h
  obtain ⟨a1, u1, rfl, h1⟩ := us_c h0
  obtain ⟨a2, u2, rfl, h2⟩ := us_c h1
  cases List.eq_nil_of_length_eq_zero h2
  exact ⟨a0, a1, a2, rfl⟩
theorem usl4 {us : List Value} (h : us.length = 4) : ∃ a0 a1 a2 a3, us = [a0, a1, a2, a3] := by
  obtain ⟨a0, u0, rfl, h0⟩ := us_c h
  obtain ⟨a1, u1, rfl, h1⟩ := us_c h0
  obtain ⟨a2, u2, rfl, h2⟩ := us_c h1
  obtain ⟨a3, u3, rfl, h3⟩ := us_c h2
  cases List.eq_nil_of_length_eq_zero h3
  exact ⟨a0, a1, a2, a3, rfl⟩
theorem usl5 {us : List Value} (h : us.length = 5) : ∃ a0 a1 a2 a3 a4, us = [a0, a1, a2, a3, a4] := by
  obtain ⟨a0, u0, rfl, h0⟩ := us_c h
  obtain ⟨a1, u1, rfl, h1⟩ := us_c h0
  obtain ⟨a2, u2, rfl, h2⟩ := us_c h1
  obtain ⟨a3, u3, rfl, h3⟩ := us_c h2
  obtain ⟨a4, u4, rfl, h4⟩ := us_c h3
  cases List.eq_nil_of_length_eq_zero h4
  exact ⟨a0, a1, a2, a3, a4, rfl⟩
theorem usl6 {us : List Value} (h : us.length = 6) : ∃ a0 a1 a2 a3 a4 a5, us = [a0, a1, a2, a3, a4, a5] := by
  obtain ⟨a0, u0, rfl, h0⟩ := us_c h
  obtain ⟨a1, u1, rfl, h1⟩ := us_c h0
  obtain ⟨a2, u2, rfl, h2⟩ := us_c h1
  obtain ⟨a3, u3, rfl, h3⟩ := us_c h2
  obtain ⟨a4, u4, rfl, h4⟩ := us_c h3
  obtain ⟨a5, u5, rfl, h5⟩ := us_c h4
  cases List.eq_nil_of_length_eq_zero h5
  exact ⟨a0, a1, a2, a3, a4, a5, rfl⟩
theorem usl7 {us : List Value} (h : us.length = 7) : ∃ a0 a1 a2 a3 a4 a5 a6, us = [a0, a1, a2, a3, a4, a5, a6] := by
  obtain ⟨a0, u0, rfl, h0⟩ := us_c h
  obtain ⟨a1, u1, rfl, h1⟩ := us_c h0
  obtain ⟨a2, u2, rfl, h2⟩ := us_c h1
  obtain ⟨a3, u3, rfl, h3⟩ := us_c h2
  obtain ⟨a4, u4, rfl, h4⟩ := us_c h3
  obtain ⟨a5, u5, rfl, h5⟩ := us_c h4
  obtain ⟨a6, u6, rfl, h6⟩ := us_c h5
  cases List.eq_nil_of_length_eq_zero h6
  exact ⟨a0, a1, a2, a3, a4, a5, a6, rfl⟩
theorem usl8 {us : List Value} (h : us.length = 8) : ∃ a0 a1 a2 a3 a4 a5 a6 a7, us = [a0, a1, a2, a3, a4, a5, a6, a7] := by
  obtain ⟨a0, u0, rfl, h0⟩ := us_c h
  obtain ⟨a1, u1, rfl, h1⟩ := us_c h0
  obtain ⟨a2, u2, rfl, h2⟩ := us_c h1
  obtain ⟨a3, u3, rfl, h3⟩ := us_c h2
  obtain ⟨a4, u4, rfl, h4⟩ := us_c h3
  obtain ⟨a5, u5, rfl, h5⟩ := us_c h4
  obtain ⟨a6, u6, rfl, h6⟩ := us_c h5
  obtain ⟨a7, u7, rfl, h7⟩ := us_c h6
  cases List.eq_nil_of_length_eq_zero h7
  exact ⟨a0, a1, a2, a3, a4, a5, a6, a7, rfl⟩
def top (i : Nat) : Stmt := PySem.Challenge.pw_trudge_k55_whole_rows_are_highest.main.body.getD i (.Pass ⟨0, 0, 0, 0⟩)
abbrev s_is_whole : Stmt := top 1
abbrev s_is_level : Stmt := top 2
abbrev s_stepped : Stmt := top 3
abbrev s_is_table : Stmt := top 10
abbrev s_are_tables : Stmt := top 11
abbrev s_is_more : Stmt := top 12
abbrev s_behind_way : Stmt := top 13
abbrev s_covers : Stmt := top 15
abbrev s_leads_within : Stmt := top 16
abbrev s_first_row : Stmt := top 21
abbrev s_row_behind : Stmt := top 22
abbrev s_walk_to : Stmt := top 23
abbrev s_base_at : Stmt := top 27
abbrev s_has_enough : Stmt := top 28
abbrev s_soonest : Stmt := top 30
abbrev s_is_showing : Stmt := top 31
abbrev s_hand : Stmt := top 33
abbrev s_next : Stmt := top 34
abbrev s_take : Stmt := top 35
abbrev s_draw : Stmt := top 36
abbrev s_scale : Stmt := top 37
abbrev s_change : Stmt := top 38
abbrev s_land : Stmt := top 39
abbrev s_step : Stmt := top 40
abbrev s_law_is_whole : Stmt := top 41
abbrev s_law_is_table : Stmt := top 42
abbrev s_one : Stmt := top 43
abbrev s_further : Stmt := top 44
abbrev s_scene : Stmt := top 45
abbrev s_enough : Stmt := top 46
abbrev s_rows_right : Stmt := top 47
abbrev s_walks : Stmt := top 48
abbrev s_law : Stmt := top 49
set_option genInjectivity false in
set_option genSizeOf false in
structure Txt (K : PySem.W.Frag) (mg : Str → Option Value) where
  n_abs : mg "abs" = none
  n_all : mg "all" = none
  n_any : mg "any" = none
  n_bool : mg "bool" = none
  n_enumerate : mg "enumerate" = none
  n_int : mg "int" = none
  n_isinstance : mg "isinstance" = none
  n_len : mg "len" = none
  n_list : mg "list" = none
  n_min : mg "min" = none
  n_range : mg "range" = none
  n_reversed : mg "reversed" = none
  n_tuple : mg "tuple" = none
  n_zip : mg "zip" = none
  t_MANY : Tok
  mg_MANY : mg "MANY" = some (.int 0 t_MANY)
  t_WAYS : Tok
  mg_WAYS : mg "WAYS" = some (.int 1 t_WAYS)
  t_START : Tok
  mg_START : mg "START" = some (.int 0 t_START)
  t_END : Tok
  mg_END : mg "END" = some (.int 1 t_END)
  t_CHANGE : Tok
  mg_CHANGE : mg "CHANGE" = some (.int 2 t_CHANGE)
  t_TABLE : Tok
  mg_TABLE : mg "TABLE" = some (.int 0 t_TABLE)
  t_RISEN : Tok
  mg_RISEN : mg "RISEN" = some (.int 1 t_RISEN)
  t_BY : Tok
  mg_BY : mg "BY" = some (.int 1 t_BY)
  t_PLACE : Tok
  mg_PLACE : mg "PLACE" = some (.int 0 t_PLACE)
  t_LEVEL : Tok
  mg_LEVEL : mg "LEVEL" = some (.int 1 t_LEVEL)
  a_is_whole : Addr
  d_is_whole : FuncData
  F_is_whole : Fun K "is_whole" "is_whole" s_is_whole a_is_whole d_is_whole
  mg_is_whole : mg "is_whole" = some (.ref a_is_whole)
  kp_is_whole : PySem.W.keepIn K (.ref a_is_whole) = true
  a_is_level : Addr
  d_is_level : FuncData
  F_is_level : Fun K "is_level" "is_level" s_is_level a_is_level d_is_level
  mg_is_level : mg "is_level" = some (.ref a_is_level)
  kp_is_level : PySem.W.keepIn K (.ref a_is_level) = true
  a_stepped : Addr
  d_stepped : FuncData
  F_stepped : Fun K "stepped" "stepped" s_stepped a_stepped d_stepped
  mg_stepped : mg "stepped" = some (.ref a_stepped)
  kp_stepped : PySem.W.keepIn K (.ref a_stepped) = true
  a_is_table : Addr
  d_is_table : FuncData
  F_is_table : Fun K "is_table" "is_table" s_is_table a_is_table d_is_table
  mg_is_table : mg "is_table" = some (.ref a_is_table)
  kp_is_table : PySem.W.keepIn K (.ref a_is_table) = true
  a_are_tables : Addr
  d_are_tables : FuncData
  F_are_tables : Fun K "are_tables" "are_tables" s_are_tables a_are_tables d_are_tables
  mg_are_tables : mg "are_tables" = some (.ref a_are_tables)
  kp_are_tables : PySem.W.keepIn K (.ref a_are_tables) = true
  a_is_more : Addr
  d_is_more : FuncData
  F_is_more : Fun K "is_more" "is_more" s_is_more a_is_more d_is_more
  mg_is_more : mg "is_more" = some (.ref a_is_more)
  kp_is_more : PySem.W.keepIn K (.ref a_is_more) = true
  a_behind_way : Addr
  d_behind_way : FuncData
  F_behind_way : Fun K "behind_way" "behind_way" s_behind_way a_behind_way d_behind_way
  mg_behind_way : mg "behind_way" = some (.ref a_behind_way)
  kp_behind_way : PySem.W.keepIn K (.ref a_behind_way) = true
  a_covers : Addr
  d_covers : FuncData
  F_covers : Fun K "covers" "covers" s_covers a_covers d_covers
  mg_covers : mg "covers" = some (.ref a_covers)
  kp_covers : PySem.W.keepIn K (.ref a_covers) = true
  a_leads_within : Addr
  d_leads_within : FuncData
  F_leads_within : Fun K "leads_within" "leads_within" s_leads_within a_leads_within d_leads_within
  mg_leads_within : mg "leads_within" = some (.ref a_leads_within)
  kp_leads_within : PySem.W.keepIn K (.ref a_leads_within) = true
  a_first_row : Addr
  d_first_row : FuncData
  F_first_row : Fun K "first_row" "first_row" s_first_row a_first_row d_first_row
  mg_first_row : mg "first_row" = some (.ref a_first_row)
  kp_first_row : PySem.W.keepIn K (.ref a_first_row) = true
  a_row_behind : Addr
  d_row_behind : FuncData
  F_row_behind : Fun K "row_behind" "row_behind" s_row_behind a_row_behind d_row_behind
  mg_row_behind : mg "row_behind" = some (.ref a_row_behind)
  kp_row_behind : PySem.W.keepIn K (.ref a_row_behind) = true
  a_walk_to : Addr
  d_walk_to : FuncData
  F_walk_to : Fun K "walk_to" "walk_to" s_walk_to a_walk_to d_walk_to
  mg_walk_to : mg "walk_to" = some (.ref a_walk_to)
  kp_walk_to : PySem.W.keepIn K (.ref a_walk_to) = true
  a_base_at : Addr
  d_base_at : FuncData
  F_base_at : Fun K "base_at" "base_at" s_base_at a_base_at d_base_at
  mg_base_at : mg "base_at" = some (.ref a_base_at)
  kp_base_at : PySem.W.keepIn K (.ref a_base_at) = true
  a_has_enough : Addr
  d_has_enough : FuncData
  F_has_enough : Fun K "has_enough" "has_enough" s_has_enough a_has_enough d_has_enough
  mg_has_enough : mg "has_enough" = some (.ref a_has_enough)
  kp_has_enough : PySem.W.keepIn K (.ref a_has_enough) = true
  a_soonest : Addr
  d_soonest : FuncData
  F_soonest : Fun K "soonest" "soonest" s_soonest a_soonest d_soonest
  mg_soonest : mg "soonest" = some (.ref a_soonest)
  kp_soonest : PySem.W.keepIn K (.ref a_soonest) = true
  a_is_showing : Addr
  d_is_showing : FuncData
  F_is_showing : Fun K "is_showing" "is_showing" s_is_showing a_is_showing d_is_showing
  mg_is_showing : mg "is_showing" = some (.ref a_is_showing)
  kp_is_showing : PySem.W.keepIn K (.ref a_is_showing) = true
  a_hand : Addr
  d_hand : FuncData
  F_hand : Fun K "_law_hand" "_law_hand" s_hand a_hand d_hand
  mg_hand : mg "_law_hand" = some (.ref a_hand)
  kp_hand : PySem.W.keepIn K (.ref a_hand) = true
  a_next : Addr
  d_next : FuncData
  F_next : Fun K "_law_next" "_law_next" s_next a_next d_next
  mg_next : mg "_law_next" = some (.ref a_next)
  kp_next : PySem.W.keepIn K (.ref a_next) = true
  a_take : Addr
  d_take : FuncData
  F_take : Fun K "_law_take" "_law_take" s_take a_take d_take
  mg_take : mg "_law_take" = some (.ref a_take)
  kp_take : PySem.W.keepIn K (.ref a_take) = true
  a_draw : Addr
  d_draw : FuncData
  F_draw : Fun K "_law_draw" "_law_draw" s_draw a_draw d_draw
  mg_draw : mg "_law_draw" = some (.ref a_draw)
  kp_draw : PySem.W.keepIn K (.ref a_draw) = true
  a_scale : Addr
  d_scale : FuncData
  F_scale : Fun K "_law_scale" "_law_scale" s_scale a_scale d_scale
  mg_scale : mg "_law_scale" = some (.ref a_scale)
  kp_scale : PySem.W.keepIn K (.ref a_scale) = true
  a_change : Addr
  d_change : FuncData
  F_change : Fun K "_law_change" "_law_change" s_change a_change d_change
  mg_change : mg "_law_change" = some (.ref a_change)
  kp_change : PySem.W.keepIn K (.ref a_change) = true
  a_land : Addr
  d_land : FuncData
  F_land : Fun K "_law_land" "_law_land" s_land a_land d_land
  mg_land : mg "_law_land" = some (.ref a_land)
  kp_land : PySem.W.keepIn K (.ref a_land) = true
  a_step : Addr
  d_step : FuncData
  F_step : Fun K "_law_step" "_law_step" s_step a_step d_step
  mg_step : mg "_law_step" = some (.ref a_step)
  kp_step : PySem.W.keepIn K (.ref a_step) = true
  a_law_is_whole : Addr
  d_law_is_whole : FuncData
  F_law_is_whole : Fun K "_law_is_whole" "_law_is_whole" s_law_is_whole a_law_is_whole d_law_is_whole
  mg_law_is_whole : mg "_law_is_whole" = some (.ref a_law_is_whole)
  kp_law_is_whole : PySem.W.keepIn K (.ref a_law_is_whole) = true
  a_law_is_table : Addr
  d_law_is_table : FuncData
  F_law_is_table : Fun K "_law_is_table" "_law_is_table" s_law_is_table a_law_is_table d_law_is_table
  mg_law_is_table : mg "_law_is_table" = some (.ref a_law_is_table)
  kp_law_is_table : PySem.W.keepIn K (.ref a_law_is_table) = true
  a_one : Addr
  d_one : FuncData
  F_one : Fun K "_law_one" "_law_one" s_one a_one d_one
  mg_one : mg "_law_one" = some (.ref a_one)
  kp_one : PySem.W.keepIn K (.ref a_one) = true
  a_further : Addr
  d_further : FuncData
  F_further : Fun K "_law_further" "_law_further" s_further a_further d_further
  mg_further : mg "_law_further" = some (.ref a_further)
  kp_further : PySem.W.keepIn K (.ref a_further) = true
  a_scene : Addr
  d_scene : FuncData
  F_scene : Fun K "_law_scene" "_law_scene" s_scene a_scene d_scene
  mg_scene : mg "_law_scene" = some (.ref a_scene)
  kp_scene : PySem.W.keepIn K (.ref a_scene) = true
  a_enough : Addr
  d_enough : FuncData
  F_enough : Fun K "_law_enough" "_law_enough" s_enough a_enough d_enough
  mg_enough : mg "_law_enough" = some (.ref a_enough)
  kp_enough : PySem.W.keepIn K (.ref a_enough) = true
  a_rows_right : Addr
  d_rows_right : FuncData
  F_rows_right : Fun K "_law_rows_right" "_law_rows_right" s_rows_right a_rows_right d_rows_right
  mg_rows_right : mg "_law_rows_right" = some (.ref a_rows_right)
  kp_rows_right : PySem.W.keepIn K (.ref a_rows_right) = true
  a_walks : Addr
  d_walks : FuncData
  F_walks : Fun K "_law_walks" "_law_walks" s_walks a_walks d_walks
  mg_walks : mg "_law_walks" = some (.ref a_walks)
  kp_walks : PySem.W.keepIn K (.ref a_walks) = true
  a_law : Addr
  d_law : FuncData
  F_law : Fun K "law" "law" s_law a_law d_law
  mg_law : mg "law" = some (.ref a_law)
  kp_law : PySem.W.keepIn K (.ref a_law) = true
theorem sc_is_whole : FnScope ["thing"] ["thing"] (defScope s_is_whole) := ⟨rfl, rfl, rfl, by decide +kernel, rfl, by decide +kernel, by decide +kernel⟩
theorem sc_is_level : FnScope ["store", "thing"] ["store", "thing"] (defScope s_is_level) := ⟨rfl, rfl, rfl, by decide +kernel, rfl, by decide +kernel, by decide +kernel⟩
theorem sc_stepped : FnScope ["store", "level", "change", "behind"] ["store", "level", "change"] (defScope s_stepped) := ⟨rfl, rfl, rfl, by decide +kernel, rfl, by decide +kernel, by decide +kernel⟩
theorem sc_is_table : FnScope ["many", "store", "thing"] ["many", "store", "thing"] (defScope s_is_table) := ⟨rfl, rfl, rfl, by decide +kernel, rfl, by decide +kernel, by decide +kernel⟩
theorem sc_are_tables : FnScope ["many", "store", "thing"] ["many", "store", "thing"] (defScope s_are_tables) := ⟨rfl, rfl, rfl, by decide +kernel, rfl, by decide +kernel, by decide +kernel⟩
theorem sc_is_more : FnScope ["one", "other"] ["one", "other"] (defScope s_is_more) := ⟨rfl, rfl, rfl, by decide +kernel, rfl, by decide +kernel, by decide +kernel⟩
theorem sc_behind_way : FnScope ["store", "table", "way", "level"] ["store", "table", "way"] (defScope s_behind_way) := ⟨rfl, rfl, rfl, by decide +kernel, rfl, by decide +kernel, by decide +kernel⟩
theorem sc_covers : FnScope ["table", "base"] ["table", "base"] (defScope s_covers) := ⟨rfl, rfl, rfl, by decide +kernel, rfl, by decide +kernel, by decide +kernel⟩
theorem sc_leads_within : FnScope ["land", "store", "table", "lid"] ["land", "store", "table", "lid"] (defScope s_leads_within) := ⟨rfl, rfl, rfl, by decide +kernel, rfl, by decide +kernel, by decide +kernel⟩
theorem sc_first_row : FnScope ["table"] ["table"] (defScope s_first_row) := ⟨rfl, rfl, rfl, by decide +kernel, rfl, by decide +kernel, by decide +kernel⟩
theorem sc_row_behind : FnScope ["land", "store", "table", "stayed", "higher", "risen", "number", "way", "level"] ["land", "store", "table", "stayed"] (defScope s_row_behind) := ⟨rfl, rfl, rfl, by decide +kernel, rfl, by decide +kernel, by decide +kernel⟩
theorem sc_walk_to : FnScope ["land", "rows", "place", "here", "numbers", "row", "number"] ["land", "rows", "place"] (defScope s_walk_to) := ⟨rfl, rfl, rfl, by decide +kernel, rfl, by decide +kernel, by decide +kernel⟩
theorem sc_base_at : FnScope ["many", "spot", "base"] ["many", "spot"] (defScope s_base_at) := ⟨rfl, rfl, rfl, by decide +kernel, rfl, by decide +kernel, by decide +kernel⟩
theorem sc_has_enough : FnScope ["table", "goal", "level"] ["table", "goal"] (defScope s_has_enough) := ⟨rfl, rfl, rfl, by decide +kernel, rfl, by decide +kernel, by decide +kernel⟩
theorem sc_soonest : FnScope ["land", "store", "begin", "goal", "most", "nowhere", "rows", "tables"] ["land", "store", "begin", "goal", "most"] (defScope s_soonest) := ⟨rfl, rfl, rfl, by decide +kernel, rfl, by decide +kernel, by decide +kernel⟩
theorem sc_is_showing : FnScope ["land", "store", "begin", "goal", "rows"] ["land", "store", "begin", "goal", "rows"] (defScope s_is_showing) := ⟨rfl, rfl, rfl, by decide +kernel, rfl, by decide +kernel, by decide +kernel⟩
theorem sc_hand : FnScope ["_law_script"] ["_law_script"] (defScope s_hand) := ⟨rfl, rfl, rfl, by decide +kernel, rfl, by decide +kernel, by decide +kernel⟩
theorem sc_next : FnScope ["_law_hand_here"] ["_law_hand_here"] (defScope s_next) := ⟨rfl, rfl, rfl, by decide +kernel, rfl, by decide +kernel, by decide +kernel⟩
theorem sc_take : FnScope ["_law_hand_here", "_law_cell"] ["_law_hand_here"] (defScope s_take) := ⟨rfl, rfl, rfl, by decide +kernel, rfl, by decide +kernel, by decide +kernel⟩
theorem sc_draw : FnScope ["_law_hand_here", "_law_many", "_law_got", "_law_value", "_law_size"] ["_law_hand_here", "_law_many"] (defScope s_draw) := ⟨rfl, rfl, rfl, by decide +kernel, rfl, by decide +kernel, by decide +kernel⟩
theorem sc_scale : FnScope ["_law_hand_here"] ["_law_hand_here"] (defScope s_scale) := ⟨rfl, rfl, rfl, by decide +kernel, rfl, by decide +kernel, by decide +kernel⟩
theorem sc_change : FnScope ["_law_hand_here", "_law_scale_here"] ["_law_hand_here", "_law_scale_here"] (defScope s_change) := ⟨rfl, rfl, rfl, by decide +kernel, rfl, by decide +kernel, by decide +kernel⟩
theorem sc_land : FnScope ["_law_hand_here", "_law_places", "_law_ways", "_law_scale_here", "_law_many", "_law_rows", "_law_k", "_law_start", "_law_end"] ["_law_hand_here", "_law_places", "_law_ways", "_law_scale_here"] (defScope s_land) := ⟨rfl, rfl, rfl, by decide +kernel, rfl, by decide +kernel, by decide +kernel⟩
theorem sc_step : FnScope ["_law_store", "_law_level", "_law_change_here"] ["_law_store", "_law_level", "_law_change_here"] (defScope s_step) := ⟨rfl, rfl, rfl, by decide +kernel, rfl, by decide +kernel, by decide +kernel⟩
theorem sc_law_is_whole : FnScope ["_law_thing"] ["_law_thing"] (defScope s_law_is_whole) := ⟨rfl, rfl, rfl, by decide +kernel, rfl, by decide +kernel, by decide +kernel⟩
theorem sc_law_is_table : FnScope ["_law_thing", "_law_many", "_law_store"] ["_law_thing", "_law_many", "_law_store"] (defScope s_law_is_table) := ⟨rfl, rfl, rfl, by decide +kernel, rfl, by decide +kernel, by decide +kernel⟩
theorem sc_one : FnScope ["_law_many", "_law_spot", "_law_table"] ["_law_many", "_law_spot"] (defScope s_one) := ⟨rfl, rfl, rfl, by decide +kernel, rfl, by decide +kernel, by decide +kernel⟩
theorem sc_further : FnScope ["_law_land_here", "_law_store", "_law_row", "_law_told", "_law_start", "_law_end", "_law_change_here", "_law_level"] ["_law_land_here", "_law_store", "_law_row"] (defScope s_further) := ⟨rfl, rfl, rfl, by decide +kernel, rfl, by decide +kernel, by decide +kernel⟩
theorem sc_scene : FnScope ["_law_hand_here", "_law_scale_here", "_law_places", "_law_ways", "_law_land_here", "_law_store", "_law_top", "_law_begin", "_law_goal"] ["_law_hand_here"] (defScope s_scene) := ⟨rfl, rfl, rfl, by decide +kernel, rfl, by decide +kernel, by decide +kernel⟩
theorem sc_enough : FnScope ["_law_row", "_law_goal"] ["_law_row", "_law_goal"] (defScope s_enough) := ⟨rfl, rfl, rfl, by decide +kernel, rfl, by decide +kernel, by decide +kernel⟩
theorem sc_rows_right : FnScope ["_law_land_here", "_law_store", "_law_begin", "_law_goal", "_law_rows", "_law_due", "_law_row"] ["_law_land_here", "_law_store", "_law_begin", "_law_goal", "_law_rows"] (defScope s_rows_right) := ⟨rfl, rfl, rfl, by decide +kernel, rfl, by decide +kernel, by decide +kernel⟩
theorem sc_walks : FnScope ["_law_land_here", "_law_store", "_law_begin", "_law_goal", "_law_numbers", "_law_place", "_law_level", "_law_number"] ["_law_land_here", "_law_store", "_law_begin", "_law_goal", "_law_numbers"] (defScope s_walks) := ⟨rfl, rfl, rfl, by decide +kernel, rfl, by decide +kernel, by decide +kernel⟩
theorem sc_law : FnScope ["_law_script", "_law_hand_here", "_law_land_here", "_law_store", "_law_begin", "_law_goal", "_law_most", "_law_found", "_law_rows", "_law_kept", "_law_k", "_law_again"] ["_law_script"] (defScope s_law) := ⟨rfl, rfl, rfl, by decide +kernel, rfl, by decide +kernel, by decide +kernel⟩
theorem bd_is_whole {K : PySem.W.Frag} {mg : Str → Option Value} (T : Txt K mg) : Binds K T.d_is_whole ["thing"] [] := T.F_is_whole.binds fun _ _ _ _ _ _ us hl => by obtain ⟨_, rfl⟩ := usl1 hl; rfl
theorem bd_is_level {K : PySem.W.Frag} {mg : Str → Option Value} (T : Txt K mg) : Binds K T.d_is_level ["store", "thing"] [] := T.F_is_level.binds fun _ _ _ _ _ _ us hl => by obtain ⟨_, _, rfl⟩ := usl2 hl; rfl
theorem bd_stepped {K : PySem.W.Frag} {mg : Str → Option Value} (T : Txt K mg) : Binds K T.d_stepped ["store", "level", "change"] [] := T.F_stepped.binds fun _ _ _ _ _ _ us hl => by obtain ⟨_, _, _, rfl⟩ := usl3 hl; rfl
theorem bd_is_table {K : PySem.W.Frag} {mg : Str → Option Value} (T : Txt K mg) : Binds K T.d_is_table ["many", "store", "thing"] [] := T.F_is_table.binds fun _ _ _ _ _ _ us hl => by obtain ⟨_, _, _, rfl⟩ := usl3 hl; rfl
theorem bd_are_tables {K : PySem.W.Frag} {mg : Str → Option Value} (T : Txt K mg) : Binds K T.d_are_tables ["many", "store", "thing"] [] := T.F_are_tables.binds fun _ _ _ _ _ _ us hl => by obtain ⟨_, _, _, rfl⟩ := usl3 hl; rfl
theorem bd_is_more {K : PySem.W.Frag} {mg : Str → Option Value} (T : Txt K mg) : Binds K T.d_is_more ["one", "other"] [] := T.F_is_more.binds fun _ _ _ _ _ _ us hl => by obtain ⟨_, _, rfl⟩ := usl2 hl; rfl
theorem bd_behind_way {K : PySem.W.Frag} {mg : Str → Option Value} (T : Txt K mg) : Binds K T.d_behind_way ["store", "table", "way"] [] := T.F_behind_way.binds fun _ _ _ _ _ _ us hl => by obtain ⟨_, _, _, rfl⟩ := usl3 hl; rfl
theorem bd_covers {K : PySem.W.Frag} {mg : Str → Option Value} (T : Txt K mg) : Binds K T.d_covers ["table", "base"] [] := T.F_covers.binds fun _ _ _ _ _ _ us hl => by obtain ⟨_, _, rfl⟩ := usl2 hl; rfl
theorem bd_leads_within {K : PySem.W.Frag} {mg : Str → Option Value} (T : Txt K mg) : Binds K T.d_leads_within ["land", "store", "table", "lid"] [] := T.F_leads_within.binds fun _ _ _ _ _ _ us hl => by obtain ⟨_, _, _, _, rfl⟩ := usl4 hl; rfl
theorem bd_first_row {K : PySem.W.Frag} {mg : Str → Option Value} (T : Txt K mg) : Binds K T.d_first_row ["table"] [] := T.F_first_row.binds fun _ _ _ _ _ _ us hl => by obtain ⟨_, rfl⟩ := usl1 hl; rfl
theorem bd_row_behind {K : PySem.W.Frag} {mg : Str → Option Value} (T : Txt K mg) : Binds K T.d_row_behind ["land", "store", "table", "stayed"] [] := T.F_row_behind.binds fun _ _ _ _ _ _ us hl => by obtain ⟨_, _, _, _, rfl⟩ := usl4 hl; rfl
theorem bd_walk_to {K : PySem.W.Frag} {mg : Str → Option Value} (T : Txt K mg) : Binds K T.d_walk_to ["land", "rows", "place"] [] := T.F_walk_to.binds fun _ _ _ _ _ _ us hl => by obtain ⟨_, _, _, rfl⟩ := usl3 hl; rfl
theorem bd_base_at {K : PySem.W.Frag} {mg : Str → Option Value} (T : Txt K mg) : Binds K T.d_base_at ["many", "spot"] [] := T.F_base_at.binds fun _ _ _ _ _ _ us hl => by obtain ⟨_, _, rfl⟩ := usl2 hl; rfl
theorem bd_has_enough {K : PySem.W.Frag} {mg : Str → Option Value} (T : Txt K mg) : Binds K T.d_has_enough ["table", "goal"] [] := T.F_has_enough.binds fun _ _ _ _ _ _ us hl => by obtain ⟨_, _, rfl⟩ := usl2 hl; rfl
theorem bd_soonest {K : PySem.W.Frag} {mg : Str → Option Value} (T : Txt K mg) : Binds K T.d_soonest ["land", "store", "begin", "goal", "most"] [] := T.F_soonest.binds fun _ _ _ _ _ _ us hl => by obtain ⟨_, _, _, _, _, rfl⟩ := usl5 hl; rfl
theorem bd_is_showing {K : PySem.W.Frag} {mg : Str → Option Value} (T : Txt K mg) : Binds K T.d_is_showing ["land", "store", "begin", "goal", "rows"] [] := T.F_is_showing.binds fun _ _ _ _ _ _ us hl => by obtain ⟨_, _, _, _, _, rfl⟩ := usl5 hl; rfl
theorem bd_hand {K : PySem.W.Frag} {mg : Str → Option Value} (T : Txt K mg) : Binds K T.d_hand ["_law_script"] [] := T.F_hand.binds fun _ _ _ _ _ _ us hl => by obtain ⟨_, rfl⟩ := usl1 hl; rfl
theorem bd_next {K : PySem.W.Frag} {mg : Str → Option Value} (T : Txt K mg) : Binds K T.d_next ["_law_hand_here"] [] := T.F_next.binds fun _ _ _ _ _ _ us hl => by obtain ⟨_, rfl⟩ := usl1 hl; rfl
theorem bd_take {K : PySem.W.Frag} {mg : Str → Option Value} (T : Txt K mg) : Binds K T.d_take ["_law_hand_here"] [] := T.F_take.binds fun _ _ _ _ _ _ us hl => by obtain ⟨_, rfl⟩ := usl1 hl; rfl
theorem bd_draw {K : PySem.W.Frag} {mg : Str → Option Value} (T : Txt K mg) : Binds K T.d_draw ["_law_hand_here", "_law_many"] [] := T.F_draw.binds fun _ _ _ _ _ _ us hl => by obtain ⟨_, _, rfl⟩ := usl2 hl; rfl
theorem bd_scale {K : PySem.W.Frag} {mg : Str → Option Value} (T : Txt K mg) : Binds K T.d_scale ["_law_hand_here"] [] := T.F_scale.binds fun _ _ _ _ _ _ us hl => by obtain ⟨_, rfl⟩ := usl1 hl; rfl
theorem bd_change {K : PySem.W.Frag} {mg : Str → Option Value} (T : Txt K mg) : Binds K T.d_change ["_law_hand_here", "_law_scale_here"] [] := T.F_change.binds fun _ _ _ _ _ _ us hl => by obtain ⟨_, _, rfl⟩ := usl2 hl; rfl
theorem bd_land {K : PySem.W.Frag} {mg : Str → Option Value} (T : Txt K mg) : Binds K T.d_land ["_law_hand_here", "_law_places", "_law_ways", "_law_scale_here"] [] := T.F_land.binds fun _ _ _ _ _ _ us hl => by obtain ⟨_, _, _, _, rfl⟩ := usl4 hl; rfl
theorem bd_step {K : PySem.W.Frag} {mg : Str → Option Value} (T : Txt K mg) : Binds K T.d_step ["_law_store", "_law_level", "_law_change_here"] [] := T.F_step.binds fun _ _ _ _ _ _ us hl => by obtain ⟨_, _, _, rfl⟩ := usl3 hl; rfl
theorem bd_law_is_whole {K : PySem.W.Frag} {mg : Str → Option Value} (T : Txt K mg) : Binds K T.d_law_is_whole ["_law_thing"] [] := T.F_law_is_whole.binds fun _ _ _ _ _ _ us hl => by obtain ⟨_, rfl⟩ := usl1 hl; rfl
theorem bd_law_is_table {K : PySem.W.Frag} {mg : Str → Option Value} (T : Txt K mg) : Binds K T.d_law_is_table ["_law_thing", "_law_many", "_law_store"] [] := T.F_law_is_table.binds fun _ _ _ _ _ _ us hl => by obtain ⟨_, _, _, rfl⟩ := usl3 hl; rfl
theorem bd_one {K : PySem.W.Frag} {mg : Str → Option Value} (T : Txt K mg) : Binds K T.d_one ["_law_many", "_law_spot"] [] := T.F_one.binds fun _ _ _ _ _ _ us hl => by obtain ⟨_, _, rfl⟩ := usl2 hl; rfl
theorem bd_further {K : PySem.W.Frag} {mg : Str → Option Value} (T : Txt K mg) : Binds K T.d_further ["_law_land_here", "_law_store", "_law_row"] [] := T.F_further.binds fun _ _ _ _ _ _ us hl => by obtain ⟨_, _, _, rfl⟩ := usl3 hl; rfl
theorem bd_scene {K : PySem.W.Frag} {mg : Str → Option Value} (T : Txt K mg) : Binds K T.d_scene ["_law_hand_here"] [] := T.F_scene.binds fun _ _ _ _ _ _ us hl => by obtain ⟨_, rfl⟩ := usl1 hl; rfl
theorem bd_enough {K : PySem.W.Frag} {mg : Str → Option Value} (T : Txt K mg) : Binds K T.d_enough ["_law_row", "_law_goal"] [] := T.F_enough.binds fun _ _ _ _ _ _ us hl => by obtain ⟨_, _, rfl⟩ := usl2 hl; rfl
theorem bd_rows_right {K : PySem.W.Frag} {mg : Str → Option Value} (T : Txt K mg) : Binds K T.d_rows_right ["_law_land_here", "_law_store", "_law_begin", "_law_goal", "_law_rows"] [] := T.F_rows_right.binds fun _ _ _ _ _ _ us hl => by obtain ⟨_, _, _, _, _, rfl⟩ := usl5 hl; rfl
theorem bd_walks {K : PySem.W.Frag} {mg : Str → Option Value} (T : Txt K mg) : Binds K T.d_walks ["_law_land_here", "_law_store", "_law_begin", "_law_goal", "_law_numbers"] [] := T.F_walks.binds fun _ _ _ _ _ _ us hl => by obtain ⟨_, _, _, _, _, rfl⟩ := usl5 hl; rfl
theorem bd_law {K : PySem.W.Frag} {mg : Str → Option Value} (T : Txt K mg) : Binds K T.d_law ["_law_script"] [] := T.F_law.binds fun _ _ _ _ _ _ us hl => by obtain ⟨_, rfl⟩ := usl1 hl; rfl
section
variable {P : Program} {w : World} {K : PySem.W.Frag} {mg : Str → Option Value} {base : Heap}
theorem ok_hand (T : Txt K mg) : FnOk P w K mg base CX0 1 T.a_hand T.d_hand ["_law_script"] (spHand K) := by
  refine T.F_hand.ok sc_hand (fun vs H Q E h => ?_) (fun cdv A outer s H vs Q E hr h => ?_)
  · obtain ⟨a, ns, rfl, _⟩ := h
    rfl
  · obtain ⟨a, ns, rfl, hS, k⟩ := h
    refine ⟨_, (pss_one (ps_ret (pe_lst (pa_cons (pe_callTy call_list_of rfl T.n_list bt_list (pa_cons (pe_slice sl_list (pv 0) po_none (po_some pe_int)) pa_nil se_Subscript) (he := se_Subscript) (hpl := np_nil)) (pa_cons pe_int (pa_cons pe_int (pa_cons pe_int (pa_cons pe_int (pa_cons pe_int pa_nil se_Constant) se_Constant) se_Constant) se_Constant) se_Constant) se_Call)))), ?_⟩
    refine ⟨_, rfl, _, rfl, a, _, rfl, hS, fun p1 h1 => ⟨p1, _, rfl, .inl (SqL.of upd_same), fun l hl => ⟨(by show 6 ≤ sizeLine; decide), fun p hp => ?_⟩⟩⟩
    have n1 : p ≠ p1 := (ne_of_none (H := upd (upd H p1 _) l _) (by rw [upd_ne (ne_of_none upd_same hl)]; exact upd_same) hp).symm
    have n2 : p ≠ l := (ne_of_none (H := upd (upd H p1 _) l _) upd_same hp).symm
    have hp0 : H p = none := by rw [upd_ne n2, upd_ne n1] at hp; exact hp
    have hl0 : H l = none := by
      have nl : l ≠ p1 := (ne_of_none upd_same hl).symm
      rw [upd_ne nl] at hl; exact hl
    refine k p l _ hp0 hl0 ⟨(ns.drop (HT.sIx (ns.map V.int).length 0 none)).take (HT.sIx (ns.map V.int).length (ns.map V.int).length (some 63) - HT.sIx (ns.map V.int).length 0 none), 0, 0, 0, 20011, 40009, ?_, Int.le_refl _, upd_same⟩ (((Same.refl H).lay h1).lay hl |>.lay hp)
    rw [upd_ne n2.symm, upd_same]
    unfold cutV
    rw [List.map_take, List.map_drop]
theorem ok_next (T : Txt K mg) : FnOk P w K mg base CX0 1 T.a_next T.d_next ["_law_hand_here"] spNext := by
  refine T.F_next.ok sc_next (fun vs H Q E h => ?_) (fun cdv A outer s H vs Q E hr h => ?_)
  · obtain ⟨a, l, rfl, _⟩ := h
    rfl
  · obtain ⟨a, l, rfl, ⟨ns, p, b, c, u, v, hl, hp, ha⟩, k⟩ := h
    have ne := ne_hand hl ha
    refine ⟨_, (pss_cons (ps_asg (pe_op op_mod (pe_op op_mul (pe_ix ix_list (pv 0) pe_int (fun _ _ => rfl)) pe_int) pe_int) (pg_sub (pv 0) pe_int set_list))
      (pss_cons (ps_asg (pe_op op_mod (pe_op op_mul (pe_ix ix_list (pv 0) pe_int (fun _ _ => rfl)) pe_int) pe_int) (pg_sub (pv 0) pe_int set_list))
      (pss_one (ps_ret (pe_op op_add (pe_ix ix_list (pv 0) pe_int (fun _ _ => rfl)) (pe_ix ix_list (pv 0) pe_int (fun _ _ => rfl))))))), ?_⟩
    refine ⟨_, rfl, a, _, _, _, rfl, rfl, SqL.of ha, rfl, _, _, rfl, rfl, .inr ⟨by decide, by decide⟩, _, _, rfl, rfl, (by first | decide | (dsimp only; decide)), _, rfl, a, _, _, _, rfl, rfl, ha, rfl, ?_⟩
    refine ⟨_, rfl, a, _, _, _, rfl, rfl, SqL.of upd_same, rfl, _, _, rfl, rfl, .inr ⟨by decide, by decide⟩, _, _, rfl, rfl, (by first | decide | (dsimp only; decide)), _, rfl, a, _, _, _, rfl, rfl, upd_same, rfl, ?_⟩
    refine ⟨_, rfl, a, _, _, _, rfl, rfl, SqL.of upd_same, rfl, _, rfl, a, _, _, _, rfl, rfl, SqL.of upd_same, rfl, _, _, rfl, rfl, ?_⟩
    exact k _ _ ⟨ns, p, b, c, _, _, by rw [upd_ne ne, upd_ne ne]; exact hl, hp, upd_same⟩ fun b o e nb => by rw [upd_ne nb, upd_ne nb]; exact e
theorem ok_take (T : Txt K mg) : FnOk P w K mg base CX0 2 T.a_take T.d_take ["_law_hand_here"] spTake := by
  have G_next : FnOk P w K mg base CX0 1 T.a_next T.d_next ["_law_hand_here"] spNext := ok_next T
  have b_next := bd_next T
  refine T.F_take.ok sc_take (fun vs H Q E h => ?_) (fun cdv A outer s H vs Q E hr h => ?_)
  · obtain ⟨a, l, rfl, _⟩ := h
    rfl
  · obtain ⟨a, l, rfl, ⟨ns, p, b, c, u, v, hl, hp, ha⟩, k⟩ := h
    have ne := ne_hand hl ha
    refine ⟨_, (pss_cons (ps_set (i := 1) sc_take.nd rfl (Or.inl rfl) pe_int)
      (pss_cons (ps_mid (ps_if (pt_cmpR op_lt (pe_ix ix_list (pv 0) pe_int (fun _ _ => rfl)) (pe_callB call_len_seq rfl T.n_len bt_len (pa_cons (pe_ix ix_list (pv 0) pe_int (fun _ _ => rfl)) pa_nil se_Subscript) (he := se_Subscript) (hpl := np_nil)) (nomark _))
      (pss_one (ps_set (i := 1) sc_take.nd rfl (Or.inl rfl) (pe_callB call_abs rfl T.n_abs bt_abs (pa_cons (pe_ix ix_list (pe_ix ix_list (pv 0) pe_int (fun _ _ => rfl)) (pe_ix ix_list (pv 0) pe_int (fun _ _ => rfl)) (fun _ _ => rfl)) pa_nil se_Subscript) (he := se_Subscript) (hpl := np_nil))))
      pss_nil))
      (pss_cons (ps_augS (pv 0) pe_int get_list pe_int ip_add set_list)
      (pss_cons (ps_mid (ps_if (pt_cmpR op_ge (pv 1) (pe_op op_pow pe_int pe_int) (nomark _))
      (pss_one (ps_asg (pv 1) (pg_sub (pv 0) pe_int set_list)))
      (pss_one (ps_asg pe_int (pg_sub (pv 0) pe_int set_list)))))
      (pss_cons (ps_asg (pe_op op_add (pe_op op_mod (pe_op op_add (pe_ix ix_list (pv 0) pe_int (fun _ _ => rfl)) (pe_op op_mod (pv 1) pe_int)) pe_int) pe_int) (pg_sub (pv 0) pe_int set_list))
      (pss_cons (ps_asg (pe_op op_add (pe_op op_mod (pe_op op_add (pe_op op_mul (pe_ix ix_list (pv 0) pe_int (fun _ _ => rfl)) pe_int) (pe_op op_mod (pv 1) pe_int)) pe_int) pe_int) (pg_sub (pv 0) pe_int set_list))
      (pss_cons (ps_expr (pe_call G_next (hr.mono (by decide)) rfl T.mg_next T.kp_next b_next .nil pass0 (pa_cons (pv 0) pa_nil se_Name) (he := se_Name) (hpl := np_nil)))
      (pss_one (ps_expr (pe_call G_next (hr.mono (by decide)) rfl T.mg_next T.kp_next b_next .nil pass0 (pa_cons (pv 0) pa_nil se_Name) (he := se_Name) (hpl := np_nil))))))))))), ?_⟩
    refine ⟨fun σ H1 => H = H1 ∧ ∃ z : Int, σ = [some (.ref a), some (.int z)], ?_, ?_⟩
    · refine ⟨_, rfl, a, _, _, _, rfl, rfl, SqL.of ha, rfl, _, rfl, a, _, _, _, rfl, rfl, SqL.of ha, rfl, l, _, rfl, .inl (SqL.of hl), _, _, rfl, rfl, _, rfl, ?_⟩
      refine ite2 (fun hlt => ?_) (fun _ => ⟨rfl, _, rfl⟩)
      have hlt' : p < (ns.length : Int) := by simpa using hlt
      obtain ⟨z, hz⟩ := atI_ints hp hlt'
      exact ⟨_, rfl, a, _, _, _, rfl, rfl, SqL.of ha, rfl, _, rfl, a, _, _, _, rfl, rfl, SqL.of ha, rfl, l, _, _, _, rfl, rfl, SqL.of hl, hz, _, rfl, rfl, _, rfl⟩
    · rintro σ H1 ⟨rfl, z, rfl⟩
      refine ⟨_, rfl, a, _, _, _, rfl, rfl, (by first | decide | (dsimp only; decide)), SqL.of ha, rfl, _, _, rfl, rfl, a, _, _, _, rfl, rfl, ha, rfl, ?_⟩
      refine ⟨fun σ H1 => σ = [some (.ref a), some (.int z)] ∧ Hd H1 a l ∧ Kp a H H1, ?_, ?_⟩
      · refine ⟨_, rfl, _, _, rfl, rfl, ⟨by decide, by decide, by decide⟩, _, _, rfl, rfl, _, rfl, ?_⟩
        refine ite2 (fun _ => ?_) (fun _ => ?_)
        · refine ⟨_, rfl, _, rfl, a, _, _, _, rfl, rfl, upd_same, rfl, rfl, ⟨ns, p + 1, _, _, _, _, by rw [upd_ne ne, upd_ne ne]; exact hl, by omega, upd_same⟩, fun b o e nb => by rw [upd_ne nb, upd_ne nb]; exact e⟩
        · refine ⟨_, rfl, a, _, _, _, rfl, rfl, upd_same, rfl, rfl, ⟨ns, p + 1, _, _, _, _, by rw [upd_ne ne, upd_ne ne]; exact hl, by omega, upd_same⟩, fun b o e nb => by rw [upd_ne nb, upd_ne nb]; exact e⟩
      · rintro σ H1 ⟨rfl, ⟨ns, p, b, c, u, v, hl, hp, ha⟩, k1⟩
        have ne := ne_hand hl ha
        refine ⟨_, rfl, a, _, _, _, rfl, rfl, SqL.of ha, rfl, _, rfl, _, _, rfl, rfl, (by first | decide | (dsimp only; decide)), _, _, rfl, rfl, _, _, rfl, rfl, (by first | decide | (dsimp only; decide)), _, _, rfl, rfl, _, rfl, a, _, _, _, rfl, rfl, ha, rfl, ?_⟩
        refine ⟨_, rfl, a, _, _, _, rfl, rfl, SqL.of upd_same, rfl, _, _, rfl, rfl, .inr ⟨by decide, by decide⟩, _, rfl, _, _, rfl, rfl, (by first | decide | (dsimp only; decide)), _, _, rfl, rfl, _, _, rfl, rfl, (by first | decide | (dsimp only; decide)), _, _, rfl, rfl, _, rfl, a, _, _, _, rfl, rfl, upd_same, rfl, ?_⟩
        refine ⟨_, rfl, a, l, rfl, ⟨ns, p, _, _, _, _, by rw [upd_ne ne, upd_ne ne]; exact hl, hp, upd_same⟩, fun r H2 h2 k2 => ?_⟩
        refine ⟨_, rfl, a, l, rfl, h2, fun r H3 h3 k3 => ?_⟩
        exact k H3 h3 (((k1.trans fun b o e nb => by rw [upd_ne nb, upd_ne nb]; exact e).trans k2).trans k3)
theorem ok_draw (T : Txt K mg) : FnOk P w K mg base CX0 3 T.a_draw T.d_draw ["_law_hand_here", "_law_many"] spDraw := by
  have G_next : FnOk P w K mg base CX0 1 T.a_next T.d_next ["_law_hand_here"] spNext := ok_next T
  have G_take : FnOk P w K mg base CX0 2 T.a_take T.d_take ["_law_hand_here"] spTake := ok_take T
  have b_next := bd_next T
  have b_take := bd_take T
  refine T.F_draw.ok sc_draw (fun vs H Q E h => ?_) (fun cdv A outer s H vs Q E hr h => ?_)
  · obtain ⟨a, l, m, rfl, _⟩ := h
    rfl
  · obtain ⟨a, l, m, rfl, hd, hm0, hm1, k⟩ := h
    refine ⟨_, (pss_cons (ps_mid (ps_if (PW.pt (pw_and (pt_cmpR op_eq (pe_ix ix_list (pv 0) pe_int (fun _ _ => rfl)) pe_int (nomark _)) (pw_and1 (pt_cmpR op_eq (pe_ix ix_list (pv 0) pe_int (fun _ _ => rfl)) pe_int (nomark _)))))
      (pss_one (ps_expr (pe_call G_take (hr.mono (by decide)) rfl T.mg_take T.kp_take b_take .nil pass0 (pa_cons (pv 0) pa_nil se_Name) (he := se_Name) (hpl := np_nil))))
      pss_nil))
      (pss_cons (ps_mid (ps_if (pt_cmpR op_gt (pe_ix ix_list (pv 0) pe_int (fun _ _ => rfl)) pe_int (nomark _))
      (pss_cons (ps_set (i := 2) sc_draw.nd rfl (Or.inl rfl) (pe_op op_mod (pe_ix ix_list (pv 0) pe_int (fun _ _ => rfl)) (pv 1)))
      (pss_cons (ps_asg (pe_op op_fdivB (pe_ix ix_list (pv 0) pe_int (fun _ _ => rfl)) (pv 1)) (pg_sub (pv 0) pe_int set_list))
      (pss_one (ps_ret (pv 2)))))
      pss_nil))
      (pss_cons (ps_augS (pv 0) pe_int get_list pe_int ip_sub set_list)
      (pss_cons (ps_set (i := 3) sc_draw.nd rfl (Or.inl rfl) (pe_call G_next (hr.mono (by decide)) rfl T.mg_next T.kp_next b_next .nil pass0 (pa_cons (pv 0) pa_nil se_Name) (he := se_Name) (hpl := np_nil)))
      (pss_cons (ps_set (i := 4) sc_draw.nd rfl (Or.inl rfl) pe_int)
      (pss_cons (ps_while PassesOwn.never (pt_cmpR op_lt (pv 4) (pv 1) (nomark _))
      (pss_cons (ps_set (i := 3) sc_draw.nd rfl (Or.inl rfl) (pe_op op_add (pe_op op_mul (pv 3) pe_int) (pe_call G_next (hr.mono (by decide)) rfl T.mg_next T.kp_next b_next .nil pass0 (pa_cons (pv 0) pa_nil se_Name) (he := se_Name) (hpl := np_nil))))
      (pss_one (ps_set (i := 4) sc_draw.nd rfl (Or.inl rfl) (pe_op op_mul (pv 4) pe_int)))))
      (pss_one (ps_ret (pe_op op_mod (pv 3) (pv 1)))))))))), ?_⟩
    refine ⟨fun σ H1 => σ = [some (.ref a), some (.int m), none, none, none] ∧ Hd H1 a l ∧ Kp a H H1, ?_, ?_⟩
    · obtain ⟨ns, p, b, c, u, v, hl, hp, ha⟩ := id hd
      refine ⟨_, rfl, a, _, _, _, rfl, rfl, SqL.of ha, rfl, rfl, _, rfl, ?_⟩
      refine ite2 (fun _ => ?_) (fun _ => iteF ⟨rfl, hd, .refl a H⟩)
      refine ⟨_, rfl, a, _, _, _, rfl, rfl, SqL.of ha, rfl, rfl, _, rfl, ?_⟩
      refine ite2 (fun _ => ?_) (fun _ => ⟨rfl, hd, .refl a H⟩)
      exact ⟨_, rfl, a, l, rfl, hd, fun H1 h1 k1 => ⟨rfl, h1, k1⟩⟩
    · rintro σ H1 ⟨rfl, ⟨ns, p, b, c, u, v, hl, hp, ha⟩, k1⟩
      have ne := ne_hand hl ha
      refine ⟨fun σ H2 => H1 = H2 ∧ σ = [some (.ref a), some (.int m), none, none, none], ?_, ?_⟩
      · refine ⟨_, rfl, a, _, _, _, rfl, rfl, SqL.of ha, rfl, _, _, rfl, rfl, _, rfl, ?_⟩
        refine ite2 (fun _ => ?_) (fun _ => ⟨rfl, rfl⟩)
        refine ⟨_, rfl, a, _, _, _, rfl, rfl, SqL.of ha, rfl, _, rfl, _, _, rfl, rfl, hm0, ?_⟩
        refine ⟨_, rfl, a, _, _, _, rfl, rfl, SqL.of ha, rfl, _, rfl, _, _, rfl, rfl, ⟨hm0, hm1⟩, _, rfl, a, _, _, _, rfl, rfl, ha, rfl, ?_⟩
        refine ⟨_, rfl, ?_⟩
        exact k _ _ (Int.emod_nonneg _ (by omega)) (Int.emod_lt_of_pos _ hm0) ⟨ns, p, _, _, _, _, by rw [upd_ne ne]; exact hl, hp, upd_same⟩ (k1.trans fun b o e nb => by rw [upd_ne nb]; exact e)
      · rintro σ H2 ⟨rfl, rfl⟩
        refine ⟨_, rfl, a, _, _, _, rfl, rfl, (by first | decide | (dsimp only; decide)), SqL.of ha, rfl, _, _, rfl, rfl, a, _, _, _, rfl, rfl, ha, rfl, ?_⟩
        refine ⟨_, rfl, a, l, rfl, ⟨ns, p, _, _, _, _, by rw [upd_ne ne]; exact hl, hp, upd_same⟩, fun r H3 h3 k3 => ?_⟩
        have k3' : Kp a H H3 := (k1.trans fun b o e nb => by rw [upd_ne nb]; exact e).trans k3
        refine while_by (fun σ H4 => ∃ (val sz : Int), σ = [some (.ref a), some (.int m), none, some (.int val), some (.int sz)] ∧ Hd H4 a l ∧ Kp a H H4 ∧ 0 < sz)
          (fun σ _ => match σ with | [_, _, _, _, some (.int sz)] => (m - sz).toNat | _ => 0) ⟨r, 4294967296, rfl, h3, k3', by decide⟩ ?_ (fun σ H Q Q' f ⟨v, e1, u, e2, i, j, e3, e4, c, e5, q⟩ => ⟨v, e1, u, e2, i, j, e3, e4, c, e5, f _ _ q⟩)
        rintro σ H4 ⟨val, sz, rfl, h4, k4, hsz⟩
        refine ⟨_, rfl, _, rfl, _, _, rfl, rfl, _, rfl, ?_⟩
        refine ite2 (fun hlt => ?_) (fun _ => ?_)
        · have hlt' : sz < m := by simpa using hlt
          refine ⟨_, rfl, _, _, rfl, rfl, .inr ⟨by decide, by decide⟩, _, rfl, a, l, rfl, h4, fun r H5 h5 k5 => ⟨_, _, rfl, rfl, ?_⟩⟩
          refine ⟨_, rfl, _, _, rfl, rfl, .inr ⟨by decide, by decide⟩, ?_⟩
          refine ⟨⟨_, sz * 4294967296, rfl, h5, k4.trans k5, by omega⟩, ?_⟩
          show (m - sz * 4294967296).toNat < (m - sz).toNat
          omega
        · refine ⟨_, rfl, _, rfl, _, _, rfl, rfl, hm0, ?_⟩
          exact k _ _ (Int.emod_nonneg _ (by omega)) (Int.emod_lt_of_pos _ hm0) h4 k4
end
local macro_rules | `(tactic| decreasing_tactic) => `(tactic| try dsimp only [dSeq, dSeqG, dSet, dOwn, dOp, dVar, dIfS, dT, dRet, dDrop, dCb, dCons, dNil, dC, dF, dLst, dTup, dNeg, dNot, dAnd, dOr, dAndV, dOrV, dNotV, dBV, dIf, dChain, dIx, dIxV, dLenV, dListV, dList, dSlV, dSl, dCat, dRep, dIsiV, dIsi, dCall, aNil, aV, aS, arsD, arD, isSl, slotD, bnd_some, ixD, lenD, listD, itemsD, gI, gI0, gAdd, gMns, gMul, gMod, gDiv, gPow, gLt, gLe, gGt, gGe, gEq, gIsN, isN, gLen, gMin, gMax, gI2, gAbs, gInt, gAll, gAny, dNext, dLrev, dApp, dSetI, dAsg, gN, gT2, gT3, gT5, gInS, strsD, gMaxP, dPopI, dLrng, dZip, dCompT2, dComp, dCompT3, dIndexV, gIn, gB2, oN, oS, startN, slOf, a1_0, a2_0, a2_1, a3_0, a3_1, a3_2, isiD, tyD, List.tail_cons, List.tail_nil, List.getElem?_cons_zero, List.getElem?_cons_succ, List.set_cons_zero, List.set_cons_succ, List.length_cons, List.length_nil, Option.bind_some, Option.map_some, List.cons_append, List.nil_append, iteTT, iteFF, iteTB, iteFB, iteTI, iteFI, Bool.not_true, Bool.not_false, dLendO, dLendOB, dCallF, arsF, arF, dNewA, dClrA, dForA, dSetL, dLVar, lentD, dIxL, dFlat, flatD, dLenL, dIsiL, dIsNL, dListL, dLendE, dLendB, noBB, dNewT, flatM, dMutA, dMutN, dMutC, aW, dNinD, dCallS, arsS, arS])
local macro_rules | `(tactic| array_get_dec) => `(tactic| try dsimp only [dFor, dIl, dIv, dIt, dRng1, dRng2, dEnum, dIrev, dIL, dEnumL, dForL, dRevL, dILn, dSeq, dSeqG, dSet, dOwn, dOp, dVar, dIfS, dT, dRet, dDrop, dCb, dCons, dNil, dC, dF, dLst, dTup, dNeg, dNot, dAnd, dOr, dAndV, dOrV, dNotV, dBV, dIf, dChain, dIx, dIxV, dLenV, dListV, dList, dSlV, dSl, dCat, dRep, dIsiV, dIsi, dCall, aNil, aV, aS, arsD, arD, isSl, slotD, bnd_some, ixD, lenD, listD, itemsD, gI, gI0, gAdd, gMns, gMul, gMod, gDiv, gPow, gLt, gLe, gGt, gGe, gEq, gIsN, isN, gLen, gMin, gMax, gI2, gAbs, gInt, gAll, gAny, dNext, dLrev, dApp, dSetI, dAsg, gN, gT2, gT3, gT5, gInS, strsD, gMaxP, dPopI, dLrng, dZip, dCompT2, dComp, dCompT3, dIndexV, gIn, gB2, oN, oS, startN, slOf, a1_0, a2_0, a2_1, a3_0, a3_1, a3_2, isiD, tyD, List.tail_cons, List.tail_nil, List.getElem?_cons_zero, List.getElem?_cons_succ, List.set_cons_zero, List.set_cons_succ, List.length_cons, List.length_nil, Option.bind_some, Option.map_some, List.cons_append, List.nil_append, iteTT, iteFF, iteTB, iteFB, iteTI, iteFI, Bool.not_true, Bool.not_false, dLendO, dLendOB, dCallF, arsF, arF, dNewA, dClrA, dForA, dSetL, dLVar, lentD, dIxL, dFlat, flatD, dLenL, dIsiL, dIsNL, dListL, dLendE, dLendB, noBB, dNewT, flatM, dMutA, dMutN, dMutC, aW, dNinD, dCallS, arsS, arS])
local macro_rules | `(tactic| sizeOf_list_dec) => `(tactic| try dsimp only [Blk, dSeq, dSeqG, dSet, dOwn, dOp, dVar, dIfS, dT, dRet, dDrop, dCb, dCons, dNil, dC, dF, dLst, dTup, dNeg, dNot, dAnd, dOr, dAndV, dOrV, dNotV, dBV, dIf, dChain, dIx, dIxV, dLenV, dListV, dList, dSlV, dSl, dCat, dRep, dIsiV, dIsi, dCall, aNil, aV, aS, arsD, arD, isSl, slotD, bnd_some, ixD, lenD, listD, itemsD, gI, gI0, gAdd, gMns, gMul, gMod, gDiv, gPow, gLt, gLe, gGt, gGe, gEq, gIsN, isN, gLen, gMin, gMax, gI2, gAbs, gInt, gAll, gAny, dNext, dLrev, dApp, dSetI, dAsg, gN, gT2, gT3, gT5, gInS, strsD, gMaxP, dPopI, dLrng, dZip, dCompT2, dComp, dCompT3, dIndexV, gIn, gB2, oN, oS, startN, slOf, a1_0, a2_0, a2_1, a3_0, a3_1, a3_2, isiD, tyD, List.tail_cons, List.tail_nil, List.getElem?_cons_zero, List.getElem?_cons_succ, List.set_cons_zero, List.set_cons_succ, List.length_cons, List.length_nil, Option.bind_some, Option.map_some, List.cons_append, List.nil_append, iteTT, iteFF, iteTB, iteFB, iteTI, iteFI, Bool.not_true, Bool.not_false, dLendO, dLendOB, dCallF, arsF, arF, dNewA, dClrA, dForA, dSetL, dLVar, lentD, dIxL, dFlat, flatD, dLenL, dIsiL, dIsNL, dListL, dLendE, dLendB, noBB, dNewT, flatM, dMutA, dMutN, dMutC, aW, dNinD, dCallS, arsS, arS])
theorem units_of {k : Nat} {A : Around} (hr : Room k A) : A.units + 64 < cLine := hr.units
def spDrawD : DSp := fun ds Q => ∃ m : Int, ds = [.none, .int m] ∧ 0 < m ∧ m < 100000000000000000000000000000000000000000000000000000000000000 ∧ ∀ r : Int, 0 ≤ r → r < m → Q (.int r)
theorem hd_args {F : Addr → Prop} {hand : Option (Addr × Addr)} {H : Hp} {vs : List V} {ds : List PyData} {ms : List Md} (a : ArgsR F hand H (.hd :: ms) vs ds) : ∃ q vs' d ds', hand = some q ∧ vs = .ref q.1 :: vs' ∧ ds = d :: ds' ∧ ArgsR F hand H ms vs' ds' := by
  cases a with
  | cons x t =>
    obtain ⟨q, e, rfl⟩ := x
    exact ⟨q, _, _, _, e, rfl, rfl, t⟩
section
variable {P : Program} {w : World} {K : PySem.W.Frag} {mg : Str → Option Value} {base : Heap}
theorem ok_drawD (T : Txt K mg) : FnOk P w K mg base CX0 3 T.a_draw T.d_draw ["_law_hand_here", "_law_many"] (spD [.hd, .sh] spDrawD) := (ok_draw T).imp fun vs H Q E h => by
  obtain ⟨F, hand, ds, Qd, h1, h2, h3, a, ⟨m, rfl, m0, m1, hr⟩, h5⟩ := h
  obtain ⟨q, vs', d, ds', e, rfl, e2, a⟩ := hd_args a
  cases e2
  subst e
  cases a with
  | cons x t =>
    cases t
    cases (show ThV F H _ (.int m) from x)
    exact ⟨q.1, q.2, m, rfl, h3 q rfl, m0, m1, fun r H' r0 r1 hd kp => h5 _ _ _ (hr r r0 r1) (.int r) (fun b o eb n => kp b o eb (n q rfl)) fun q' e' => by cases e'; exact hd⟩
end
def oD : Option Int → PyData
  | none => .none
  | some i => .int i
def onD : Option Nat → PyData
  | none => .none
  | some n => .int (n : Nat)
def intsL (ns : List Int) : List PyData := ns.map PyData.int
def tabL (t : Tb) : List PyData := t.map oD
def rnL (t : Rn) : List PyData := t.map onD
def rowD (r : Rw) : PyData := .tuple [.list (tabL r.1), .list (rnL r.2)]
def wayD (w : Wy) : PyData := .tuple [.int (w.1 : Nat), .int (w.2.1 : Nat), .int w.2.2]
def landD (m : Nat) (ws : List Wy) : PyData := .tuple [.int (m : Nat), .list (ws.map wayD)]
def effD : Ef → PyData
  | none => .none
  | some (l, g, t) => .tuple [.int l, .int g, .int t]
def numL (ns : List Nat) : List PyData := ns.map fun n => .int (n : Nat)
def partD (p : List Nat × Int) : PyData := .tuple [.list (numL p.1), .int p.2]
local macro_rules | `(tactic| decreasing_trivial) => `(tactic| try dsimp only [dSeq, dSeqG, dSet, dOwn, dOp, dVar, dIfS, dT, dRet, dDrop, dCb, dCons, dNil, dC, dF, dLst, dTup, dNeg, dNot, dAnd, dOr, dAndV, dOrV, dNotV, dBV, dIf, dChain, dIx, dIxV, dLenV, dListV, dList, dSlV, dSl, dCat, dRep, dIsiV, dIsi, dCall, aNil, aV, aS, arsD, arD, isSl, slotD, bnd_some, ixD, lenD, listD, itemsD, gI, gI0, gAdd, gMns, gMul, gMod, gDiv, gPow, gLt, gLe, gGt, gGe, gEq, gIsN, isN, gLen, gMin, gMax, gI2, gAbs, gInt, gAll, gAny, dNext, dLrev, dApp, dSetI, dAsg, gN, gT2, gT3, gT5, gInS, strsD, gMaxP, dPopI, dLrng, dZip, dCompT2, dComp, dCompT3, dIndexV, gIn, gB2, oN, oS, startN, slOf, a1_0, a2_0, a2_1, a3_0, a3_1, a3_2, isiD, tyD, List.tail_cons, List.tail_nil, List.getElem?_cons_zero, List.getElem?_cons_succ, List.set_cons_zero, List.set_cons_succ, List.length_cons, List.length_nil, Option.bind_some, Option.map_some, List.cons_append, List.nil_append, iteTT, iteFF, iteTB, iteFB, iteTI, iteFI, Bool.not_true, Bool.not_false, dLendO, dLendOB, dCallF, arsF, arF, dNewA, dClrA, dForA, dSetL, dLVar, lentD, dIxL, dFlat, flatD, dLenL, dIsiL, dIsNL, dListL, dLendE, dLendB, noBB, dNewT, flatM, dMutA, dMutN, dMutC, aW, dNinD, dCallS, arsS, arS, oD, onD, effD, rowD, landD, wayD, partD, spotD])
local macro_rules | `(tactic| array_mem_dec) => `(tactic| try dsimp only [dFor, dIl, dIv, dIt, dRng1, dRng2, dEnum, dIrev, dIL, dEnumL, dForL, dRevL, dILn, dSeq, dSeqG, dSet, dOwn, dOp, dVar, dIfS, dT, dRet, dDrop, dCb, dCons, dNil, dC, dF, dLst, dTup, dNeg, dNot, dAnd, dOr, dAndV, dOrV, dNotV, dBV, dIf, dChain, dIx, dIxV, dLenV, dListV, dList, dSlV, dSl, dCat, dRep, dIsiV, dIsi, dCall, aNil, aV, aS, arsD, arD, isSl, slotD, bnd_some, ixD, lenD, listD, itemsD, gI, gI0, gAdd, gMns, gMul, gMod, gDiv, gPow, gLt, gLe, gGt, gGe, gEq, gIsN, isN, gLen, gMin, gMax, gI2, gAbs, gInt, gAll, gAny, dNext, dLrev, dApp, dSetI, dAsg, gN, gT2, gT3, gT5, gInS, strsD, gMaxP, dPopI, dLrng, dZip, dCompT2, dComp, dCompT3, dIndexV, gIn, gB2, oN, oS, startN, slOf, a1_0, a2_0, a2_1, a3_0, a3_1, a3_2, isiD, tyD, List.tail_cons, List.tail_nil, List.getElem?_cons_zero, List.getElem?_cons_succ, List.set_cons_zero, List.set_cons_succ, List.length_cons, List.length_nil, Option.bind_some, Option.map_some, List.cons_append, List.nil_append, iteTT, iteFF, iteTB, iteFB, iteTI, iteFI, Bool.not_true, Bool.not_false, dLendO, dLendOB, dCallF, arsF, arF, dNewA, dClrA, dForA, dSetL, dLVar, lentD, dIxL, dFlat, flatD, dLenL, dIsiL, dIsNL, dListL, dLendE, dLendB, noBB, dNewT, flatM, dMutA, dMutN, dMutC, aW, dNinD, dCallS, arsS, arS, oD, onD, effD, rowD, landD, wayD, partD, spotD])
local macro_rules | `(tactic| decreasing_trivial_pre_omega) => `(tactic| try dsimp only [Blk, dSeq, dSeqG, dSet, dOwn, dOp, dVar, dIfS, dT, dRet, dDrop, dCb, dCons, dNil, dC, dF, dLst, dTup, dNeg, dNot, dAnd, dOr, dAndV, dOrV, dNotV, dBV, dIf, dChain, dIx, dIxV, dLenV, dListV, dList, dSlV, dSl, dCat, dRep, dIsiV, dIsi, dCall, aNil, aV, aS, arsD, arD, isSl, slotD, bnd_some, ixD, lenD, listD, itemsD, gI, gI0, gAdd, gMns, gMul, gMod, gDiv, gPow, gLt, gLe, gGt, gGe, gEq, gIsN, isN, gLen, gMin, gMax, gI2, gAbs, gInt, gAll, gAny, dNext, dLrev, dApp, dSetI, dAsg, gN, gT2, gT3, gT5, gInS, strsD, gMaxP, dPopI, dLrng, dZip, dCompT2, dComp, dCompT3, dIndexV, gIn, gB2, oN, oS, startN, slOf, a1_0, a2_0, a2_1, a3_0, a3_1, a3_2, isiD, tyD, List.tail_cons, List.tail_nil, List.getElem?_cons_zero, List.getElem?_cons_succ, List.set_cons_zero, List.set_cons_succ, List.length_cons, List.length_nil, Option.bind_some, Option.map_some, List.cons_append, List.nil_append, iteTT, iteFF, iteTB, iteFB, iteTI, iteFI, Bool.not_true, Bool.not_false, dLendO, dLendOB, dCallF, arsF, arF, dNewA, dClrA, dForA, dSetL, dLVar, lentD, dIxL, dFlat, flatD, dLenL, dIsiL, dIsNL, dListL, dLendE, dLendB, noBB, dNewT, flatM, dMutA, dMutN, dMutC, aW, dNinD, dCallS, arsS, arS, oD, onD, effD, rowD, landD, wayD, partD, spotD])
theorem tab_at {t : Tb} {p : Nat} (h : p < t.length) : atI (tabL t) ((p : Nat) : Int) = some (oD (gt t p)) := atI_nat (by unfold tabL; rw [List.getElem?_map, gt_at h]; rfl)
theorem rn_at {t : Rn} {p : Nat} (h : p < t.length) : atI (rnL t) ((p : Nat) : Int) = some (onD (gt t p)) := atI_nat (by unfold rnL; rw [List.getElem?_map, gt_at h]; rfl)
theorem way_at {ws : List Wy} {n : Nat} {w : Wy} (h : ws[n]? = some w) : atI (ws.map wayD) ((n : Nat) : Int) = some (wayD w) := atI_nat (by rw [List.getElem?_map, h]; rfl)
theorem ixN_nat {n j : Nat} (h : j < n) : ixN n ((j : Nat) : Int) = some j := by
  unfold ixN
  rw [if_pos (by omega), if_pos (by omega)]
  simp
theorem isN_oD (o : Option Int) : isN (oD o) = o.isNone := by cases o <;> rfl
theorem isN_onD (o : Option Nat) : isN (onD o) = o.isNone := by cases o <;> rfl
theorem atI_last1 {α : Type} {xs : List α} {x : α} (h : xs.getLast? = some x) : atI xs (-1) = some x := by
  obtain ⟨ys, rfl⟩ := List.getLast?_eq_some_iff.mp h
  exact atI_last ys x
def spStepD : DSp := fun ds Q => ∃ st lv ch : Int, ds = [.int st, .int lv, .int ch] ∧ Q (oD (stepF st lv ch))
def spLevsD : DSp := fun ds Q => ∃ (st lv : Int) (cs : List Int), ds = [.int st, .int lv, .list (intsL cs)] ∧ cs.length ≤ 900 ∧ Q (.list (intsL (levF st lv cs)))
def spNoneD : DSp := fun ds Q => ∃ st : Int, ds = [.int st] ∧ Q (effD (some (0, 0, st)))
def spOneD : DSp := fun ds Q => ∃ st c : Int, ds = [.int st, .int c] ∧ Q (effD (oneF st c))
def spPassedD : DSp := fun ds Q => ∃ (e : Ef) (x : Int), ds = [effD e, .int x] ∧ Q (oD (passF e x))
def spJoinedD : DSp := fun ds Q => ∃ a b : Ef, ds = [effD a, effD b] ∧ Q (effD (joinF a b))
def spFxD : DSp := fun ds Q => ∃ (st : Int) (cs : List Int), ds = [.int st, .list (intsL cs)] ∧ Q (effD (fxF st cs))
def wholeD (d : PyData) : Bool := isiD "int" d && !isiD "bool" d
def spWholeD : DSp := fun ds Q => ∃ d, ds = [d] ∧ Q (.bool (wholeD d))
def spPlaceD : DSp := fun ds Q => ∃ (m : Int) (n : Int), ds = [.int m, .int n] ∧ Q (.bool (decide (0 ≤ n ∧ n < m)))
def spMoreD : DSp := fun ds Q => ∃ a b : Option Int, ds = [oD a, oD b] ∧ Q (.bool (moreF a b))
def spBehD : DSp := fun ds Q => ∃ (st : Int) (t : Tb) (w : Wy), ds = [.int st, .list (tabL t), wayD w] ∧ w.1 < t.length ∧ Q (oD (behF st t w))
section
variable {P : Program} {w : World} {K : PySem.W.Frag} {mg : Str → Option Value} {base : Heap}
theorem ok_stepped (T : Txt K mg) : FnOk P w K mg base CX0 1 T.a_stepped T.d_stepped ["store", "level", "change"] (spD [.sh, .sh, .sh] spStepD) := by
  refine fn_d T.F_stepped sc_stepped rfl (fun C cdv A outer s H E hr => ⟨_, (@dss_cons _ _ _ _ _ _ (ds_set (ps_set (i := 3) sc_stepped.nd rfl (Or.inl rfl) (pd_op op_add ok_add (pd_var (pv 1)) (pd_var (pv 2))))) (dss_cons (ds_if (pdt_cmp op_lt ok_lt (pd_var (pv 3)) pd_int (nomark _))
      (dss_one (ds_ret pd_non))
      dss_nil)
      (dss_one (ds_ret (pd_cb cb_min (pe_callB (call_min2 rfl) rfl T.n_min bt_min (dv_cons (pd_var (pv 3)) (dv_cons (pd_var (pv 0)) dv_nil se_Name) se_Name) (he := se_Name) (hpl := (np_cons se_Name np_nil)))))))), fun ds Q hl h => ?_⟩)
  obtain ⟨st, lv, ch, rfl, q⟩ := h
  decreasing_tactic
  unfold stepF at q
  by_cases c : lv + ch < 0
  · rw [decide_eq_true c, if_pos rfl]
    rw [if_pos c] at q; exact q
  · rw [decide_eq_false c, if_neg Bool.false_ne_true]
    rw [if_neg c] at q; exact q
theorem ok_is_whole (T : Txt K mg) : FnOk P w K mg base CX0 1 T.a_is_whole T.d_is_whole ["thing"] (spD [.sh] spWholeD) := by
  refine fn_d T.F_is_whole sc_is_whole rfl (fun C cdv A outer s H E hr => ⟨_, (@dss_one _ _ _ _ (@ds_ret _ _ _ _ _ (@pd_and _ _ _ _ _ _ _ _ (pd_isiv ty_int (pe_callB call_isinst2 rfl T.n_isinstance bt_isinstance (pa_cons (pv 0) (pa_cons (pe_bltn (v := V.ty "int") rfl T.n_int bt_int rfl) pa_nil se_Name) se_Name) (he := se_Name) (hpl := (np_cons se_Name np_nil)))) (pd_one (pd_not (pd_isiv ty_bool (pe_callB call_isinst2 rfl T.n_isinstance bt_isinstance (pa_cons (pv 0) (pa_cons (pe_bltn (v := V.ty "bool") rfl T.n_bool bt_bool rfl) pa_nil se_Name) se_Name) (he := se_Name) (hpl := (np_cons se_Name np_nil))))))))), fun ds Q hl h => ?_⟩)
  obtain ⟨d, rfl, q⟩ := h
  decreasing_tactic
  unfold wholeD at q
  cases d <;> exact q
theorem ok_is_more (T : Txt K mg) : FnOk P w K mg base CX0 1 T.a_is_more T.d_is_more ["one", "other"] (spD [.sh, .sh] spMoreD) := by
  refine fn_d T.F_is_more sc_is_more rfl (fun C cdv A outer s H E hr => ⟨_, (dss_one (ds_ret (pd_and (pd_cmp op_notN ok_notN (pd_var (pv 0)) pd_non (nomark _)) (pd_one (pd_or (pd_cmp op_isN ok_isN (pd_var (pv 1)) pd_non (nomark _)) (pd_one (pd_cmp op_gt ok_gt (pd_var (pv 0)) (pd_var (pv 1)) (nomark _)))))))), fun ds Q hl h => ?_⟩)
  obtain ⟨a, b, rfl, q⟩ := h
  cases a with
  | none =>
    decreasing_tactic
    exact q
  | some x =>
    cases b with
    | none =>
      decreasing_tactic
      exact q
    | some y =>
      decreasing_tactic
      exact q
theorem ok_behind_way (T : Txt K mg) : FnOk P w K mg base CX0 2 T.a_behind_way T.d_behind_way ["store", "table", "way"] (spD [.sh, .bo, .sh] spBehD) := by
  have G_stepped := @ok_stepped P w K mg base T
  have b_stepped := bd_stepped T
  refine fn_d T.F_behind_way sc_behind_way rfl (fun C cdv A outer s H E hr => ⟨_, (@dss_cons _ _ _ _ _ _ (ds_set (ps_set (i := 3) sc_behind_way.nd rfl (Or.inl rfl) (pd_ixv (pv 1) (pd_ixv (pv 2) (pd_gi (pe_glob (v := V.int 0) rfl T.mg_START ⟨_, rfl⟩)) (fun _ _ => rfl)) (fun _ _ => rfl)))) (@dss_cons _ _ _ _ _ _ (ds_if (pdt_cmp op_isN ok_isN (pd_var (pv 3)) pd_non (nomark _))
      (dss_one (ds_ret pd_non))
      dss_nil) (dss_one (ds_ret (pd_call (pe_call G_stepped (hr.mono (by decide)) rfl T.mg_stepped T.kp_stepped b_stepped .nil pass0 (da_v (pd_var (pv 0)) (da_v (pd_var (pv 3)) (da_v (pd_ixv (pv 2) (pd_gi (pe_glob (v := V.int 2) rfl T.mg_CHANGE ⟨_, rfl⟩)) (fun _ _ => rfl)) da_nil se_Subscript) se_Name) se_Name) (he := se_Name) (hpl := (np_cons se_Name (np_cons se_Subscript np_nil))))))))), fun ds Q hl h => ?_⟩)
  obtain ⟨st, t, w, rfl, hw, q⟩ := h
  decreasing_trivial
  rw [tab_at hw]
  unfold behF at q
  cases e : gt t w.1 with
  | none =>
    rw [e] at q
    decreasing_trivial
    exact q
  | some l =>
    rw [e] at q
    decreasing_trivial
    exact ⟨_, _, _, rfl, q⟩
end
section
variable {P : Program} {w : World} {K : PySem.W.Frag} {mg : Str → Option Value} {base : Heap}
end
section
variable {P : Program} {w : World} {K : PySem.W.Frag} {mg : Str → Option Value} {base : Heap}
end
theorem flat_ways : ∀ ws : List Wy, flatL (ws.map wayD) = true
  | [] => rfl
  | w :: ws => by
    show (flatD (wayD w) && flatL (ws.map wayD)) = true
    rw [flat_ways ws]; rfl
theorem flat_nums : ∀ ns : List Nat, flatL (numL ns) = true
  | [] => rfl
  | w :: ws => by
    show (flatD (.int _) && flatL (numL ws)) = true
    rw [flat_nums ws]; rfl
def turnW (w : Wy) : Wy := (w.2.1, w.1, w.2.2)
theorem len_tab {t : Tb} : (tabL t).length = t.length := by unfold tabL; rw [List.length_map]
theorem len_rn {t : Rn} : (rnL t).length = t.length := by unfold rnL; rw [List.length_map]
theorem len_num {t : List Nat} : (numL t).length = t.length := by unfold numL; rw [List.length_map]
theorem len_ints {t : List Int} : (intsL t).length = t.length := by unfold intsL; rw [List.length_map]
theorem set_tab {t : Tb} {i : Nat} {x : Option Int} : (tabL t).set i (oD x) = tabL (t.set i x) := by unfold tabL; rw [List.map_set]
theorem set_rn {t : Rn} {i n : Nat} : (rnL t).set i (.int (n : Nat)) = rnL (t.set i (some n)) := by unfold rnL; rw [List.map_set]; rfl
theorem rep_rn {n : Nat} : repD [PyData.none] n = rnL (List.replicate n none) := by
  unfold repD rnL
  induction n with
  | zero => rfl
  | succ n ih => rw [List.replicate_succ, List.replicate_succ, List.flatten_cons, List.map_cons, ih]; rfl
theorem rep_tab {n : Nat} : repD [PyData.none] n = tabL (List.replicate n none) := by
  unfold repD tabL
  induction n with
  | zero => rfl
  | succ n ih => rw [List.replicate_succ, List.replicate_succ, List.flatten_cons, List.map_cons, ih]; rfl
theorem enum_ways {ws : List Wy} : enumD (ws.map wayD) = ws.zipIdx.map fun p => .tuple [.int (p.2 : Nat), wayD p.1] := by
  unfold enumD
  rw [List.zipIdx_map, List.map_map]
  rfl
def spTurnD : DSp := fun ds Q => ∃ (m : Nat) (ws : List Wy), ds = [landD m ws] ∧ ws.length ≤ 900 ∧ Q (landD m (ws.map turnW))
def spChD : DSp := fun ds Q => ∃ (m : Nat) (ws : List Wy) (ns : List Nat), ds = [landD m ws, .list (numL ns)] ∧ (∀ n ∈ ns, n < ws.length) ∧ ns.length ≤ 900 ∧ Q (.list (intsL (chs ws ns)))
def spFirstD : DSp := fun ds Q => ∃ t : Tb, ds = [.list (tabL t)] ∧ t.length ≤ 900 ∧ Q (rowD (t, List.replicate t.length none))
def spRowD : DSp := fun ds Q => ∃ (m : Nat) (ws : List Wy) (st : Int) (t s : Tb), ds = [landD m ws, .int st, .list (tabL t), .list (tabL s)] ∧ LandOk m ws ∧ t.length = m ∧ s.length = m ∧ Q (rowD (rowF m ws st t s))
def RowsOk (m : Nat) (ws : List Wy) (rs : List Rw) : Prop := ∀ r ∈ rs, r.2.length = m ∧ ∀ q n, gt r.2 q = some n → n < ws.length
def spWalkD : DSp := fun ds Q => ∃ (m : Nat) (ws : List Wy) (rs : List Rw) (p : Nat), ds = [landD m ws, .list (rs.map rowD), .int (p : Nat)] ∧ p < m ∧ LandOk m ws ∧ RowsOk m ws rs ∧ rs.length ≤ 900 ∧ Q (.tuple [.int ((wlk ws rs.reverse p).1 : Nat), .list (numL (wlk ws rs.reverse p).2)])
section
variable {P : Program} {w : World} {K : PySem.W.Frag} {mg : Str → Option Value} {base : Heap}
theorem ok_first_row (T : Txt K mg) : FnOk P w K mg base CX0 1 T.a_first_row T.d_first_row ["table"] (spD [.bo] spFirstD) := by
  refine fn_d T.F_first_row sc_first_row rfl (fun C cdv A outer s H E hr => ⟨_, (dss_one (ds_ret (pd_tup (dv_cons (pd_f (pf_listv (pe_callTy call_list_of rfl T.n_list bt_list (pa_cons (pv 0) pa_nil se_Name) (he := se_Name) (hpl := np_nil)))) (dv_cons (pd_f (pf_rep (pd_f (pf_lst (dv_cons pd_non dv_nil se_Constant))) (pd_lenv (pe_callB call_len_seq rfl T.n_len bt_len (pa_cons (pv 0) pa_nil se_Name) (he := se_Name) (hpl := np_nil))))) dv_nil se_BinOp) se_Call)))), fun ds Q hl h => ?_⟩)
  obtain ⟨t, rfl, hn, q⟩ := h
  decreasing_trivial
  refine ⟨by decide, ⟨by omega, by rw [len_tab]; omega, by decide⟩, by decide, ?_⟩
  unfold rowD at q
  rw [len_tab, show ((t.length : Nat) : Int).toNat = t.length by simp, rep_rn]
  exact q
theorem ok_row_behind (T : Txt K mg) : FnOk P w K mg base CX0 3 T.a_row_behind T.d_row_behind ["land", "store", "table", "stayed"] (spD [.bd, .sh, .bo, .bo] spRowD) := by
  have G_behind_way := @ok_behind_way P w K mg base T
  have b_behind_way := bd_behind_way T
  have G_is_more := @ok_is_more P w K mg base T
  have b_is_more := bd_is_more T
  refine fn_d T.F_row_behind sc_row_behind rfl (fun C cdv A outer s H E hr => ⟨_, (@dss_cons _ _ _ _ _ _ (ds_own (ps_set (i := 4) sc_row_behind.nd rfl (Or.inl rfl) (pf_listv (pe_callTy call_list_of rfl T.n_list bt_list (pa_cons (pv 3) pa_nil se_Name) (he := se_Name) (hpl := np_nil))))) (@dss_cons _ _ _ _ _ _ (ds_own (ps_set (i := 5) sc_row_behind.nd rfl (Or.inl rfl) (pf_rep (pd_f (pf_lst (dv_cons pd_non dv_nil se_Constant))) (pd_flat (pl_ix (pl_var (pv 0)) (pd_gi (pe_glob (v := V.int 0) rfl T.mg_MANY ⟨_, rfl⟩)) (fun _ _ => rfl)))))) (@dss_cons _ _ _ _ _ _ (@ds_for _ _ _ _ _ _ (@ps_for _ _ _ _ _ _ _ _ PassesOwn.never rfl (di_enumL (pi_enum rfl T.n_enumerate (pa_cons (pl_ix (pl_var (pv 0)) (pd_gi (pe_glob (v := V.int 1) rfl T.mg_WAYS ⟨_, rfl⟩)) (fun _ _ => rfl)) pa_nil se_Subscript))) (dg_t2 (pg_tup (n := 2) rfl (pgs_cons (pg_name (i := 6) sc_row_behind.nd rfl (Or.inl rfl)) (pgs_cons (pg_name (i := 7) sc_row_behind.nd rfl (Or.inl rfl)) pgs_nil)))) (@dss_cons _ _ _ _ _ _ (ds_set (ps_set (i := 8) sc_row_behind.nd rfl (Or.inl rfl) (pd_call (pe_call G_behind_way (hr.mono (by decide)) rfl T.mg_behind_way T.kp_behind_way b_behind_way .nil pass0 (da_v (pd_var (pv 1)) (da_s (pv 2) (da_v (pd_var (pv 7)) da_nil se_Name) se_Name) se_Name) (he := se_Name) (hpl := (np_cons se_Name (np_cons se_Name np_nil))))))) (@dss_one _ _ _ _ (@ds_if _ _ _ _ _ _ _ _ _ (pdt_val (pd_call (pe_call G_is_more (hr.mono (by decide)) rfl T.mg_is_more T.kp_is_more b_is_more .nil pass0 (da_v (pd_var (pv 8)) (da_v (pd_ixv (pv 4) (pd_ixv (pv 7) (pd_gi (pe_glob (v := V.int 1) rfl T.mg_END ⟨_, rfl⟩)) (fun _ _ => rfl)) (fun _ _ => rfl)) da_nil se_Subscript) se_Name) (he := se_Name) (hpl := (np_cons se_Subscript np_nil))))) (dss_cons (ds_setI (ps_asg (pd_var (pv 8)) (pg_sub (pv 4) (pd_ixv (pv 7) (pd_gi (pe_glob (v := V.int 1) rfl T.mg_END ⟨_, rfl⟩)) (fun _ _ => rfl)) set_list)))
      (dss_one (ds_setI (ps_asg (pd_var (pv 6)) (pg_sub (pv 5) (pd_ixv (pv 7) (pd_gi (pe_glob (v := V.int 1) rfl T.mg_END ⟨_, rfl⟩)) (fun _ _ => rfl)) set_list))))) dss_nil))) (by intro _; rfl))) (dss_one (ds_ret (pd_tup (dv_cons (pd_var (pv 4)) (dv_cons (pd_var (pv 5)) dv_nil se_Name) se_Name))))))), fun ds Q hl h => ?_⟩)
  obtain ⟨m, ws, st, t, s0, rfl, ok, ht, hs, q⟩ := h
  have m2 := ok.m2
  array_mem_dec
  refine ⟨by decide, rfl, ⟨by omega, by omega, by decide⟩, ?_⟩
  rw [show ((m : Nat) : Int).toNat = m by simp, rep_rn, enum_ways]
  refine ⟨flat_ways ws, fun r ρ => ∃ (R : List (Wy × Nat)) (acc : Tb × Rn) (z1 z2 z3 : Sl), r = R.map (fun p => .tuple [.int (p.2 : Nat), wayD p.1]) ∧ ρ = [Sl.bd (landD m ws), Sl.sh (.int st), Sl.bo (tabL t), Sl.bo (tabL s0), Sl.ow (tabL acc.1), Sl.ow (rnL acc.2), z1, z2, z3] ∧ acc.1.length = m ∧ acc.2.length = m ∧ (∀ p ∈ R, p.1 ∈ ws) ∧ R.foldl (rstep st t) acc = rowF m ws st t s0,
    ⟨ws.zipIdx, (s0, List.replicate m none), _, _, _, rfl, rfl, hs, by simp, fun p hp => ?_, rfl⟩, ?_, ?_⟩
  · obtain ⟨w, n⟩ := p
    rw [List.mem_zipIdx_iff_getElem?] at hp
    exact List.mem_of_getElem? hp
  · rintro x r ρ ⟨R, acc, z1, z2, z3, h1, rfl, l1, l2, hR, hF⟩
    cases R with
    | nil => cases h1
    | cons p R =>
      cases (show x :: r = PyData.tuple [.int (p.2 : Nat), wayD p.1] :: R.map (fun p => .tuple [.int (p.2 : Nat), wayD p.1]) from h1)
      have hw := hR p List.mem_cons_self
      have e1 := ok.en _ hw
      have hF' : R.foldl (rstep st t) (rstep st t acc p) = rowF m ws st t s0 := hF
      sizeOf_list_dec
      refine ⟨rfl, _, _, _, rfl, by rw [ht]; exact ok.st _ hw, ?_⟩
      unfold wayD
      decreasing_tactic
      rw [tab_at (by rw [l1]; exact e1)]
      decreasing_tactic
      refine ⟨_, _, rfl, ?_⟩
      unfold rstep at hF'
      cases c : moreF (behF st t p.1) (gt acc.1 p.1.2.1) with
      | true =>
        rw [if_pos c] at hF'
        decreasing_tactic
        rw [ixN_nat (by rw [len_tab, l1]; exact e1)]
        decreasing_tactic
        rw [ixN_nat (by rw [len_rn, l2]; exact e1), set_tab]
        decreasing_tactic
        rw [set_rn]
        exact ⟨R, _, _, _, _, rfl, rfl, by rw [List.length_set]; exact l1, by rw [List.length_set]; exact l2, fun p hp => hR p (List.mem_cons_of_mem _ hp), hF'⟩
      | false =>
        rw [if_neg (by rw [c]; exact Bool.false_ne_true)] at hF'
        decreasing_tactic
        exact ⟨R, acc, _, _, _, rfl, rfl, l1, l2, fun p hp => hR p (List.mem_cons_of_mem _ hp), hF'⟩
  · rintro ρ ⟨R, acc, z1, z2, z3, h1, rfl, l1, l2, hR, hF⟩
    cases R with
    | cons p R => cases h1
    | nil =>
      decreasing_tactic
      refine ⟨by decide, ?_⟩
      have hF' : acc = rowF m ws st t s0 := hF
      rw [← hF'] at q
      exact q
theorem ok_walk_to (T : Txt K mg) : FnOk P w K mg base CX0 1 T.a_walk_to T.d_walk_to ["land", "rows", "place"] (spD [.bd, .bd, .sh] spWalkD) := by
  refine fn_d T.F_walk_to sc_walk_to rfl (fun C cdv A outer s H E hr => ⟨_, (@dss_cons _ _ _ _ _ _ (ds_set (ps_set (i := 3) sc_walk_to.nd rfl (Or.inl rfl) (pd_var (pv 2)))) (@dss_cons _ _ _ _ _ _ (ds_own (ps_set (i := 4) sc_walk_to.nd rfl (Or.inl rfl) (pf_lst dv_nil))) (@dss_cons _ _ _ _ _ _ (@ds_forL _ _ _ _ _ _ (@ps_for _ _ _ _ _ _ _ _ PassesOwn.never rfl (di_revL (pi_rev rfl T.n_reversed (pa_cons (pl_var (pv 1)) pa_nil se_Name))) (pg_name (i := 5) sc_walk_to.nd rfl (Or.inl rfl)) (@dss_cons _ _ _ _ _ _ (ds_set (ps_set (i := 6) sc_walk_to.nd rfl (Or.inl rfl) (pd_flat (pl_ix (pl_ix (pl_var (pv 5)) (pd_gi (pe_glob (v := V.int 1) rfl T.mg_RISEN ⟨_, rfl⟩)) (fun _ _ => rfl)) (pd_var (pv 3)) (fun _ _ => rfl))))) (@dss_one _ _ _ _ (@ds_if _ _ _ _ _ _ _ _ _ (pdt_cmp op_notN ok_notN (pd_var (pv 6)) pd_non (nomark _)) (@dss_cons _ _ _ _ _ _ (ds_app (ps_expr (pe_bm PySem.F.plainAttrs_list PySem.F.slot_list_append PySem.F.type_list_append mt_append (pv 4) (pa_cons (pd_var (pv 6)) pa_nil se_Name)))) (dss_one (ds_set (ps_set (i := 3) sc_walk_to.nd rfl (Or.inl rfl) (pd_flat (pl_ix (pl_ix (pl_ix (pl_var (pv 0)) (pd_gi (pe_glob (v := V.int 1) rfl T.mg_WAYS ⟨_, rfl⟩)) (fun _ _ => rfl)) (pd_var (pv 6)) (fun _ _ => rfl)) (pd_gi (pe_glob (v := V.int 0) rfl T.mg_START ⟨_, rfl⟩)) (fun _ _ => rfl))))))) dss_nil))) (by intro _; rfl))) (dss_one (ds_ret (pd_tup (dv_cons (pd_var (pv 3)) (dv_cons (pd_f (pf_lrev (pe_lrev rfl T.n_list rfl T.n_reversed rfl (pa_cons (pd_var (pv 4)) pa_nil se_Name)))) dv_nil se_Call) se_Name))))))), fun ds Q hl h => ?_⟩)
  obtain ⟨m, ws, rs, p, rfl, hp, ok, hr2, hn, q⟩ := h
  array_mem_dec
  refine ⟨by decide, ?_⟩
  refine ⟨fun r ρ => ∃ (R : List Rw) (here : Nat) (acc : List Nat) (z1 z2 : Sl), r = R.map rowD ∧ ρ = [Sl.bd (landD m ws), Sl.bd (.list (rs.map rowD)), Sl.sh (.int (p : Nat)), Sl.sh (.int (here : Nat)), Sl.ow (numL acc), z1, z2] ∧ here < m ∧ RowsOk m ws R ∧ acc.length + R.length ≤ rs.length ∧ wlk ws rs.reverse p = ((wlk ws R here).1, (wlk ws R here).2 ++ acc.reverse),
    ⟨rs.reverse, p, [], _, _, by rw [List.map_reverse], rfl, hp, fun r hr => hr2 r (List.mem_reverse.mp hr), by simp, by simp⟩, ?_, ?_⟩
  · rintro x r ρ ⟨R, here, acc, z1, z2, h1, rfl, hh, hR, hl2, hW⟩
    cases R with
    | nil => cases h1
    | cons r0 R =>
      cases (show x :: r = rowD r0 :: R.map rowD from h1)
      obtain ⟨l0, b0⟩ := hR r0 List.mem_cons_self
      decreasing_trivial_pre_omega
      rw [rn_at (by rw [l0]; exact hh)]
      cases c : gt r0.2 here with
      | none =>
        decreasing_trivial
        refine ⟨rfl, R, here, acc, _, _, rfl, rfl, hh, fun r hr => hR r (List.mem_cons_of_mem _ hr), by simp at hl2; omega, ?_⟩
        rw [hW]
        have : wlk ws (r0 :: R) here = wlk ws R here := by
          show (match gt r0.2 here with
            | none => wlk ws R here
            | some n => ((wlk ws R (wstN ws n)).1, (wlk ws R (wstN ws n)).2 ++ [n])) = _
          rw [c]
        rw [this]
      | some n =>
        have hn' := b0 here n c
        obtain ⟨w, hw⟩ : ∃ w, ws[n]? = some w := ⟨_, List.getElem?_eq_getElem hn'⟩
        decreasing_trivial
        refine ⟨rfl, by rw [len_num]; simp at hl2; omega, ?_⟩
        rw [way_at hw]
        decreasing_trivial
        refine ⟨rfl, R, w.1, acc ++ [n], _, _, rfl, by rw [show numL (acc ++ [n]) = numL acc ++ [.int (n : Nat)] by unfold numL; simp], ok.st w (List.mem_of_getElem? hw), fun r hr => hR r (List.mem_cons_of_mem _ hr), by simp at hl2 ⊢; omega, ?_⟩
        · rw [hW]
          have : wlk ws (r0 :: R) here = ((wlk ws R w.1).1, (wlk ws R w.1).2 ++ [n]) := by
            show (match gt r0.2 here with
              | none => wlk ws R here
              | some n => ((wlk ws R (wstN ws n)).1, (wlk ws R (wstN ws n)).2 ++ [n])) = _
            rw [c]
            have e : wstN ws n = w.1 := by unfold wstN; rw [hw]
            show ((wlk ws R (wstN ws n)).1, (wlk ws R (wstN ws n)).2 ++ [n]) = _
            rw [e]
          rw [this]
          simp
  · rintro ρ ⟨R, here, acc, z1, z2, h1, rfl, hh, hR, hl2, hW⟩
    cases R with
    | cons p R => cases h1
    | nil =>
      decreasing_tactic
      refine ⟨by decide, ?_⟩
      rw [hW] at q
      have e : (numL acc).reverse = numL acc.reverse := by unfold numL; rw [List.map_reverse]
      rw [e]
      exact q
end
theorem min0 (i j : Int) : min (PyData.depth (.int i)) (PyData.depth (.int j)) ≤ 64 := by show min 0 0 ≤ 64; decide
theorem eqv_int (i j : Int) : PyData.eqv (.int i) (.int j) = (i == j) := by rw [PyData.eqv]
def tabsL (f : Nat → Tb) (n : Nat) : List PyData := (List.range n).map fun k => .list (tabL (f k))
theorem tabs_succ (f : Nat → Tb) (n : Nat) : tabsL f (n + 1) = tabsL f n ++ [.list (tabL (f n))] := by unfold tabsL; rw [List.range_succ, List.map_append]; rfl
def spBaseD : DSp := fun ds Q => ∃ (m : Nat) (b : Sp2), ds = [.int (m : Nat), spotD b] ∧ b.1 < m ∧ m ≤ 900 ∧ Q (.list (tabL (baseF m b)))
def spEnoughD : DSp := fun ds Q => ∃ (t : Tb) (g : Sp2), ds = [.list (tabL t), spotD g] ∧ g.1 < t.length ∧ Q (.bool (enF t g))
def SoonR (m : Nat) (ws : List Wy) (st : Int) (b g : Sp2) (most : Nat) (d : PyData) : Prop :=
  (d = .tuple [.str "not", .list (tabsL (skF m ws st b) (most + 1))] ∧ ∀ k, k ≤ most → enF (skF m ws st b k) g = false) ∨
  ∃ (L : Nat) (ns : List Nat) (l : Int), d = .tuple [.str "through", .list (numL ns), .list (tabsL (skF m ws st b) L)] ∧ L ≤ most ∧ (∀ k, k < L → enF (skF m ws st b k) g = false) ∧ enF (skF m ws st b L) g = true ∧ ns.length = L ∧ goN ws st ns b = some (g.1, l) ∧ g.2 ≤ l ∧ (∀ n ∈ ns, n < ws.length) ∧ (wlk ws (srs m ws st b (L + 1)).reverse g.1).2 = ns
def spSoonD : DSp := fun ds Q => ∃ (m : Nat) (ws : List Wy) (st : Int) (b g : Sp2) (most : Nat), ds = [landD m ws, .int st, spotD b, spotD g, .int (most : Nat)] ∧ LandOk m ws ∧ b.1 < m ∧ g.1 < m ∧ most ≤ 400 ∧ ∀ d, SoonR m ws st b g most d → Q d
theorem en_some {t : Tb} {g : Sp2} (h : enF t g = true) : ∃ l, gt t g.1 = some l ∧ g.2 ≤ l := by
  unfold enF at h
  cases e : gt t g.1 with
  | none => rw [e] at h; cases h
  | some l => rw [e] at h; exact ⟨l, rfl, of_decide_eq_true h⟩
theorem srs_len {m : Nat} {ws : List Wy} {st : Int} {b : Sp2} {n : Nat} : (srs m ws st b n).length = n := by unfold srs; rw [List.length_map, List.length_range]
theorem srs_ok {m : Nat} {ws : List Wy} {st : Int} {b : Sp2} {n : Nat} (ok : LandOk m ws) : RowsOk m ws (srs m ws st b n) := by
  intro r hr
  unfold srs at hr
  obtain ⟨k, _, rfl⟩ := List.mem_map.mp hr
  exact ⟨sr_len2 ok k, fun q n h => sr_num ok h⟩
section
variable {P : Program} {w : World} {K : PySem.W.Frag} {mg : Str → Option Value} {base : Heap}
theorem ok_base_at (T : Txt K mg) : FnOk P w K mg base CX0 1 T.a_base_at T.d_base_at ["many", "spot"] (spD [.sh, .sh] spBaseD) := by
  refine fn_d T.F_base_at sc_base_at rfl (fun C cdv A outer s H E hr => ⟨_, (@dss_cons _ _ _ _ _ _ (ds_own (ps_set (i := 2) sc_base_at.nd rfl (Or.inl rfl) (pf_rep (pd_f (pf_lst (dv_cons pd_non dv_nil se_Constant))) (pd_var (pv 0))))) (dss_cons (ds_setI (ps_asg (pd_ixv (pv 1) (pd_gi (pe_glob (v := V.int 1) rfl T.mg_LEVEL ⟨_, rfl⟩)) (fun _ _ => rfl)) (pg_sub (pv 2) (pd_ixv (pv 1) (pd_gi (pe_glob (v := V.int 0) rfl T.mg_PLACE ⟨_, rfl⟩)) (fun _ _ => rfl)) set_list)))
      (dss_one (ds_ret (pd_var (pv 2)))))), fun ds Q hl h => ?_⟩)
  obtain ⟨m, b, rfl, hb, hm, q⟩ := h
  decreasing_trivial
  refine ⟨by decide, ⟨by omega, by omega, by decide⟩, ?_⟩
  rw [show ((m : Nat) : Int).toNat = m by simp, rep_tab]
  decreasing_trivial
  rw [ixN_nat (by rw [len_tab, List.length_replicate]; exact hb)]
  decreasing_trivial
  rw [show PyData.int b.2 = oD (some b.2) from rfl, set_tab]
  exact q
theorem ok_has_enough (T : Txt K mg) : FnOk P w K mg base CX0 1 T.a_has_enough T.d_has_enough ["table", "goal"] (spD [.sh, .sh] spEnoughD) := by
  refine fn_d T.F_has_enough sc_has_enough rfl (fun C cdv A outer s H E hr => ⟨_, (@dss_cons _ _ _ _ _ _ (ds_set (ps_set (i := 2) sc_has_enough.nd rfl (Or.inl rfl) (pd_ixv (pv 0) (pd_ixv (pv 1) (pd_gi (pe_glob (v := V.int 0) rfl T.mg_PLACE ⟨_, rfl⟩)) (fun _ _ => rfl)) (fun _ _ => rfl)))) (dss_one (ds_ret (pd_and (pd_cmp op_notN ok_notN (pd_var (pv 2)) pd_non (nomark _)) (pd_one (pd_cmp op_ge ok_ge (pd_var (pv 2)) (pd_ixv (pv 1) (pd_gi (pe_glob (v := V.int 1) rfl T.mg_LEVEL ⟨_, rfl⟩)) (fun _ _ => rfl)) (nomark _))))))), fun ds Q hl h => ?_⟩)
  obtain ⟨t, g, rfl, hg, q⟩ := h
  unfold enF at q
  decreasing_trivial
  rw [tab_at hg]
  cases e : gt t g.1 with
  | none =>
    rw [e] at q
    decreasing_trivial
    exact q
  | some l =>
    rw [e] at q
    decreasing_trivial
    exact q
end
theorem kq_same {H H' : Hp} (k : Kq none H H') : Same H H' := fun b o e => k b o e fun q hq => nomatch hq
theorem FpV.early {H H' H2 : Hp} {v : V} {d : PyData} {fp : List Addr} (s1 : Same H H') (s2 : Same H' H2) (t : FpV (fun b => H' b = none ∨ ∃ xs, H' b = some (.tup xs)) H2 v d fp) : FpV (fun b => H b = none ∨ ∃ xs, H b = some (.tup xs)) H2 v d fp ∧ ∀ b ∈ fp, H' b = none := by
  have back : ∀ b, H' b = none → H b = none := fun b h => by
    cases z : H b with
    | none => rfl
    | some o => rw [s1 _ _ z] at h; cases h
  refine ⟨t.mvm fun b o g e _ => ⟨?_, e⟩, fun b hb => ?_⟩
  · rcases g with g | ⟨xs, g⟩
    · exact .inl (back b g)
    · cases z : H b with
      | none => exact .inl rfl
      | some o' =>
        have := s1 _ _ z
        rw [g] at this
        cases this
        exact .inr ⟨xs, rfl⟩
  · obtain ⟨g, xs, e⟩ := t.mem b hb
    rcases g with g | ⟨ys, g⟩
    · exact g
    · rw [s2 _ _ g] at e; cases e
abbrev TT0 : Addr → Prop := fun _ => True
abbrev NewS (H : Hp) : Addr → Prop := fun b => H b = none ∨ ∃ xs, H b = some (.tup xs)
theorem callT {ms : List Md} {sp : DSp} {vs : List V} {ds : List PyData} {H : Hp} {Q : VK} {E : XK} (Qd : PyData → Prop) (ar : ArgsR TT0 none H ms vs ds) (h : sp ds Qd) (k : ∀ d v H', Qd d → ThV TT0 H' v d → Same H H' → Q v H') : spD ms sp vs H Q E :=
  ⟨TT0, none, ds, Qd, ⟨fun _ _ => trivial, fun _ _ _ => trivial⟩, fun q hq => (nomatch hq), fun q hq => (nomatch hq), ar, h, fun d v H' a b c _ => k d v H' a b (kq_same c)⟩
theorem callN {ms : List Md} {sp : DSp} {vs : List V} {ds : List PyData} {H : Hp} {Q : VK} {E : XK} (Qd : PyData → Prop) (ar : ArgsR (NewS H) none H ms vs ds) (h : sp ds Qd) (k : ∀ d v H', Qd d → ThV (NewS H) H' v d → Same H H' → Q v H') : spD ms sp vs H Q E :=
  ⟨NewS H, none, ds, Qd, ⟨fun _ h => .inl h, fun _ xs h => .inr ⟨xs, h⟩⟩, fun q hq => (nomatch hq), fun q hq => (nomatch hq), ar, h, fun d v H' a b c _ => k d v H' a b (kq_same c)⟩
theorem tab_any {F G : Addr → Prop} {H H' : Hp} : ∀ {t : Tb} {us : List V}, ThVs F H us (tabL t) → ThVs G H' us (tabL t)
  | [], _, h => by cases h; exact .nil
  | o :: t, _, h => by
    cases h with
    | cons x r =>
      cases o with
      | none => cases x; exact .cons .non (tab_any r)
      | some i => cases x; exact .cons (.int _) (tab_any r)
theorem row_fp {G : Addr → Prop} {H : Hp} {v : V} {r : Rw} (t : ThV G H v (rowD r)) : ∃ ta a us c vs, v = .ref ta ∧ G ta ∧ H ta = some (.tup [.ref a, .ref c]) ∧ G a ∧ H a = some (.lst us) ∧ ThVs G H us (tabL r.1) ∧ G c ∧ H c = some (.lst vs) ∧ ThVs G H vs (rnL r.2) := by
  obtain ⟨ta, xs, rfl, g, e, tx⟩ := th_tup t
  obtain ⟨v1, v2, rfl, t1, t2⟩ := ths2 tx
  obtain ⟨a, us, rfl, ga, ea, tu⟩ := th_lst t1
  obtain ⟨c, vs, rfl, gc, ec, tv⟩ := th_lst t2
  exact ⟨ta, a, us, c, vs, rfl, g, e, ga, ea, tu, gc, ec, tv⟩
inductive RwA (H : Hp) : List V → List Addr → Prop
  | nil : RwA H [] []
  | cons {t a c : Addr} {us : List V} {as : List Addr} : H t = some (.tup [.ref a, .ref c]) → RwA H us as → RwA H (.ref t :: us) (a :: as)
theorem RwA.mv {H H' : Hp} {us : List V} {as : List Addr} (h : RwA H us as) (s : ∀ b xs, H b = some (.tup xs) → H' b = some (.tup xs)) : RwA H' us as := by
  induction h with
  | nil => exact .nil
  | cons e _ ih => exact .cons (s _ _ e) ih
theorem RwA.snoc {H : Hp} {us : List V} {as : List Addr} {t a c : Addr} (h : RwA H us as) (e : H t = some (.tup [.ref a, .ref c])) : RwA H (us ++ [.ref t]) (as ++ [a]) := by
  induction h with
  | nil => exact .cons e .nil
  | cons e' _ ih => exact .cons e' ih
theorem seq_while {c : TT} {tb u : TS} {D : Ends} {σ : L2.St} {H : Hp} (M : L2.St → Hp → Prop) (fin : ∀ σ H, M σ H → u D σ H) (h : (∀ σ H, M σ H → u D σ H) → tWhile c tb { D with nx := u D } σ H) : tSeq (tWhile c tb) u D σ H := h fin
theorem rep_non {G : Addr → Prop} {H : Hp} : ∀ m : Nat, ThVs G H (List.replicate m [V.non]).flatten (tabL (List.replicate m none))
  | 0 => .nil
  | m + 1 => .cons .non (rep_non m)
theorem rwa_lst {F : Addr → Prop} {H : Hp} : ∀ {rs : List Rw} {us : List V} {as : List Addr}, ThVs F H us (rs.map rowD) → RwA H us as → ∀ a ∈ as, ∃ xs, H a = some (.lst xs)
  | [], _, _, h, w, a, ha => by
    cases h
    cases w
    cases ha
  | r :: rs, _, _, h, w, a, ha => by
    cases h with
    | cons x t =>
      cases w with
      | cons e w =>
        rcases List.mem_cons.mp ha with rfl | ha
        · obtain ⟨ta, a', us, c, vs, e1, _, e2, _, e3, _⟩ := row_fp x
          cases e1
          rw [e] at e2
          cases e2
          exact ⟨_, e3⟩
        · exact rwa_lst t w a ha
theorem tab_fp {F G : Addr → Prop} {H H' : Hp} : ∀ {t : Tb} {us : List V}, ThVs F H us (tabL t) → FpVs G H' us (tabL t) []
  | [], _, h => by cases h; exact .nil
  | o :: t, _, h => by
    cases h with
    | cons x r =>
      cases o with
      | none => cases x; exact FpVs.cons (fp := []) (fps := []) .non (tab_fp r)
      | some i => cases x; exact FpVs.cons (fp := []) (fps := []) (.int _) (tab_fp r)
theorem tabs_fp {F G : Addr → Prop} {H H' : Hp} (s : ∀ b xs, H b = some (.lst xs) → H' b = some (.lst xs)) : ∀ {rs : List Rw} {us : List V} {as : List Addr}, ThVs F H us (rs.map rowD) → RwA H us as → (∀ a ∈ as, G a) → FpVs G H' (as.map V.ref) (rs.map fun r => .list (tabL r.1)) as
  | [], _, _, h, w, _ => by
    cases h
    cases w
    exact .nil
  | r :: rs, _, _, h, w, g => by
    cases h with
    | cons x t =>
      cases w with
      | @cons tt a c us as e w =>
        obtain ⟨ta, a', us', c', vs, e1, _, e2, _, e3, t3, _⟩ := row_fp x
        cases e1
        rw [e] at e2
        cases e2
        exact FpVs.cons (fp := [a]) (.lst (g a List.mem_cons_self) (s _ _ e3) (tab_fp t3)) (tabs_fp s t w fun b hb => g b (List.mem_cons_of_mem _ hb))
theorem RwA.get {H : Hp} : ∀ {us : List V} {as : List Addr}, RwA H us as → ∀ {i : Nat} {x : V}, us[i]? = some x → ∃ t a c, x = .ref t ∧ H t = some (.tup [.ref a, .ref c]) ∧ as[i]? = some a
  | _, _, .cons (t := t) (a := a) (c := c) e w, 0, x, h => by
    cases h
    exact ⟨t, a, c, rfl, e, rfl⟩
  | _, _, .cons e w, i + 1, x, h => RwA.get w (show _ = some x from h)
theorem RwA.len {H : Hp} {us : List V} {as : List Addr} (h : RwA H us as) : us.length = as.length := by
  induction h with
  | nil => rfl
  | cons _ _ ih => rw [List.length_cons, List.length_cons, ih]
theorem cutV_neg1 {xs : List V} {x : V} : cutV (xs ++ [x]) none (some (-1)) = xs := by
  have e1 : HT.sIx (xs ++ [x]).length 0 none = 0 := rfl
  have e2 : HT.sIx (xs ++ [x]).length (xs ++ [x]).length (some (-1)) = xs.length := by
    show (if (-1 : Int) < 0 then ((-1 : Int) + (((xs ++ [x]).length : Nat) : Int)).toNat else min (-1 : Int).toNat (xs ++ [x]).length) = xs.length
    rw [if_pos (by decide), List.length_append, List.length_singleton]
    omega
  unfold cutV
  rw [e1, e2, List.drop_zero, Nat.sub_zero, List.take_left]
theorem nums_fp {F G : Addr → Prop} {H H' : Hp} : ∀ {ns : List Nat} {us : List V}, ThVs F H us (numL ns) → FpVs G H' us (numL ns) []
  | [], _, h => by cases h; exact .nil
  | n :: ns, _, h => by
    cases h with
    | cons x r => cases x; exact FpVs.cons (fp := []) (fps := []) (.int _) (nums_fp r)
theorem RwA.last {H : Hp} {us : List V} {as : List Addr} {F : Addr → Prop} {r : Rw} {rs : List Rw} (w : RwA H us as) (t : ThVs F H us (rs.map rowD ++ [rowD r])) : ∃ us' as' v a, us = us' ++ [v] ∧ as = as' ++ [a] ∧ ThVs F H us' (rs.map rowD) ∧ RwA H us' as' := by
  induction rs generalizing us as with
  | nil =>
    cases w with
    | nil => cases t
    | @cons t0 a c us as e w =>
      cases t with
      | cons x t =>
        cases t
        cases w
        exact ⟨[], [], _, _, rfl, rfl, .nil, .nil⟩
  | cons r' rs ih =>
    cases w with
    | nil => cases t
    | @cons t0 a c us as e w =>
      cases t with
      | cons x t =>
        obtain ⟨us', as', v, a', rfl, rfl, h1, h2⟩ := ih w t
        exact ⟨.ref t0 :: us', a :: as', v, a', rfl, rfl, .cons x h1, .cons e h2⟩
abbrev spSoonA : Sp := spDA [.sh, .sh, .sh, .sh, .sh] spSoonD
section
variable {P : Program} {w : World} {K : PySem.W.Frag} {mg : Str → Option Value} {base : Heap}
theorem ok_soonest (T : Txt K mg) : FnOk P w K mg base CX0 4 T.a_soonest T.d_soonest ["land", "store", "begin", "goal", "most"] spSoonA := by
  have G_first_row := @ok_first_row P w K mg base T
  have b_first_row := bd_first_row T
  have G_base_at := @ok_base_at P w K mg base T
  have b_base_at := bd_base_at T
  have G_has_enough := @ok_has_enough P w K mg base T
  have b_has_enough := bd_has_enough T
  have G_row_behind := @ok_row_behind P w K mg base T
  have b_row_behind := bd_row_behind T
  have G_walk_to := @ok_walk_to P w K mg base T
  have b_walk_to := bd_walk_to T
  refine T.F_soonest.ok sc_soonest (fun vs H Q E h => ?_) (fun cdv A outer s H vs Q E hr h => ?_)
  · obtain ⟨_, _, _, _, _, _, _, a, _⟩ := h
    rw [a.len.1]; rfl
  · obtain ⟨F0, hand, ds, Qd, _, _, hq, ar, hsp, toldQ⟩ := h
    obtain ⟨m, ws, st, b, g, most, rfl, ok, hb, hg, hm, q⟩ := hsp
    cases ar with
    | @cons _ vl _ _ _ _ tl ar =>
    cases ar with
    | @cons _ vst _ _ _ _ tst ar =>
    cases ar with
    | @cons _ vb _ _ _ _ tb ar =>
    cases ar with
    | @cons _ vg _ _ _ _ tg ar =>
    cases ar with
    | @cons _ vm _ _ _ _ tm ar =>
    cases ar
    cases (show ThV F0 H vst (.int st) from tst)
    cases (show ThV F0 H vm (.int ((most : Nat) : Int)) from tm)
    refine ⟨_, (pss_cons (ps_set (i := 5) sc_soonest.nd rfl (Or.inl rfl) (pe_op op_rep (pe_lst (pa_cons pe_non pa_nil se_Constant)) (pe_ix ix_seq (pv 0) (pe_glob (v := V.int 0) rfl T.mg_MANY ⟨_, rfl⟩) (fun _ _ => rfl))))
      (pss_cons (ps_set (i := 6) sc_soonest.nd rfl (Or.inl rfl) (pe_lst (pa_cons (pe_call G_first_row (hr.mono (by decide)) rfl T.mg_first_row T.kp_first_row b_first_row .nil pass0 (pa_cons (pe_call G_base_at (hr.mono (by decide)) rfl T.mg_base_at T.kp_base_at b_base_at .nil pass0 (pa_cons (pe_ix ix_seq (pv 0) (pe_glob (v := V.int 0) rfl T.mg_MANY ⟨_, rfl⟩) (fun _ _ => rfl)) (pa_cons (pv 2) pa_nil se_Name) se_Subscript) (he := se_Subscript) (hpl := (np_cons se_Name np_nil))) pa_nil se_Call) (he := se_Call) (hpl := np_nil)) pa_nil se_Call)))
      (pss_cons (ps_while PassesOwn.never (PW.pt (pw_and (pt_cmpR op_le (pe_callB call_len_seq rfl T.n_len bt_len (pa_cons (pv 6) pa_nil se_Name) (he := se_Name) (hpl := np_nil)) (pv 4) (nomark _)) (pw_and1 (pt_not (pt_val (pe_call G_has_enough (hr.mono (by decide)) rfl T.mg_has_enough T.kp_has_enough b_has_enough .nil pass0 (pa_cons (pe_ix ix_seq (pe_ix ix_list (pv 6) (pe_un un_neg pe_int) (fun _ _ => rfl)) (pe_glob (v := V.int 0) rfl T.mg_TABLE ⟨_, rfl⟩) (fun _ _ => rfl)) (pa_cons (pv 3) pa_nil se_Name) se_Subscript) (he := se_Subscript) (hpl := (np_cons se_Name np_nil))))))))
      (pss_one (ps_expr (pe_bm PySem.F.plainAttrs_list PySem.F.slot_list_append PySem.F.type_list_append mt_append (pv 6) (pa_cons (pe_call G_row_behind (hr.mono (by decide)) rfl T.mg_row_behind T.kp_row_behind b_row_behind .nil pass0 (pa_cons (pv 0) (pa_cons (pv 1) (pa_cons (pe_ix ix_seq (pe_ix ix_list (pv 6) (pe_un un_neg pe_int) (fun _ _ => rfl)) (pe_glob (v := V.int 0) rfl T.mg_TABLE ⟨_, rfl⟩) (fun _ _ => rfl)) (pa_cons (pv 5) pa_nil se_Name) se_Subscript) se_Name) se_Name) (he := se_Name) (hpl := (np_cons se_Name (np_cons se_Subscript (np_cons se_Name np_nil))))) pa_nil se_Call)))))
      (pss_cons (ps_setC (i := 7) sc_soonest.nd rfl (Or.inl rfl) (CompSc.new (N := ["land", "store", "begin", "goal", "most", "nowhere", "rows", "tables"]) (osc := defScope s_soonest) (by decide +kernel)) rfl (pi_list (pv 6)) (fun _ => pts_nil) (fun _ => (pe_ix ix_seq (pv 8) (pe_glob (v := V.int 0) rfl T.mg_TABLE ⟨_, rfl⟩) (fun _ _ => rfl))))
      (pss_cons (ps_mid (ps_if (pt_not (pt_val (pe_call G_has_enough (hr.mono (by decide)) rfl T.mg_has_enough T.kp_has_enough b_has_enough .nil pass0 (pa_cons (pe_ix ix_list (pv 7) (pe_un un_neg pe_int) (fun _ _ => rfl)) (pa_cons (pv 3) pa_nil se_Name) se_Subscript) (he := se_Subscript) (hpl := (np_cons se_Name np_nil)))))
      (pss_one (ps_ret (pe_tup (pa_cons pe_str (pa_cons (pv 7) pa_nil se_Name) se_Constant))))
      pss_nil))
      (pss_one (ps_ret (pe_tup (pa_cons pe_str (pa_cons (pe_ix ix_seq (pe_call G_walk_to (hr.mono (by decide)) rfl T.mg_walk_to T.kp_walk_to b_walk_to .nil pass0 (pa_cons (pv 0) (pa_cons (pv 6) (pa_cons (pe_ix ix_seq (pv 3) (pe_glob (v := V.int 0) rfl T.mg_PLACE ⟨_, rfl⟩) (fun _ _ => rfl)) pa_nil se_Subscript) se_Name) se_Name) (he := se_Name) (hpl := (np_cons se_Name (np_cons se_Subscript np_nil)))) (pe_glob (v := V.int 1) rfl T.mg_BY ⟨_, rfl⟩) (fun _ _ => rfl)) (pa_cons (pe_slice sl_list (pv 7) po_none (po_some (pe_un un_neg pe_int))) pa_nil se_Subscript) se_Subscript) se_Constant))))))))), ?_⟩
    have m2 := ok.m2
    have tlM : ∀ {H' : Hp}, Same H H' → ThV TT0 H' vl (landD m ws) := fun s => ThV.mv (fun b o _ e => ⟨trivial, s _ _ e⟩) tl
    have tbM : ∀ {H' : Hp}, Same H H' → ThV TT0 H' vb (spotD b) := fun s => ThV.mv (fun b o _ e => ⟨trivial, s _ _ e⟩) tb
    have tgM : ∀ {H' : Hp}, Same H H' → ThV TT0 H' vg (spotD g) := fun s => ThV.mv (fun b o _ e => ⟨trivial, s _ _ e⟩) tg
    obtain ⟨al, xsl, rfl, _, eal, ttl⟩ := th_tup tl
    obtain ⟨w1, w2, rfl, tw1, ttw⟩ := ths2 ttl
    cases tw1
    refine ⟨by show 1 ≤ sizeLine; decide, fun l0 hl0 => ?_⟩
    refine ⟨_, rfl, .inr (.inl ⟨al, _, 0, _, rfl, rfl, SqT.of (by rw [upd_ne (ne_of_none eal hl0)]; exact eal), rfl, l0, ((m : Nat) : Int), [.non], rfl, rfl, upd_same, by omega, by omega, by rw [sizeLine_eq]; show 1 * ((m : Nat) : Int).toNat ≤ _; omega, fun nw hnw => ?_⟩)⟩
    obtain ⟨H1, hH1⟩ : ∃ H1, H1 = upd (upd H l0 (.lst [.non])) nw (.lst (List.replicate ((m : Nat) : Int).toNat [V.non]).flatten) := ⟨_, rfl⟩
    rw [← hH1]
    have s1 : Same H H1 := fun b o e => by
      have e' : upd H l0 (.lst [.non]) b = some o := by rw [upd_ne (ne_of_none e hl0)]; exact e
      rw [hH1, upd_ne (ne_of_none e' hnw)]; exact e'
    have enw : H1 nw = some (.lst (List.replicate ((m : Nat) : Int).toNat [V.non]).flatten) := by rw [hH1]; exact upd_same
    refine ⟨_, rfl, .inr (.inl ⟨al, _, 0, _, rfl, rfl, SqT.of (s1 _ _ eal), rfl, vb, rfl, callT (E := E0) (fun d => d = .list (tabL (baseF m b))) (.cons (.int _) (.cons (tbM s1) .nil)) ⟨m, b, rfl, hb, by omega, rfl⟩ fun d v H2 hd t2 s12 => ?_⟩)⟩
    subst hd
    obtain ⟨a2, us2, rfl, _, e2, tu2⟩ := th_lst t2
    have s2 : Same H H2 := fun b o e => s12 _ _ (s1 _ _ e)
    refine callN (E := E0) (fun d => d = rowD (srF m ws st b 0)) (.cons ⟨a2, us2, _, rfl, rfl, fun q hq => (nomatch hq), e2, tab_any tu2⟩ .nil) ⟨baseF m b, rfl, by rw [base_len]; omega, by show rowD _ = rowD _; rw [base_len]; rfl⟩ fun d v3 H3 hd t3 s23 => ?_
    subst hd
    have s3 : Same H H3 := fun b o e => s23 _ _ (s2 _ _ e)
    refine ⟨by show 1 ≤ sizeLine; decide, fun ar har => ?_⟩
    obtain ⟨ta, a3, us3, c3, vs3, rfl, _, eta, ga3, ea3, _, _, _, _⟩ := row_fp t3
    obtain ⟨H4, hH4⟩ : ∃ H4, H4 = upd H3 ar (.lst [.ref ta]) := ⟨_, rfl⟩
    have s34 : Same H3 H4 := fun b o e => by rw [hH4, upd_ne (ne_of_none e har)]; exact e
    have s4 : Same H H4 := fun b o e => s34 _ _ (s3 _ _ e)
    have arn : H ar = none := by
      cases z : H ar with
      | none => rfl
      | some o => rw [s3 _ _ z] at har; cases har
    have a3n : H a3 = none := by
      cases z : H a3 with
      | none => rfl
      | some o =>
        rcases ga3 with g | ⟨xs, g⟩
        · rw [s2 _ _ z] at g; cases g
        · rw [s23 _ _ g] at ea3; cases ea3
    show tSeq _ _ _ [some (.ref al), some (.int st), some vb, some vg, some (.int ((most : Nat) : Int)), some (.ref nw), some (.ref ar), none] (upd H3 ar (.lst [.ref ta]))
    rw [← hH4]
    refine seq_while (fun σ Hn => ∃ (L : Nat) (us : List V) (as : List Addr), σ = [some (.ref al), some (.int st), some vb, some vg, some (.int ((most : Nat) : Int)), some (.ref nw), some (.ref ar), none] ∧ L ≤ most ∧ (∀ k, k < L → enF (skF m ws st b k) g = false) ∧ (L < most → enF (skF m ws st b L) g = true) ∧ Same H Hn ∧ Hn ar = some (.lst us) ∧ ThVs (fun b => b ≠ ar) Hn us ((srs m ws st b (L + 1)).map rowD) ∧ RwA Hn us as ∧ as.Nodup ∧ (∀ a ∈ as, H a = none)) ?_ fun fin => ?_
    · rintro σ Hn ⟨L, us, as, rfl, hL, hno, hyes, sn, earn, tus, rwa, nda, nwa⟩
      have lus : us.length = L + 1 := by rw [tus.len, List.length_map, srs_len]
      have las : as.length = L + 1 := by rw [← rwa.len, lus]
      refine ⟨_, rfl, ar, rfl, ⟨us, SqL.of earn⟩, ?_⟩
      refine comp_list (xs := us) (fun i ys H' => H' = Hn ∧ ys = (as.take i).map V.ref) ?_ ⟨rfl, rfl⟩ ?_ ?_ ?_
      · rw [lus, sizeLine_eq]; omega
      · rintro i ys H' hi ⟨rfl, rfl⟩
        exact ⟨by rw [List.length_map, List.length_take]; omega, SqL.of earn⟩
      · rintro i x ys H' hx ⟨rfl, rfl⟩ ca
        obtain ⟨t, a, c, rfl, et, ha⟩ := rwa.get hx
        unfold tTrue
        refine iteT ?_
        refine ⟨_, rfl, .inr (.inl ⟨t, _, 0, .ref a, rfl, rfl, SqT.of et, rfl, rfl, ?_⟩)⟩
        rw [List.take_add_one, ha, List.map_append]; rfl
      rintro ys H' ⟨rfl, rfl⟩ tb htb
      rw [show us.length = as.length from rwa.len, List.take_length]
      obtain ⟨Ht, hHt⟩ : ∃ Ht, Ht = upd H' tb (.lst (as.map V.ref)) := ⟨_, rfl⟩
      rw [← hHt]
      have st' : Same H' Ht := fun b o e => by rw [hHt, upd_ne (ne_of_none e htb)]; exact e
      have sHt : Same H Ht := fun b o e => st' _ _ (sn _ _ e)
      have etb : Ht tb = some (.lst (as.map V.ref)) := by rw [hHt]; exact upd_same
      have tbn : H tb = none := by
        cases z : H tb with
        | none => rfl
        | some o => rw [sn _ _ z] at htb; cases htb
      have T : FpVs (NewS H) Ht (as.map V.ref) (tabsL (skF m ws st b) (L + 1)) as := by
        have := tabs_fp (G := NewS H) (H' := Ht) (fun b xs e => st' _ _ e) tus rwa (fun a ha => .inl (nwa a ha))
        unfold srs at this
        rw [List.map_map] at this
        exact this
      have tba : tb ∉ as := fun z => by
        obtain ⟨xs, ex⟩ := rwa_lst tus rwa tb z
        rw [htb] at ex; cases ex
      obtain ⟨vL, hvL, tvL⟩ := atI_th T.th (show atI (tabsL (skF m ws st b) (L + 1)) (-1) = some (.list (tabL (skF m ws st b L))) by rw [tabs_succ]; exact atI_last _ _)
      refine ⟨fun σ' H'' => σ' = [some (.ref al), some (.int st), some vb, some vg, some (.int ((most : Nat) : Int)), some (.ref nw), some (.ref ar), some (.ref tb)] ∧ Same Ht H'' ∧ enF (skF m ws st b L) g = true, ?_, ?_⟩
      · refine ⟨_, rfl, _, rfl, tb, _, _, _, rfl, rfl, SqL.of etb, hvL, vg, rfl, callT (E := E0) (fun d => d = .bool (enF (skF m ws st b L) g)) (.cons (tvL.mv fun b o _ e => ⟨trivial, e⟩) (.cons (tgM sHt) .nil)) ⟨_, g, rfl, by rw [sk_len ok L]; exact hg, rfl⟩ fun d v H5 hd t5 s5 => ?_⟩
        subst hd
        cases t5
        refine ⟨_, rfl, ?_⟩
        cases e : enF (skF m ws st b L) g with
        | true => exact iteF ⟨rfl, s5, rfl⟩
        | false =>
          have eLm : L = most := by
            rcases Nat.lt_or_ge L most with z | z
            · rw [hyes z] at e; cases e
            · omega
          subst eLm
          refine iteT ⟨_, rfl, by show 2 ≤ sizeLine; decide, fun r hr => ?_⟩
          obtain ⟨H6, hH6⟩ : ∃ H6, H6 = upd H5 r (.tup [.str "not", .ref tb]) := ⟨_, rfl⟩
          show Q (.ref r) (upd H5 r (.tup [.str "not", .ref tb]))
          rw [← hH6]
          have s56 : Same H5 H6 := fun b o e => by rw [hH6, upd_ne (ne_of_none e hr)]; exact e
          have s6 : Same H H6 := fun b o e => s56 _ _ (s5 _ _ (sHt _ _ e))
          have rn : H r = none := by
            cases z : H r with
            | none => rfl
            | some o => rw [s5 _ _ (sHt _ _ z)] at hr; cases hr
          refine toldQ (.tuple [.str "not", .list (tabsL (skF m ws st b) (L + 1))]) (.ref r) H6 ([] ++ ((tb :: as) ++ [])) (q _ (.inl ⟨rfl, fun k hk => ?_⟩)) (.tup (.inl rn) (by rw [hH6]; exact upd_same) (.cons (.str _) (.cons (.lst (.inl tbn) (s56 _ _ (s5 _ _ etb)) (T.mvm fun b o g e _ => ⟨g, s56 _ _ (s5 _ _ e)⟩)) .nil))) (by simp only [List.nil_append, List.append_nil]; exact List.nodup_cons.mpr ⟨tba, nda⟩) (Kq.same s6) (hq.same s6)
          by_cases c : k = L
          · rw [c]; exact e
          · exact hno k (by omega)
      rintro σ' H5 ⟨rfl, s5, e⟩
      obtain ⟨l, w1', w2'⟩ := en_some e
      obtain ⟨ns, a1, a2, a3, a4⟩ := sr_walk ok hb w1'
      obtain ⟨ag, xsg, rfl, _, eag, ttg⟩ := th_tup tg
      obtain ⟨g1, g2, rfl, tg1, tg2⟩ := ths2 ttg
      cases tg1
      have sH5 : Same H H5 := fun b o e => s5 _ _ (sHt _ _ e)
      have sn5 : Same H' H5 := fun b o e => s5 _ _ (st' _ _ e)
      have trows : ThV (fun b => ∀ q : Addr × Addr, (none : Option (Addr × Addr)) = some q → b ≠ q.1) H5 (.ref ar) (.list ((srs m ws st b (L + 1)).map rowD)) := .lst (fun q hq => (nomatch hq)) (sn5 _ _ earn) (tus.mv fun b o _ e => ⟨fun q hq => (nomatch hq), sn5 _ _ e⟩)
      refine ⟨.ref al, rfl, .ref ar, rfl, _, rfl, .inr (.inl ⟨ag, _, 0, _, rfl, rfl, SqT.of (sH5 _ _ eag), rfl, callN (E := E0) (fun d => d = .tuple [.int (((wlk ws (srs m ws st b (L + 1)).reverse g.1).1 : Nat) : Int), .list (numL (wlk ws (srs m ws st b (L + 1)).reverse g.1).2)]) (.cons (ThV.mv (fun b o _ e => ⟨fun q hq => (nomatch hq), e⟩) (tlM sH5)) (.cons trows (.cons (.int _) .nil))) ⟨m, ws, srs m ws st b (L + 1), g.1, rfl, hg, ok, srs_ok ok, by rw [srs_len]; omega, rfl⟩ fun d v6 H6 hd t6 s6 => ?_⟩)⟩
      subst hd
      obtain ⟨tw, xsw, rfl, _, etw, ttw⟩ := th_tup t6
      obtain ⟨v1, v2, rfl, _, tv2⟩ := ths2 ttw
      obtain ⟨an, un, rfl, gan, ean, tun⟩ := th_lst tv2
      have ann : H5 an = none := by
        rcases gan with z | ⟨xs, z⟩
        · exact z
        · rw [s6 _ _ z] at ean; cases ean
      have eL : (srs m ws st b (L + 1)).map rowD = (srs m ws st b L).map rowD ++ [rowD (srF m ws st b L)] := by rw [srs_succ, List.map_append]; rfl
      obtain ⟨us', as', vv, aa, rfl, rfl, tus', rwa'⟩ := rwa.last (eL ▸ tus)
      refine .inr (.inl ⟨tw, _, 1, .ref an, rfl, rfl, SqT.of etw, rfl, ?_⟩)
      refine ⟨_, rfl, _, rfl, _, rfl, tb, _, rfl, SqL.of (s6 _ _ (s5 _ _ etb)), fun tb2 htb2 => ?_⟩
      rw [List.map_append, show List.map V.ref [aa] = [V.ref aa] from rfl, cutV_neg1]
      refine ⟨by show 3 ≤ sizeLine; decide, fun r hr => ?_⟩
      obtain ⟨H7, hH7⟩ : ∃ H7, H7 = upd H6 tb2 (.lst (as'.map V.ref)) := ⟨_, rfl⟩
      rw [← hH7] at hr
      show Q (.ref r) (upd (upd H6 tb2 (.lst (as'.map V.ref))) r (.tup [.str "through", .ref an, .ref tb2]))
      rw [← hH7]
      obtain ⟨H8, hH8⟩ : ∃ H8, H8 = upd H7 r (.tup [.str "through", .ref an, .ref tb2]) := ⟨_, rfl⟩
      rw [← hH8]
      have s67 : Same H6 H7 := fun b o e => by rw [hH7, upd_ne (ne_of_none e htb2)]; exact e
      have s78 : Same H7 H8 := fun b o e => by rw [hH8, upd_ne (ne_of_none e hr)]; exact e
      have s68 : Same H6 H8 := fun b o e => s78 _ _ (s67 _ _ e)
      have s58 : Same H5 H8 := fun b o e => s68 _ _ (s6 _ _ e)
      have s8 : Same H H8 := fun b o e => s58 _ _ (sH5 _ _ e)
      have gone : ∀ {Hx : Hp} {c : Addr}, Same H Hx → Hx c = none → H c = none := fun {Hx c} s hc => by
        cases z : H c with
        | none => rfl
        | some o => rw [s _ _ z] at hc; cases hc
      have rn : H r = none := gone (fun b o e => s67 _ _ (s6 _ _ (sH5 _ _ e))) hr
      have tb2n : H tb2 = none := gone (fun b o e => s6 _ _ (sH5 _ _ e)) htb2
      have annH : H an = none := gone sH5 ann
      have T' : FpVs (NewS H) H8 (as'.map V.ref) (tabsL (skF m ws st b) L) as' := by
        have := tabs_fp (G := NewS H) (H' := H8) (fun b xs e => s58 _ _ (sn5 _ _ e)) tus' rwa' (fun a ha => .inl (nwa a (List.mem_append.mpr (.inl ha))))
        unfold srs at this
        rw [List.map_map] at this
        exact this
      rw [a1] at tun
      have las' := rwa_lst tus' rwa'
      refine toldQ (.tuple [.str "through", .list (numL ns), .list (tabsL (skF m ws st b) L)]) (.ref r) H8 ([] ++ ((an :: []) ++ ((tb2 :: as') ++ []))) (q _ (.inr ⟨L, ns, l, rfl, hL, hno, e, a2, a3, w2', a4, by rw [a1]⟩)) (.tup (.inl rn) (by rw [hH8]; exact upd_same) (.cons (.str _) (.cons (.lst (.inl annH) (s68 _ _ ean) (nums_fp tun)) (.cons (.lst (.inl tb2n) (s78 _ _ (by rw [hH7]; exact upd_same)) T') .nil)))) ?_ (Kq.same s8) (hq.same s8)
      simp only [List.nil_append, List.append_nil, List.cons_append, List.nodup_cons, List.mem_cons, not_or]
      refine ⟨⟨(fun z => by rw [z, htb2] at ean; cases ean), fun z => ?_⟩, fun z => ?_, (List.nodup_append.mp nda).1⟩
      · obtain ⟨xs, ex⟩ := las' an z
        rw [sn5 _ _ ex] at ann; cases ann
      · obtain ⟨xs, ex⟩ := las' tb2 z
        rw [s6 _ _ (sn5 _ _ ex)] at htb2; cases htb2
    refine ⟨fun n σ Hn => ∃ (L : Nat) (us : List V) (as : List Addr), σ = [some (.ref al), some (.int st), some vb, some vg, some (.int ((most : Nat) : Int)), some (.ref nw), some (.ref ar), none] ∧ L + n = most ∧ (∀ k, k < L → enF (skF m ws st b k) g = false) ∧ Same H Hn ∧ Hn nw = some (.lst (List.replicate ((m : Nat) : Int).toNat [V.non]).flatten) ∧ Hn ar = some (.lst us) ∧ ThVs (fun b => b ≠ ar) Hn us ((srs m ws st b (L + 1)).map rowD) ∧ RwA Hn us as ∧ as.Nodup ∧ (∀ a ∈ as, H a = none), ⟨most, 0, [.ref ta], [a3], rfl, by omega, (fun k hk => absurd hk (Nat.not_lt_zero k)), s4, s34 _ _ (s23 _ _ (s12 _ _ enw)), by rw [hH4]; exact upd_same, ?_, .cons (s34 _ _ eta) .nil, by simp, fun a ha => by rw [List.mem_singleton.mp ha]; exact a3n⟩, ?_⟩
    · refine .cons (t3.mv fun b o g e => ⟨(fun z => by rw [z, har] at e; cases e), s34 _ _ e⟩) .nil
    rintro n σ Hn ⟨L, us, as, rfl, hL, hno, sn, enwn, earn, tus, rwa, nda, nwa⟩
    have lus : us.length = L + 1 := by rw [tus.len, List.length_map, srs_len]
    have eL : (srs m ws st b (L + 1)).map rowD = (srs m ws st b L).map rowD ++ [rowD (srF m ws st b L)] := by rw [srs_succ, List.map_append]; rfl
    have aL : atI ((srs m ws st b (L + 1)).map rowD) (-1) = some (rowD (srF m ws st b L)) := by rw [eL]; exact atI_last _ _
    obtain ⟨vr, hvr, tvr⟩ := atI_th tus aL
    obtain ⟨tr, a5, us5, c5, vs5, rfl, _, etr, na5, ea5, tu5, _, ec5, tv5⟩ := row_fp tvr
    refine ⟨_, rfl, ar, us, rfl, .inl (SqL.of earn), _, rfl, _, _, rfl, rfl, _, rfl, ?_⟩
    rw [lus]
    cases n with
    | zero =>
      rw [decide_eq_false (by omega)]
      exact iteF (iteF (fin _ _ ⟨L, us, as, rfl, by omega, hno, fun h => by omega, sn, earn, tus, rwa, nda, nwa⟩))
    | succ n =>
      rw [decide_eq_true (by omega)]
      refine iteT ?_
      refine ⟨_, rfl, _, rfl, ar, us, _, _, rfl, rfl, SqL.of earn, hvr, .inr (.inl ⟨tr, _, 0, _, rfl, rfl, SqT.of etr, rfl, vg, rfl, callT (E := E0) (fun d => d = .bool (enF (skF m ws st b L) g)) (.cons (.lst trivial ea5 (tab_any tu5)) (.cons (tgM sn) .nil)) ⟨_, g, rfl, by rw [show (srF m ws st b L).1.length = m from sk_len ok L]; exact hg, rfl⟩ fun d v H5 hd t5 s5 => ?_⟩)⟩
      subst hd
      cases t5
      refine ⟨_, rfl, ?_⟩
      have sn5 : Same H H5 := fun b o e => s5 _ _ (sn _ _ e)
      have tus5 := tus.mv fun b o z e => ⟨z, s5 b o e⟩
      have rwa5 := rwa.mv fun b xs e => s5 _ _ e
      cases e : enF (skF m ws st b L) g with
      | true => exact iteF (fin _ _ ⟨L, us, as, rfl, by omega, hno, fun _ => e, sn5, s5 _ _ earn, tus5, rwa5, nda, nwa⟩)
      | false =>
        refine iteT ⟨fun σ' H' => σ' = [some (.ref al), some (.int st), some vb, some vg, some (.int ((most : Nat) : Int)), some (.ref nw), some (.ref ar), none] ∧ ∃ (us : List V) (as : List Addr), Same H H' ∧ H' nw = some (.lst (List.replicate ((m : Nat) : Int).toNat [V.non]).flatten) ∧ H' ar = some (.lst us) ∧ ThVs (fun b => b ≠ ar) H' us ((srs m ws st b (L + 1 + 1)).map rowD) ∧ RwA H' us as ∧ as.Nodup ∧ (∀ a ∈ as, H a = none), fun σ' H' ⟨h1, us', as', h2, h3, h4, h5, h6, h7, h8⟩ => ⟨n, by omega, L + 1, us', as', h1, by omega, fun k hk => ?_, h2, h3, h4, h5, h6, h7, h8⟩, ?_⟩
        · by_cases c : k = L
          · rw [c]; exact e
          · exact hno k (by omega)
        refine ⟨_, rfl, .inl ⟨rfl, us, SqL.of (s5 _ _ earn)⟩, .ref al, rfl, .int st, rfl, _, rfl, _, rfl, ar, us, _, _, rfl, rfl, SqL.of (s5 _ _ earn), hvr, .inr (.inl ⟨tr, _, 0, _, rfl, rfl, SqT.of (s5 _ _ etr), rfl, .ref nw, rfl, callN (E := E0) (fun d => d = rowD (srF m ws st b (L + 1))) (.cons (ThV.mv (fun b o _ e => ⟨fun q hq => (nomatch hq), e⟩) (tlM sn5)) (.cons (.int _) (.cons ⟨a5, us5, _, rfl, rfl, fun q hq => (nomatch hq), s5 _ _ ea5, tab_any tu5⟩ (.cons ⟨nw, _, _, rfl, rfl, fun q hq => (nomatch hq), s5 _ _ enwn, rep_non _⟩ .nil)))) ⟨m, ws, st, skF m ws st b L, List.replicate m none, by rw [show ((m : Nat) : Int).toNat = m by simp]; rfl, ok, sk_len ok L, List.length_replicate, rfl⟩ fun d v6 H6 hd t6 s6 => ?_⟩)⟩
        subst hd
        have nwar : nw ≠ ar := ne_of_none (s23 _ _ (s12 _ _ enw)) har
        have ear5 := s5 _ _ earn
        obtain ⟨ta6, a6, us6, c6, vs6, rfl, _, et6, ga6, ea6, _, _, _, _⟩ := row_fp t6
        have a6n : H5 a6 = none := by
          rcases ga6 with z | ⟨xs, z⟩
          · exact z
          · rw [s6 _ _ z] at ea6; cases ea6
        have nar : ∀ b, NewS H5 b → b ≠ ar := fun b hb z => by
          rw [z] at hb
          rcases hb with z | ⟨xs, z⟩
          · rw [ear5] at z; cases z
          · rw [ear5] at z; cases z
        refine ⟨ar, us, .ref ta6, rfl, rfl, s6 _ _ ear5, by rw [lus, sizeLine_eq]; omega, rfl, us ++ [.ref ta6], as ++ [a6], fun b o e => by rw [upd_ne (ne_of_none e arn)]; exact s6 _ _ (sn5 _ _ e), by rw [upd_ne nwar]; exact s6 _ _ (s5 _ _ enwn), upd_same, ?_, (rwa5.mv fun b xs e => ?_).snoc (c := c6) ?_, ?_, fun a ha => ?_⟩
        · rw [srs_succ (L + 1), List.map_append]
          exact (tus5.mv fun b o z e => ⟨z, by rw [upd_ne z]; exact s6 _ _ e⟩).append (.cons (t6.mv fun b o z e => ⟨nar b z, by rw [upd_ne (nar b z)]; exact e⟩) .nil)
        · have z : b ≠ ar := fun z => by rw [z, ear5] at e; cases e
          rw [upd_ne z]; exact s6 _ _ e
        · have z : ta6 ≠ ar := fun z => by rw [z, s6 _ _ ear5] at et6; cases et6
          rw [upd_ne z]; exact et6
        · refine List.nodup_append.mpr ⟨nda, by simp, fun a ha c hc z => ?_⟩
          subst z
          obtain ⟨xs, ex⟩ := rwa_lst tus5 rwa5 a ha
          rw [List.mem_singleton.mp hc, a6n] at ex; cases ex
        · rcases List.mem_append.mp ha with h | h
          · exact nwa a h
          · rw [List.mem_singleton.mp h]
            cases z : H a6 with
            | none => rfl
            | some o => rw [sn5 _ _ z] at a6n; cases a6n
end
theorem mid_of {t u : DS} {D : DEnds} {ρ : List Sl} (M : List Sl → Prop) (h1 : t { D with nx := M } ρ) (h2 : ∀ ρ', M ρ' → Go (u D) ρ') : dSeqG (dMid t) u D ρ := ⟨M, h1, h2⟩
def ForW (g : DG) (tb : DS) (D : DEnds) (xs : List PyData) (ρ1 : List Sl) : Prop := ∃ I : List PyData → List Sl → Prop, I xs ρ1 ∧ (∀ x r ρ, I (x :: r) ρ → g x ρ (Blk tb { nx := I r, ct := I r, bk := D.nx, rt := D.rt })) ∧ ∀ ρ, I [] ρ → D.nx ρ
theorem for_of {it : DF} {g : DG} {tb : DS} {D : DEnds} {ρ : List Sl} (h : it ρ fun xs ρ1 => ForW g tb D xs ρ1) : dFor it g tb D ρ := h
theorem forW {g : DG} {tb : DS} {D : DEnds} {xs : List PyData} {ρ1 : List Sl} (I : List PyData → List Sl → Prop) (h0 : I xs ρ1) (h1 : ∀ x r ρ, I (x :: r) ρ → g x ρ (Blk tb { nx := I r, ct := I r, bk := D.nx, rt := D.rt })) (h2 : ∀ ρ, I [] ρ → D.nx ρ) : ForW g tb D xs ρ1 := ⟨I, h0, h1, h2⟩
theorem bnd_at {α : Type} {o : Option α} {d : α} {f : α → Prop} (h : o = some d) (q : f d) : bnd o f := by rw [h]; exact q
def spScaleD : DSp := fun ds Q => ∃ d, ds = [d] ∧ ∀ r : Int, 1 ≤ r → r ≤ 1000000000000000000 → Q (.int r)
def spChangeD : DSp := fun ds Q => ∃ (d : PyData) (sc : Int), ds = [d, .int sc] ∧ 0 ≤ sc ∧ sc ≤ 1000000000000000000 ∧ ∀ r : Int, -sc ≤ r → r ≤ sc → Q (.int r)
def spStoreD : DSp := fun ds Q => ∃ (d : PyData) (sc : Int), ds = [d, .int sc] ∧ 0 ≤ sc ∧ sc ≤ 1000000000000000000 ∧ ∀ r : Int, 0 ≤ r → r ≤ 100000000000000000000 → Q (.int r)
def spLandD : DSp := fun ds Q => ∃ (d : PyData) (pl wn : Nat) (sc : Int), ds = [d, .int (pl : Nat), .int (wn : Nat), .int sc] ∧ 1 ≤ pl ∧ pl ≤ 12 ∧ wn ≤ 40 ∧ 1 ≤ sc ∧ sc ≤ 1000000000000000000 ∧ ∀ m ws, LandOk m ws → Q (landD m ws)
def spTableD : DSp := fun ds Q => ∃ (d : PyData) (m : Nat) (st : Int), ds = [d, .int (m : Nat), .int st] ∧ m ≤ 12 ∧ 0 ≤ st ∧ st ≤ 1000000000000000000000 ∧ ∀ t, TabOk m st t → Q (.list (tabL t))
def ODs (st : Int) (d : PyData) : Prop := ∃ o : Option Int, d = oD o ∧ ∀ x, o = some x → 0 ≤ x ∧ x ≤ st
theorem ods_tab {st : Int} : ∀ {ds : List PyData}, (∀ d ∈ ds, ODs st d) → ∃ t : Tb, ds = tabL t ∧ TabOk ds.length st t
  | [], _ => ⟨[], rfl, rfl, fun p x e => by rw [gt_out (Nat.zero_le _)] at e; cases e⟩
  | d :: ds, h => by
    obtain ⟨t, rfl, ht⟩ := ods_tab (ds := ds) fun e he => h e (List.mem_cons_of_mem _ he)
    obtain ⟨o, rfl, ho⟩ := h d List.mem_cons_self
    refine ⟨o :: t, rfl, ⟨by rw [List.length_cons, List.length_cons, len_tab], fun p x e => ?_⟩⟩
    cases p with
    | zero => exact ho x e
    | succ p => exact ht.bd p x e
theorem lt2 {r : Int} (h0 : 0 ≤ r) (h1 : r < 2) : r = 0 ∨ r = 1 := by omega
section
variable {P : Program} {w : World} {K : PySem.W.Frag} {mg : Str → Option Value} {base : Heap}
theorem ok_scale (T : Txt K mg) : FnOk P w K mg base CX0 4 T.a_scale T.d_scale ["_law_hand_here"] (spD [.hd] spScaleD) := by
  have G_draw := @ok_drawD P w K mg base T
  have b_draw := bd_draw T
  refine fn_d T.F_scale sc_scale rfl (fun C cdv A outer s H E hr => ⟨_, (@dss_one _ _ _ _ (@ds_ret _ _ _ _ _ (@pd_ix _ _ _ _ _ _ _ (pd_f (pf_lst (dv_cons pd_int (dv_cons pd_int (dv_cons pd_int (dv_cons pd_int (dv_cons (pd_op op_pow ok_pow pd_int pd_int) (dv_cons (pd_op op_pow ok_pow pd_int pd_int) dv_nil se_BinOp) se_BinOp) se_Constant) se_Constant) se_Constant) se_Constant))) (pd_call (pe_call G_draw (hr.mono (by decide)) rfl T.mg_draw T.kp_draw b_draw .nil pass0 (da_s (pv 0) (da_v pd_int da_nil se_Constant) se_Name) (he := se_Name) (hpl := (np_cons se_Constant np_nil)))) (fun _ _ => rfl)))), fun ds Q hl h => ?_⟩)
  obtain ⟨d, rfl, q⟩ := h
  decreasing_tactic
  refine ⟨⟨by decide, by decide, by decide⟩, ⟨by decide, by decide, by decide⟩, by decide, rfl, 6, rfl, by decide, by decide, fun r r0 r1 => ?_⟩
  decreasing_tactic
  have hr' : r = 0 ∨ r = 1 ∨ r = 2 ∨ r = 3 ∨ r = 4 ∨ r = 5 := by omega
  rcases hr' with rfl | rfl | rfl | rfl | rfl | rfl
  all_goals exact q _ (by decide) (by decide)
theorem ok_change (T : Txt K mg) : FnOk P w K mg base CX0 4 T.a_change T.d_change ["_law_hand_here", "_law_scale_here"] (spD [.hd, .sh] spChangeD) := by
  have G_draw := @ok_drawD P w K mg base T
  have b_draw := bd_draw T
  refine fn_d T.F_change sc_change rfl (fun C cdv A outer s H E hr => ⟨_, (dss_one (ds_ret (pd_op op_sub ok_sub (pd_call (pe_call G_draw (hr.mono (by decide)) rfl T.mg_draw T.kp_draw b_draw .nil pass0 (da_s (pv 0) (da_v (pd_op op_add ok_add (pd_op op_mul ok_mul pd_int (pd_var (pv 1))) pd_int) da_nil se_BinOp) se_Name) (he := se_Name) (hpl := (np_cons se_BinOp np_nil)))) (pd_var (pv 1))))), fun ds Q hl h => ?_⟩)
  obtain ⟨d, sc, rfl, s0, s1, q⟩ := h
  decreasing_tactic
  refine ⟨rfl, .inl ⟨by decide, by decide⟩, 2 * sc + 1, rfl, by omega, by omega, fun r r0 r1 => ?_⟩
  decreasing_tactic
  exact q _ (by omega) (by omega)
end
def WyB (m : Nat) (w : Wy) : Prop := w.1 < m ∧ w.2.1 < m ∧ -1000000000000000000 ≤ w.2.2 ∧ w.2.2 ≤ 1000000000000000000
theorem toNat_lt {r : Int} {m : Nat} (h0 : 0 ≤ r) (h1 : r < ((m : Nat) : Int)) : ∃ n : Nat, r = ((n : Nat) : Int) ∧ n < m := ⟨r.toNat, by omega, by omega⟩
section
variable {P : Program} {w : World} {K : PySem.W.Frag} {mg : Str → Option Value} {base : Heap}
theorem ok_land (T : Txt K mg) : FnOk P w K mg base CX0 5 T.a_land T.d_land ["_law_hand_here", "_law_places", "_law_ways", "_law_scale_here"] (spD [.hd, .sh, .sh, .sh] spLandD) := by
  have G_draw := @ok_drawD P w K mg base T
  have b_draw := bd_draw T
  have G_change := @ok_change P w K mg base T
  have b_change := bd_change T
  refine fn_d T.F_land sc_land rfl (fun C cdv A outer s H E hr => ⟨_, (@dss_consG _ _ _ _ _ _ (ds_set (ps_set (i := 4) sc_land.nd rfl (Or.inl rfl) (pd_op op_add ok_add pd_int (pd_call (pe_call G_draw (hr.mono (by decide)) rfl T.mg_draw T.kp_draw b_draw .nil pass0 (da_s (pv 0) (da_v (pd_var (pv 1)) da_nil se_Name) se_Name) (he := se_Name) (hpl := (np_cons se_Name np_nil))))))) (@dss_consG _ _ _ _ _ _ (ds_own (ps_set (i := 5) sc_land.nd rfl (Or.inl rfl) (pf_lst dv_nil))) (@dss_consG _ _ _ _ _ _ (@ds_for _ _ _ _ _ _ (@ps_for _ _ _ _ _ _ _ _ PassesOwn.never rfl (di_rng1 (pi_range1 rfl T.n_range (dv_cons (pd_call (pe_call G_draw (hr.mono (by decide)) rfl T.mg_draw T.kp_draw b_draw .nil pass0 (da_s (pv 0) (da_v (pd_op op_add ok_add (pd_var (pv 2)) pd_int) da_nil se_BinOp) se_Name) (he := se_Name) (hpl := (np_cons se_BinOp np_nil)))) dv_nil se_Call))) (dg_name (pg_name (i := 6) sc_land.nd rfl (Or.inl rfl))) (@dss_consG _ _ _ _ _ _ (ds_set (ps_set (i := 7) sc_land.nd rfl (Or.inl rfl) (pd_call (pe_call G_draw (hr.mono (by decide)) rfl T.mg_draw T.kp_draw b_draw .nil pass0 (da_s (pv 0) (da_v (pd_var (pv 4)) da_nil se_Name) se_Name) (he := se_Name) (hpl := (np_cons se_Name np_nil)))))) (@dss_consG _ _ _ _ _ _ (ds_set (ps_set (i := 8) sc_land.nd rfl (Or.inl rfl) (pd_call (pe_call G_draw (hr.mono (by decide)) rfl T.mg_draw T.kp_draw b_draw .nil pass0 (da_s (pv 0) (da_v (pd_var (pv 4)) da_nil se_Name) se_Name) (he := se_Name) (hpl := (np_cons se_Name np_nil)))))) (@dss_consG _ _ _ _ _ _ (@ds_mid _ _ _ _ (@ds_if _ _ _ _ _ _ _ _ _ (pdt_cmp (op_eqD (units_of hr)) ok_eq (pd_call (pe_call G_draw (hr.mono (by decide)) rfl T.mg_draw T.kp_draw b_draw .nil pass0 (da_s (pv 0) (da_v pd_int da_nil se_Constant) se_Name) (he := se_Name) (hpl := (np_cons se_Constant np_nil)))) pd_int (nomark _)) (dss_one (ds_set (ps_set (i := 8) sc_land.nd rfl (Or.inl rfl) (pd_op op_mod ok_mod (pd_op op_add ok_add (pd_var (pv 7)) pd_int) (pd_var (pv 4)))))) dss_nil)) (@dss_one _ _ _ _ (@ds_app _ _ _ _ _ _ (@ps_expr _ _ _ _ (@pe_bm _ _ _ _ _ _ _ _ _ _ _ _ PySem.F.plainAttrs_list PySem.F.slot_list_append PySem.F.type_list_append mt_append (pv 5) (@pa_cons _ _ _ _ _ (@pd_tup _ _ _ _ _ _ (@dv_cons _ _ _ _ _ _ (pd_var (pv 7)) (@dv_cons _ _ _ _ _ _ (pd_var (pv 8)) (@dv_cons _ _ _ _ _ _ (@pd_call _ _ _ _ _ _ _ (@pe_call _ _ _ _ _ _ _ _ _ _ _ _ _ _ _ _ G_change (hr.mono (by decide)) rfl T.mg_change T.kp_change b_change .nil pass0 (da_s (pv 0) (da_v (pd_ix (pd_f (pf_lst (dv_cons (pd_var (pv 3)) (dv_cons (pd_var (pv 3)) (dv_cons pd_int dv_nil se_Constant) se_Name) se_Name))) (pd_call (pe_call G_draw (hr.mono (by decide)) rfl T.mg_draw T.kp_draw b_draw .nil pass0 (da_s (pv 0) (da_v pd_int da_nil se_Constant) se_Name) (he := se_Name) (hpl := (np_cons se_Constant np_nil)))) (fun _ _ => rfl)) da_nil se_Subscript) se_Name) (by decide) se_Name ((np_cons se_Subscript np_nil)))) dv_nil se_Call) se_Name) se_Name)) pa_nil se_Tuple) (by rfl) (by rfl) (by rfl) (by rfl) (by rfl)) (by rfl))))))) (by intro _; rfl))) (dss_one (ds_ret (pd_tup (dv_cons (pd_var (pv 4)) (dv_cons (pd_var (pv 5)) dv_nil se_Name) se_Name))))))), fun ds Q hl h => ?_⟩)
  obtain ⟨d, pl, wn, sc, rfl, p1, p2, w2, s0, s1, q⟩ := h
  decreasing_tactic
  refine ⟨rfl, _, rfl, by omega, by omega, fun r r0 r1 => ?_⟩
  decreasing_tactic
  obtain ⟨m, hm, m1⟩ : ∃ m : Nat, 1 + r = ((m : Nat) : Int) ∧ 1 ≤ m ∧ m ≤ 12 := ⟨(1 + r).toNat, by omega, by omega, by omega⟩
  rw [hm]
  refine go ?_; decreasing_tactic
  refine ⟨by decide, ?_⟩
  refine go ?_; array_mem_dec
  refine ⟨rfl, _, rfl, by omega, by omega, fun c c0 c1 => ?_⟩
  array_mem_dec
  refine ⟨⟨by omega, by omega⟩, fun r ρ => ∃ (ws : List Wy) (z6 z7 z8 : Sl), ρ = [Sl.hd, Sl.sh (.int (pl : Nat)), Sl.sh (.int (wn : Nat)), Sl.sh (.int sc), Sl.sh (.int (m : Nat)), Sl.ow (ws.map wayD), z6, z7, z8] ∧ r.length + ws.length ≤ 40 ∧ ∀ w ∈ ws, WyB m w, ⟨[], _, _, _, rfl, by unfold rngD; simp; omega, fun w hw => nomatch hw⟩, ?_, ?_⟩
  · rintro x r ρ ⟨ws, z6, z7, z8, rfl, hl2, hw⟩
    sizeOf_list_dec
    refine ⟨rfl, _, rfl, by omega, by omega, fun a a0 a1 => ?_⟩
    refine go ?_; decreasing_tactic
    refine ⟨rfl, _, rfl, by omega, by omega, fun b b0 b1 => ?_⟩
    refine go ?_
    unfold dSeqG
    obtain ⟨a', rfl, ha⟩ := toNat_lt a0 a1
    obtain ⟨b', rfl, hb⟩ := toNat_lt b0 b1
    refine ⟨fun ρ => ∃ e : Nat, e < m ∧ ρ = [Sl.hd, Sl.sh (.int (pl : Nat)), Sl.sh (.int (wn : Nat)), Sl.sh (.int sc), Sl.sh (.int (m : Nat)), Sl.ow (ws.map wayD), Sl.sh x, Sl.sh (.int (a' : Nat)), Sl.sh (.int (e : Nat))], ?_, ?_⟩
    · decreasing_tactic
      refine ⟨rfl, _, rfl, by decide, by decide, fun u u0 u1 => ?_⟩
      decreasing_tactic
      refine ⟨rfl, rfl, min0 _ _, ?_⟩
      rw [eqv_int]
      cases (u == 0) with
      | true =>
        decreasing_tactic
        refine ⟨by omega, ?_⟩
        obtain ⟨e, he, hem⟩ := toNat_lt (r := (((a' : Nat) : Int) + 1) % ((m : Nat) : Int)) (m := m) (Int.emod_nonneg _ (by omega)) (Int.emod_lt_of_pos _ (by omega))
        rw [he]
        exact ⟨e, hem, rfl⟩
      | false =>
        decreasing_tactic
        exact ⟨b', hb, rfl⟩
    · rintro ρ ⟨e, he, rfl⟩
      refine go ?_; decreasing_tactic
      refine ⟨rfl, by show 3 ≤ 1000; decide, rfl, _, rfl, by decide, by decide, fun u u0 u1 => ?_⟩
      decreasing_tactic
      obtain ⟨sc', hsc, hs0, hs1⟩ : ∃ sc' : Int, atI [PyData.int sc, .int sc, .int 1] u = some (.int sc') ∧ 0 ≤ sc' ∧ sc' ≤ 1000000000000000000 := by
        have hu : u = 0 ∨ u = 1 ∨ u = 2 := by omega
        rcases hu with rfl | rfl | rfl
        · exact ⟨sc, rfl, by omega, s1⟩
        · exact ⟨sc, rfl, by omega, s1⟩
        · exact ⟨1, rfl, by decide, by decide⟩
      rw [hsc]
      decreasing_tactic
      refine ⟨_, sc', rfl, hs0, hs1, fun v v0 v1 => ?_⟩
      decreasing_tactic
      refine ⟨by decide, by rw [List.length_map]; simp at hl2; omega, ws ++ [(a', e, v)], _, _, _, by rw [List.map_append]; rfl, by simp at hl2 ⊢; omega, fun w hw' => ?_⟩
      rcases List.mem_append.mp hw' with z | z
      · exact hw w z
      · have : w = (a', e, v) := by simpa using z
        subst this
        exact ⟨ha, he, show -1000000000000000000 ≤ v by omega, show v ≤ 1000000000000000000 by omega⟩
  · rintro ρ ⟨ws, z6, z7, z8, rfl, hl2, hw⟩
    refine go ?_; decreasing_tactic
    refine ⟨by decide, ?_⟩
    exact q m ws ⟨m1.1, m1.2, by simp at hl2; omega, fun w h => (hw w h).1, fun w h => (hw w h).2.1, fun w h => (hw w h).2.2.1, fun w h => (hw w h).2.2.2⟩
end
def spSizedD : DSp := fun ds Q => ∃ d, ds = [d] ∧ ∀ m ws st g, LandOk m ws → 0 ≤ st → st ≤ 100000000000000000000 → TabOk m st g → Q (.tuple [landD m ws, .int st, .list (tabL g)])
theorem mod3 {st x : Int} (h0 : 0 ≤ st) : 0 ≤ (if st - x % 3 > 0 then st - x % 3 else 0) ∧ (if st - x % 3 > 0 then st - x % 3 else 0) ≤ st := by
  have := Int.emod_nonneg x (show (3 : Int) ≠ 0 by decide)
  split <;> omega
section
variable {P : Program} {w : World} {K : PySem.W.Frag} {mg : Str → Option Value} {base : Heap}
end
def spLStepD : DSp := fun ds Q => ∃ (st : Int) (l : Option Int) (c : Int), ds = [.int st, oD l, .int c] ∧ Q (oD (l.bind fun x => stepF st x c))
def spSceneD : DSp := fun ds Q => ∃ d, ds = [d] ∧ ∀ (m : Nat) (ws : List Wy) (st : Int) (b g : Sp2) (most : Nat), LandOk m ws → 0 ≤ st → st ≤ 100000000000000000000 → b.1 < m → 0 ≤ b.2 → b.2 ≤ st → g.1 < m → 0 ≤ g.2 → g.2 ≤ st → most ≤ 200 → Q (.tuple [landD m ws, .int st, spotD b, spotD g, .int (most : Nat)])
theorem bnd_pick {P : PyData → Prop} {xs : List PyData} {u : Int} {Q : PyData → Prop} (h : ∃ d, atI xs u = some d ∧ P d) (k : ∀ d, P d → Q d) : bnd (atI xs u) Q := by
  obtain ⟨d, e, p⟩ := h
  rw [e]
  exact k d p
section
variable {P : Program} {w : World} {K : PySem.W.Frag} {mg : Str → Option Value} {base : Heap}
theorem ok_step (T : Txt K mg) : FnOk P w K mg base CX0 1 T.a_step T.d_step ["_law_store", "_law_level", "_law_change_here"] (spD [.sh, .sh, .sh] spLStepD) := by
  refine fn_d T.F_step sc_step rfl (fun C cdv A outer s H E hr => ⟨_, (@dss_cons _ _ _ _ _ _ (ds_if (PW.pt (pwd_or (pdt_cmp op_isN ok_isN (pd_var (pv 1)) pd_non (nomark _)) (pwd_or1 (pdt_cmp op_lt ok_lt (pd_op op_add ok_add (pd_var (pv 1)) (pd_var (pv 2))) pd_int (nomark _)))))
      (dss_one (ds_ret pd_non))
      dss_nil) (dss_one (ds_ret (pd_cb cb_min (pe_callB (call_min2 rfl) rfl T.n_min bt_min (dv_cons (pd_var (pv 0)) (dv_cons (pd_op op_add ok_add (pd_var (pv 1)) (pd_var (pv 2))) dv_nil se_BinOp) se_Name) (he := se_Name) (hpl := (np_cons se_BinOp np_nil))))))), fun ds Q hl h => ?_⟩)
  obtain ⟨st, l, c, rfl, q⟩ := h
  cases l with
  | none =>
    decreasing_trivial
    exact q
  | some x =>
    have e : oD ((some x).bind fun y => stepF st y c) = if x + c < 0 then .none else .int (if x + c < st then x + c else st) := by
      show oD (stepF st x c) = _
      unfold stepF
      by_cases h : x + c < 0
      · rw [if_pos h, if_pos h]; rfl
      · rw [if_neg h, if_neg h]
        show PyData.int _ = PyData.int _
        congr 1
        split <;> split <;> omega
    rw [e] at q
    decreasing_trivial
    by_cases c1 : x + c < 0
    · rw [if_pos c1] at q
      rw [decide_eq_true c1]
      decreasing_trivial
      exact q
    · rw [if_neg c1] at q
      rw [decide_eq_false c1]
      decreasing_trivial
      exact q
theorem ok_scene (T : Txt K mg) : FnOk P w K mg base CX0 6 T.a_scene T.d_scene ["_law_hand_here"] (spD [.hd] spSceneD) := by
  have G_draw := @ok_drawD P w K mg base T
  have b_draw := bd_draw T
  have G_scale := @ok_scale P w K mg base T
  have b_scale := bd_scale T
  have G_land := @ok_land P w K mg base T
  have b_land := bd_land T
  refine fn_d T.F_scene sc_scene rfl (fun C cdv A outer s H E hr => ⟨_, (@dss_consG _ _ _ _ _ _ (ds_set (ps_set (i := 1) sc_scene.nd rfl (Or.inl rfl) (pd_call (pe_call G_scale (hr.mono (by decide)) rfl T.mg_scale T.kp_scale b_scale .nil pass0 (da_s (pv 0) da_nil se_Name) (he := se_Name) (hpl := np_nil))))) (@dss_consG _ _ _ _ _ _ (@ds_asg _ _ _ _ _ (@ps_asg _ _ _ _ _ _ (@pd_ix _ _ _ _ _ _ _ (pd_f (pf_lst (dv_cons (pd_tup (dv_cons pd_int (dv_cons pd_int dv_nil se_Constant) se_Constant)) (dv_cons (pd_tup (dv_cons pd_int (dv_cons pd_int dv_nil se_Constant) se_Constant)) dv_nil se_Tuple) se_Tuple))) (pd_cb cb_int (pe_callTy call_int1 rfl T.n_int bt_int (dv_cons (pd_cmp (op_eqD (units_of hr)) ok_eq (pd_call (pe_call G_draw (hr.mono (by decide)) rfl T.mg_draw T.kp_draw b_draw .nil pass0 (da_s (pv 0) (da_v pd_int da_nil se_Constant) se_Name) (he := se_Name) (hpl := (np_cons se_Constant np_nil)))) pd_int (nomark _)) dv_nil se_Compare) (he := se_Compare) (hpl := np_nil))) (fun _ _ => rfl)) (dg_t2 (pg_tup (n := 2) rfl (pgs_cons (pg_name (i := 2) sc_scene.nd rfl (Or.inl rfl)) (pgs_cons (pg_name (i := 3) sc_scene.nd rfl (Or.inl rfl)) pgs_nil)))) (by rfl) (by rfl) (by rfl))) (@dss_consG _ _ _ _ _ _ (ds_set (ps_set (i := 4) sc_scene.nd rfl (Or.inl rfl) (pd_call (pe_call G_land (hr.mono (by decide)) rfl T.mg_land T.kp_land b_land .nil pass0 (da_s (pv 0) (da_v (pd_var (pv 2)) (da_v (pd_var (pv 3)) (da_v (pd_var (pv 1)) da_nil se_Name) se_Name) se_Name) se_Name) (he := se_Name) (hpl := (np_cons se_Name (np_cons se_Name (np_cons se_Name np_nil)))))))) (@dss_consG _ _ _ _ _ _ (@ds_set _ _ _ _ _ (@ps_set _ _ 5 _ _ _ _ sc_scene.nd rfl (Or.inl rfl) (@pd_ix _ _ _ _ _ _ _ (pd_f (pf_lst (dv_cons (pd_var (pv 1)) (dv_cons (pd_op op_mul ok_mul pd_int (pd_var (pv 1))) (dv_cons pd_int (dv_cons (pd_op op_pow ok_pow pd_int pd_int) (dv_cons (pd_op op_pow ok_pow pd_int pd_int) dv_nil se_BinOp) se_BinOp) se_Constant) se_BinOp) se_Name))) (pd_call (pe_call G_draw (hr.mono (by decide)) rfl T.mg_draw T.kp_draw b_draw .nil pass0 (da_s (pv 0) (da_v pd_int da_nil se_Constant) se_Name) (he := se_Name) (hpl := (np_cons se_Constant np_nil)))) (fun _ _ => rfl)) (by rfl) (by first | exact .inl rfl | exact .inr rfl | assumption))) (@dss_consG _ _ _ _ _ _ (ds_set (ps_set (i := 6) sc_scene.nd rfl (Or.inl rfl) (pd_cb cb_min (pe_callB (call_min2 rfl) rfl T.n_min bt_min (dv_cons (pd_var (pv 5)) (dv_cons (pd_op op_pow ok_pow pd_int pd_int) dv_nil se_BinOp) se_Name) (he := se_Name) (hpl := (np_cons se_BinOp np_nil)))))) (@dss_consG _ _ _ _ _ _ (@ds_set _ _ _ _ _ (@ps_set _ _ 7 _ _ _ _ sc_scene.nd rfl (Or.inl rfl) (@pd_tup _ _ _ _ _ _ (@dv_cons _ _ _ _ _ _ (pd_call (pe_call G_draw (hr.mono (by decide)) rfl T.mg_draw T.kp_draw b_draw .nil pass0 (da_s (pv 0) (da_v (pd_ixv (pv 4) pd_int (fun _ _ => rfl)) da_nil se_Subscript) se_Name) (he := se_Name) (hpl := (np_cons se_Subscript np_nil)))) (@dv_cons _ _ _ _ _ _ (@pd_ix _ _ _ _ _ _ _ (pd_f (pf_lst (dv_cons (pd_var (pv 6)) (dv_cons (pd_call (pe_call G_draw (hr.mono (by decide)) rfl T.mg_draw T.kp_draw b_draw .nil pass0 (da_s (pv 0) (da_v (pd_op op_add ok_add (pd_var (pv 6)) pd_int) da_nil se_BinOp) se_Name) (he := se_Name) (hpl := (np_cons se_BinOp np_nil)))) dv_nil se_Call) se_Name))) (pd_call (pe_call G_draw (hr.mono (by decide)) rfl T.mg_draw T.kp_draw b_draw .nil pass0 (da_s (pv 0) (da_v pd_int da_nil se_Constant) se_Name) (he := se_Name) (hpl := (np_cons se_Constant np_nil)))) (fun _ _ => rfl)) dv_nil se_Subscript) se_Call)) (by rfl) (by first | exact .inl rfl | exact .inr rfl | assumption))) (@dss_consG _ _ _ _ _ _ (@ds_set _ _ _ _ _ (@ps_set _ _ 8 _ _ _ _ sc_scene.nd rfl (Or.inl rfl) (@pd_tup _ _ _ _ _ _ (@dv_cons _ _ _ _ _ _ (pd_call (pe_call G_draw (hr.mono (by decide)) rfl T.mg_draw T.kp_draw b_draw .nil pass0 (da_s (pv 0) (da_v (pd_ixv (pv 4) pd_int (fun _ _ => rfl)) da_nil se_Subscript) se_Name) (he := se_Name) (hpl := (np_cons se_Subscript np_nil)))) (@dv_cons _ _ _ _ _ _ (@pd_ix _ _ _ _ _ _ _ (pd_f (pf_lst (dv_cons pd_int (dv_cons (pd_call (pe_call G_draw (hr.mono (by decide)) rfl T.mg_draw T.kp_draw b_draw .nil pass0 (da_s (pv 0) (da_v (pd_op op_add ok_add (pd_var (pv 6)) pd_int) da_nil se_BinOp) se_Name) (he := se_Name) (hpl := (np_cons se_BinOp np_nil)))) (dv_cons (pd_var (pv 6)) dv_nil se_Name) se_Call) se_Constant))) (pd_call (pe_call G_draw (hr.mono (by decide)) rfl T.mg_draw T.kp_draw b_draw .nil pass0 (da_s (pv 0) (da_v pd_int da_nil se_Constant) se_Name) (he := se_Name) (hpl := (np_cons se_Constant np_nil)))) (fun _ _ => rfl)) dv_nil se_Subscript) se_Call)) (by rfl) (by first | exact .inl rfl | exact .inr rfl | assumption))) (@dss_one _ _ _ _ (@ds_ret _ _ _ _ _ (@pd_tup _ _ _ _ _ _ (@dv_cons _ _ _ _ _ _ (pd_var (pv 4)) (@dv_cons _ _ _ _ _ _ (pd_var (pv 5)) (@dv_cons _ _ _ _ _ _ (pd_var (pv 7)) (@dv_cons _ _ _ _ _ _ (pd_var (pv 8)) (dv_cons (pd_ix (pd_f (pf_lst (dv_cons pd_int (dv_cons pd_int (dv_cons pd_int (dv_cons pd_int dv_nil se_Constant) se_Constant) se_Constant) se_Constant))) (pd_call (pe_call G_draw (hr.mono (by decide)) rfl T.mg_draw T.kp_draw b_draw .nil pass0 (da_s (pv 0) (da_v pd_int da_nil se_Constant) se_Name) (he := se_Name) (hpl := (np_cons se_Constant np_nil)))) (fun _ _ => rfl)) dv_nil se_Subscript) se_Name) se_Name) se_Name) se_Name))))))))))), fun ds Q hl h => ?_⟩)
  obtain ⟨d, rfl, q⟩ := h
  decreasing_tactic
  refine ⟨rfl, _, rfl, fun sc c0 c1 => ?_⟩
  refine go ?_; decreasing_tactic
  refine ⟨by decide, by decide, by decide, rfl, 8, rfl, by decide, by decide, fun r r0 r1 => ?_⟩
  decreasing_tactic
  refine ⟨rfl, rfl, min0 _ _, ?_⟩
  decreasing_tactic
  obtain ⟨pl, wn, p1, p2, w2, hat⟩ : ∃ pl wn : Nat, 1 ≤ pl ∧ pl ≤ 12 ∧ wn ≤ 40 ∧ atI [PyData.tuple [.int 5, .int 12], .tuple [.int 12, .int 40]] (if PyData.eqv (.int r) (.int 0) = true then (1 : Int) else 0) = some (.tuple [.int (pl : Nat), .int (wn : Nat)]) := by
    cases PyData.eqv (.int r) (.int 0) with
    | true => exact ⟨12, 40, by decide, by decide, by decide, rfl⟩
    | false => exact ⟨5, 12, by decide, by decide, by decide, rfl⟩
  rw [hat]
  decreasing_tactic
  refine go ?_; decreasing_tactic
  refine ⟨rfl, _, pl, wn, sc, rfl, p1, p2, w2, c0, c1, fun m ws ok => ?_⟩
  have m1 := ok.m1
  have m2 := ok.m2
  refine go ?_; decreasing_tactic
  refine ⟨.inl ⟨by decide, by decide⟩, ⟨by decide, by decide, by decide⟩, ⟨by decide, by decide, by decide⟩, by show 5 ≤ 1000; decide, rfl, 5, rfl, by decide, by decide, fun u u0 u1 => ?_⟩
  decreasing_tactic
  refine bnd_pick (P := fun d => ∃ st : Int, d = .int st ∧ 0 ≤ st ∧ st ≤ 100000000000000000000) ?_ ?_
  · have hu : u = 0 ∨ u = 1 ∨ u = 2 ∨ u = 3 ∨ u = 4 := by omega
    rcases hu with rfl | rfl | rfl | rfl | rfl
    · exact ⟨_, rfl, _, rfl, by omega, by omega⟩
    · exact ⟨_, rfl, _, rfl, by omega, by omega⟩
    · exact ⟨_, rfl, _, rfl, by decide, by decide⟩
    · exact ⟨_, rfl, _, rfl, by decide, by decide⟩
    · exact ⟨_, rfl, _, rfl, by decide, by decide⟩
  rintro d ⟨st, rfl, s0, s1⟩
  refine go ?_; decreasing_tactic
  refine ⟨⟨by decide, by decide, by decide⟩, ?_⟩
  obtain ⟨tp, htp, t0, t1, t2⟩ : ∃ tp : Int, (if (10 : Int) ^ (18 : Int).toNat < st then (10 : Int) ^ (18 : Int).toNat else st) = tp ∧ 0 ≤ tp ∧ tp ≤ st ∧ tp ≤ 1000000000000000000 := by
    have e : (10 : Int) ^ (18 : Int).toNat = 1000000000000000000 := by decide
    rw [e]
    refine ⟨_, rfl, ?_, ?_, ?_⟩ <;> split <;> omega
  rw [htp]
  refine go ?_; decreasing_trivial
  refine ⟨rfl, _, rfl, by omega, by omega, fun a a0 a1 => ?_⟩
  obtain ⟨a', rfl, ha⟩ := toNat_lt a0 a1
  decreasing_tactic
  refine ⟨rfl, _, rfl, by omega, by omega, fun v v0 v1 => ?_⟩
  decreasing_tactic
  refine ⟨by show 2 ≤ 1000; decide, rfl, 2, rfl, by decide, by decide, fun u u0 u1 => ?_⟩
  decreasing_tactic
  refine bnd_pick (P := fun d => ∃ l : Int, d = .int l ∧ 0 ≤ l ∧ l ≤ st) ?_ ?_
  · rcases lt2 u0 u1 with rfl | rfl
    · exact ⟨_, rfl, _, rfl, by omega, by omega⟩
    · exact ⟨_, rfl, _, rfl, by omega, by omega⟩
  rintro d ⟨bl, rfl, b0, b1⟩
  decreasing_tactic
  refine ⟨by show 2 ≤ 1000; decide, ?_⟩
  refine go ?_; decreasing_trivial
  refine ⟨rfl, _, rfl, by omega, by omega, fun e e0 e1 => ?_⟩
  obtain ⟨e', rfl, he⟩ := toNat_lt e0 e1
  decreasing_tactic
  refine ⟨rfl, _, rfl, by omega, by omega, fun v v0 v1 => ?_⟩
  decreasing_tactic
  refine ⟨by show 3 ≤ 1000; decide, rfl, 3, rfl, by decide, by decide, fun u u0 u1 => ?_⟩
  decreasing_tactic
  refine bnd_pick (P := fun d => ∃ l : Int, d = .int l ∧ 0 ≤ l ∧ l ≤ st) ?_ ?_
  · have hu : u = 0 ∨ u = 1 ∨ u = 2 := by omega
    rcases hu with rfl | rfl | rfl
    · exact ⟨_, rfl, _, rfl, by omega, by omega⟩
    · exact ⟨_, rfl, _, rfl, by omega, by omega⟩
    · exact ⟨_, rfl, _, rfl, by omega, by omega⟩
  rintro d ⟨gl, rfl, g0, g1⟩
  decreasing_tactic
  refine ⟨by show 2 ≤ 1000; decide, ?_⟩
  refine go ?_; decreasing_tactic
  refine ⟨by decide, rfl, 4, rfl, by decide, by decide, fun u u0 u1 => ?_⟩
  decreasing_tactic
  refine bnd_pick (P := fun d => ∃ n : Nat, d = .int (n : Nat) ∧ n ≤ 200) ?_ ?_
  · have hu : u = 0 ∨ u = 1 ∨ u = 2 ∨ u = 3 := by omega
    rcases hu with rfl | rfl | rfl | rfl
    · exact ⟨_, rfl, 3, rfl, by decide⟩
    · exact ⟨_, rfl, 8, rfl, by decide⟩
    · exact ⟨_, rfl, 30, rfl, by decide⟩
    · exact ⟨_, rfl, 200, rfl, by decide⟩
  rintro d ⟨mo, rfl, hmo⟩
  decreasing_tactic
  refine ⟨by show 5 ≤ 1000; decide, ?_⟩
  exact q m ws st (a', bl) (e', gl) mo ok s0 s1 ha b0 b1 he g0 g1 hmo
end
theorem layAll_ways : ∀ ws : List Wy, PyData.canLayAll0 (ws.map wayD) = true
  | [] => rfl
  | w :: ws => by
    show (PyData.canLay0 (wayD w) && PyData.canLayAll0 (ws.map wayD)) = true
    rw [layAll_ways ws]; rfl
theorem depAll_ways : ∀ ws : List Wy, PyData.depthAll (ws.map wayD) ≤ 1
  | [] => Nat.zero_le _
  | w :: ws => by
    show max (PyData.depth (wayD w)) (PyData.depthAll (ws.map wayD)) ≤ 1
    have := depAll_ways ws
    have h : PyData.depth (wayD w) = 1 := rfl
    omega
theorem landD_lay (m : Nat) (ws : List Wy) : (landD m ws).canLay0 = true := by
  show (PyData.canLay0 (.int m) && (PyData.canLayAll0 (ws.map wayD) && true)) = true
  rw [layAll_ways]; rfl
theorem landD_dep (m : Nat) (ws : List Wy) (d : PyData) : min (landD m ws).depth d.depth ≤ 64 := by
  have : (landD m ws).depth ≤ 64 := by
    show max (PyData.depth (.int m)) (max (PyData.depthAll (ws.map wayD) + 1) 0) + 1 ≤ 64
    have := depAll_ways ws
    have h : PyData.depth (.int m) = 0 := rfl
    omega
  omega
theorem rng_cons' {lo : Int} {N k : Nat} {x : PyData} {r : List PyData} (h : x :: r = (rngD lo N).drop k) : x = .int (lo + ((k : Nat) : Int)) ∧ r = (rngD lo N).drop (k + 1) ∧ k < N := by
  have hk : k < (rngD lo N).length := by
    rcases Nat.lt_or_ge k (rngD lo N).length with c | c
    · exact c
    · rw [List.drop_of_length_le c] at h; cases h
  rw [List.drop_eq_getElem_cons hk] at h
  injection h with h1 h2
  obtain ⟨hk', e⟩ := rngD_get (List.getElem?_eq_getElem hk)
  exact ⟨by rw [h1, e], h2, hk'⟩
theorem rng_nil' {lo : Int} {N k : Nat} (h : [] = (rngD lo N).drop k) : N ≤ k := by
  have := congrArg List.length h
  unfold rngD at this
  simp at this
  omega
theorem rng0 (n : Nat) : rngD 0 n = (List.range n).map fun k => PyData.int ((k : Nat) : Int) := by
  unfold rngD
  congr 1
  funext i
  rw [Int.zero_add]
def LayN (n : Nat) (d : PyData) : Prop := d.canLay0 = true ∧ d.depth ≤ n
theorem LayN.all {n : Nat} : ∀ {ds : List PyData}, (∀ d ∈ ds, LayN n d) → PyData.canLayAll0 ds = true ∧ PyData.depthAll ds ≤ n
  | [], _ => ⟨rfl, Nat.zero_le _⟩
  | d :: ds, h => by
    obtain ⟨a, b⟩ := LayN.all fun x hx => h x (List.mem_cons_of_mem _ hx)
    obtain ⟨a1, b1⟩ := h d List.mem_cons_self
    constructor
    · show (PyData.canLay0 d && PyData.canLayAll0 ds) = true
      rw [a, a1]; rfl
    · show max (PyData.depth d) (PyData.depthAll ds) ≤ n
      omega
theorem LayN.lst {n : Nat} {ds : List PyData} (h : ∀ d ∈ ds, LayN n d) : LayN (n + 1) (.list ds) := by
  obtain ⟨a, b⟩ := LayN.all h
  refine ⟨by rw [PyData.canLay0]; exact a, ?_⟩
  show PyData.depthAll ds + 1 ≤ n + 1
  omega
theorem LayN.tup {n : Nat} {ds : List PyData} (h : ∀ d ∈ ds, LayN n d) : LayN (n + 1) (.tuple ds) := by
  obtain ⟨a, b⟩ := LayN.all h
  refine ⟨by rw [PyData.canLay0]; exact a, ?_⟩
  show PyData.depthAll ds + 1 ≤ n + 1
  omega
theorem LayN.mono {n k : Nat} {d : PyData} (h : LayN n d) (l : n ≤ k) : LayN k d := ⟨h.1, Nat.le_trans h.2 l⟩
theorem LayN.int {n : Nat} (i : Int) : LayN n (.int i) := ⟨rfl, Nat.zero_le _⟩
theorem LayN.str {n : Nat} {i : Str} (h : (PyData.str i).canLay0 = true) : LayN n (.str i) := ⟨h, Nat.zero_le _⟩
theorem LayN.non {n : Nat} : LayN n .none := ⟨rfl, Nat.zero_le _⟩
theorem LayN.bl {n : Nat} (b : Bool) : LayN n (.bool b) := ⟨rfl, Nat.zero_le _⟩
theorem LayN.o {n : Nat} (o : Option Int) : LayN n (oD o) := by cases o <;> exact ⟨rfl, Nat.zero_le _⟩
theorem LayN.tab (t : Tb) : LayN 1 (.list (tabL t)) := LayN.lst fun d hd => by
  unfold tabL at hd
  obtain ⟨o, _, rfl⟩ := List.mem_map.mp hd
  exact .o o
theorem LayN.way (w : Wy) : LayN 1 (wayD w) := LayN.tup fun d hd => by
  rcases List.mem_cons.mp hd with rfl | hd
  · exact .int _
  rcases List.mem_cons.mp hd with rfl | hd
  · exact .int _
  rw [List.mem_singleton.mp hd]; exact .int _
theorem LayN.land (m : Nat) (ws : List Wy) : LayN 3 (landD m ws) := LayN.tup fun d hd => by
  rcases List.mem_cons.mp hd with rfl | hd
  · exact .int _
  rw [List.mem_singleton.mp hd]
  exact LayN.lst fun d hd => by
    obtain ⟨w, _, rfl⟩ := List.mem_map.mp hd
    exact .way w
theorem LayN.two {n : Nat} {a b : PyData} (ha : LayN n a) (hb : LayN n b) : ∀ d ∈ [a, b], LayN n d := fun d hd => by
  rcases List.mem_cons.mp hd with rfl | hd
  · exact ha
  rw [List.mem_singleton.mp hd]; exact hb
theorem LayN.three {n : Nat} {a b c : PyData} (ha : LayN n a) (hb : LayN n b) (hc : LayN n c) : ∀ d ∈ [a, b, c], LayN n d := fun d hd => by
  rcases List.mem_cons.mp hd with rfl | hd
  · exact ha
  exact LayN.two hb hc d hd
theorem LayN.dep {n : Nat} {a : PyData} (h : LayN n a) (l : n ≤ 64) (b : PyData) : min a.depth b.depth ≤ 64 := by have := h.2; omega
theorem LayN.same {n : Nat} {a : PyData} (h : LayN n a) : PyData.eqv a a = true := PySem.SeqAt.eqv_refl _ h.1
theorem LayN.eq {n : Nat} {a : PyData} (h : LayN n a) (l : n ≤ 64) {Q : Bool → Prop} (q : Q true) : a.canLay0 = true ∧ a.canLay0 = true ∧ min a.depth a.depth ≤ 64 ∧ Q (PyData.eqv a a) := ⟨h.1, h.1, h.dep l a, by rw [h.same]; exact q⟩
def celB (S : Int) : PyData → Bool
  | .none => true
  | .int x => decide (0 ≤ x) && decide (x ≤ S)
  | _ => false
def rowB (m : Nat) (S : Int) : PyData → Bool
  | .list ds => (((ds.length : Nat) : Int) == ((m : Nat) : Int)) && ds.all (celB S)
  | _ => false
def rowsB (m : Nat) (S : Int) : PyData → Bool
  | .list ds => ds.all (rowB m S)
  | _ => false
def tbL (ts : List Tb) : List PyData := ts.map fun t => .list (tabL t)
theorem cel_o {S : Int} {d : PyData} (h : celB S d = true) : ∃ o : Option Int, d = oD o ∧ ∀ x, o = some x → 0 ≤ x ∧ x ≤ S := by
  unfold celB at h
  split at h
  · exact ⟨none, rfl, fun x e => nomatch e⟩
  · rename_i x
    rw [Bool.and_eq_true] at h
    exact ⟨some x, rfl, fun y e => by cases e; exact ⟨of_decide_eq_true h.1, of_decide_eq_true h.2⟩⟩
  · cases h
theorem cels_tab {S : Int} : ∀ {ds : List PyData}, ds.all (celB S) = true → ∃ t : Tb, ds = tabL t ∧ ∀ o ∈ t, ∀ x, o = some x → 0 ≤ x ∧ x ≤ S
  | [], _ => ⟨[], rfl, fun o h => nomatch h⟩
  | d :: ds, h => by
    rw [List.all_cons, Bool.and_eq_true] at h
    obtain ⟨o, rfl, ho⟩ := cel_o h.1
    obtain ⟨t, rfl, ht⟩ := cels_tab h.2
    refine ⟨o :: t, rfl, fun p hp => ?_⟩
    rcases List.mem_cons.mp hp with rfl | hp
    · exact ho
    · exact ht p hp
theorem rowD_tab {m : Nat} {S : Int} {d : PyData} (h : rowB m S d = true) : ∃ t, d = .list (tabL t) ∧ TabOk m S t := by
  unfold rowB at h
  split at h
  · rename_i ds
    rw [Bool.and_eq_true] at h
    obtain ⟨t, rfl, ht⟩ := cels_tab h.2
    have hl : (((tabL t).length : Nat) : Int) = ((m : Nat) : Int) := by simpa using h.1
    rw [len_tab] at hl
    refine ⟨t, rfl, by omega, fun p x e => ?_⟩
    unfold gt at e
    cases q : t[p]? with
    | none => rw [q] at e; cases e
    | some o =>
      rw [q] at e
      exact ht o (List.mem_of_getElem? q) x e
  · cases h
theorem tab_row {m : Nat} {S : Int} {t : Tb} (h : TabOk m S t) : rowB m S (.list (tabL t)) = true := by
  unfold rowB
  rw [Bool.and_eq_true]
  refine ⟨by rw [len_tab, h.len]; simp, List.all_eq_true.mpr fun d hd => ?_⟩
  unfold tabL at hd
  obtain ⟨o, ho, rfl⟩ := List.mem_map.mp hd
  cases o with
  | none => rfl
  | some x =>
    obtain ⟨p, hp, e⟩ := List.mem_iff_getElem.mp ho
    have b := h.bd p x (by unfold gt; rw [List.getElem?_eq_getElem hp, e]; rfl)
    show (decide (0 ≤ x) && decide (x ≤ S)) = true
    rw [decide_eq_true b.1, decide_eq_true b.2]; rfl
theorem rows_tabs {m : Nat} {S : Int} : ∀ {ds : List PyData}, ds.all (rowB m S) = true → ∃ ts, ds = tbL ts ∧ ∀ t ∈ ts, TabOk m S t
  | [], _ => ⟨[], rfl, fun o h => nomatch h⟩
  | d :: ds, h => by
    rw [List.all_cons, Bool.and_eq_true] at h
    obtain ⟨t, rfl, ht⟩ := rowD_tab h.1
    obtain ⟨ts, rfl, hts⟩ := rows_tabs h.2
    refine ⟨t :: ts, rfl, fun p hp => ?_⟩
    rcases List.mem_cons.mp hp with rfl | hp
    · exact ht
    · exact hts p hp
def okAt (ws : List Wy) (S : Int) (b0 : Tb) (g : Sp2) (prev : Option Tb) (t : Tb) : Prop := (match prev with
  | none => leT b0 t
  | some u => ∀ w ∈ ws, leO (behF S u w) (gt t w.2.1)) ∧ enF t g = false
def ShP (m : Nat) (ws : List Wy) (S : Int) (b0 : Tb) (g : Sp2) : Option Tb → List PyData → Prop
  | _, [] => True
  | prev, d :: r => ∃ t, d = .list (tabL t) ∧ TabOk m S t ∧ okAt ws S b0 g prev t ∧ ShP m ws S b0 g (some t) r
open Classical in
noncomputable def shB (m : Nat) (ws : List Wy) (S : Int) (b0 : Tb) (g : Sp2) (d : PyData) : Bool := match d with
  | .list ds => decide (ShP m ws S b0 g none ds)
  | _ => false
theorem tabL_inj {t u : Tb} (h : tabL t = tabL u) : t = u := by
  unfold tabL at h
  refine (List.map_inj_right fun a b e => ?_).mp h
  cases a <;> cases b <;> cases e <;> rfl
theorem ShP.rows {m : Nat} {ws : List Wy} {S : Int} {b0 : Tb} {g : Sp2} : ∀ {prev : Option Tb} {ds : List PyData}, ShP m ws S b0 g prev ds → ds.all (rowB m S) = true
  | _, [], _ => rfl
  | prev, d :: r, h => by
    obtain ⟨t, rfl, ht, _, h2⟩ := h
    rw [List.all_cons, tab_row ht, h2.rows]; rfl
theorem shP_iff {m : Nat} {ws : List Wy} {S : Int} {b0 : Tb} {g : Sp2} : ∀ {prev : Option Tb} {ts : List Tb}, (∀ t ∈ ts, TabOk m S t) → (ShP m ws S b0 g prev (tbL ts) ↔ (∀ t, ts.head? = some t → (match prev with
  | none => leT b0 t
  | some u => ∀ w ∈ ws, leO (behF S u w) (gt t w.2.1))) ∧ (∀ t ∈ ts, enF t g = false) ∧ ∀ q ∈ ts.zip ts.tail, ∀ w ∈ ws, leO (behF S q.1 w) (gt q.2 w.2.1))
  | prev, [], _ => ⟨fun _ => ⟨fun t e => (nomatch e), fun t h => (nomatch h), fun q h => (nomatch h)⟩, fun _ => trivial⟩
  | prev, t :: ts, hT => by
    have ih := shP_iff (m := m) (ws := ws) (S := S) (b0 := b0) (g := g) (prev := some t) (ts := ts) fun u hu => hT u (List.mem_cons_of_mem _ hu)
    constructor
    · rintro ⟨t', e, ht, ok, h2⟩
      have e := tabL_inj (PyData.list.inj e)
      subst e
      obtain ⟨a, b, c⟩ := ih.mp h2
      refine ⟨fun u hu => ?_, fun u hu => ?_, fun q hq => ?_⟩
      · cases hu; exact ok.1
      · rcases List.mem_cons.mp hu with rfl | hu
        · exact ok.2
        · exact b u hu
      · cases ts with
        | nil => cases hq
        | cons u us =>
          rcases List.mem_cons.mp (show q ∈ (t, u) :: (u :: us).zip us from hq) with rfl | hq
          · exact a u rfl
          · exact c q hq
    · rintro ⟨a, b, c⟩
      refine ⟨t, rfl, hT t List.mem_cons_self, ⟨a t rfl, b t List.mem_cons_self⟩, ih.mpr ⟨fun u hu => ?_, fun u hu => b u (List.mem_cons_of_mem _ hu), fun q hq => ?_⟩⟩
      · cases ts with
        | nil => cases hu
        | cons v vs =>
          have hu : v = u := Option.some.inj hu
          subst hu
          exact c (t, v) (show (t, v) ∈ (t, v) :: (v :: vs).zip vs from List.mem_cons_self)
      · cases ts with
        | nil => cases hq
        | cons u us => exact c q (show q ∈ (t, u) :: (u :: us).zip us from List.mem_cons_of_mem _ hq)
structure FurR (m : Nat) (ws : List Wy) (S : Int) (t : Tb) (dn : List Wy) (u : Tb) : Prop where
  tab : TabOk m S u
  up : ∀ w ∈ dn, leO (behF S t w) (gt u w.2.1)
  le : ∀ L : Tb, (∀ w ∈ dn, leO (behF S t w) (gt L w.2.1)) → leT u L
theorem furR_nil {m : Nat} {ws : List Wy} {S : Int} {t : Tb} : FurR m ws S t [] (List.replicate m none) :=
  ⟨⟨List.length_replicate, fun p x e => by rw [gt_rep] at e; cases e⟩, fun w h => (nomatch h), fun L _ p => by rw [gt_rep]; exact leO_none⟩
theorem FurR.keep {m : Nat} {ws : List Wy} {S : Int} {t u : Tb} {dn : List Wy} {w : Wy} (h : FurR m ws S t dn u) (hw : leO (behF S t w) (gt u w.2.1)) : FurR m ws S t (dn ++ [w]) u :=
  ⟨h.tab, fun v hv => by
    rcases List.mem_append.mp hv with z | z
    · exact h.up v z
    · rw [List.mem_singleton.mp z]; exact hw, fun L hL => h.le L fun v hv => hL v (List.mem_append_left _ hv)⟩
theorem FurR.put {m : Nat} {ws : List Wy} {S : Int} {t u : Tb} {dn : List Wy} {w : Wy} {y : Int} (h : FurR m ws S t dn u) (h0 : 0 ≤ S) (hm : w.2.1 < m) (e : behF S t w = some y) (hx : ∀ x, gt u w.2.1 = some x → x < y) : FurR m ws S t (dn ++ [w]) (u.set w.2.1 (some y)) := by
  have hl : w.2.1 < u.length := by rw [h.tab.len]; exact hm
  have bd := beh_bd h0 e
  refine ⟨⟨by rw [List.length_set]; exact h.tab.len, fun p x ep => ?_⟩, fun v hv => ?_, fun L hL p => ?_⟩
  · rw [gt_set hl] at ep
    split at ep
    · cases ep; exact bd
    · exact h.tab.bd p x ep
  · rw [gt_set hl]
    rcases List.mem_append.mp hv with z | z
    · have := h.up v z
      split
      · rename_i c
        cases q : gt u w.2.1 with
        | none =>
          rw [← c, q] at this
          cases b : behF S t v with
          | none => exact leO_none
          | some l => rw [b] at this; exact absurd this leO_sn
        | some x =>
          rw [← c, q] at this
          exact leO_trans this (leO_some.mpr (by have := hx x q; omega))
      · exact this
    · rw [List.mem_singleton.mp z, if_pos rfl, e]; exact leO_refl _
  · rw [gt_set hl]
    split
    · rename_i c
      subst c
      rw [← e]
      exact hL w (List.mem_append_right _ List.mem_cons_self)
    · exact h.le L (fun v hv => hL v (List.mem_append_left _ hv)) p
theorem FurR.iff {m : Nat} {ws : List Wy} {S : Int} {t u r : Tb} (h : FurR m ws S t ws u) : leT u r ↔ ∀ w ∈ ws, leO (behF S t w) (gt r w.2.1) := ⟨fun z w hw => leO_trans (h.up w hw) (z _), fun z => h.le r z⟩
def ThgR (d : PyData) : Prop := LayN 3 d ∧ ∀ ds, d = .list ds → ds.length ≤ 400
def RwsT (d : PyData) : Prop := ∃ ds, d = .list ds ∧ ds.length ≤ 400 ∧ ∀ r ∈ ds, ThgR r
theorem thg_tab {m : Nat} {S : Int} {t : Tb} (h : TabOk m S t) (hm : m ≤ 12) : ThgR (.list (tabL t)) := ⟨(LayN.tab t).mono (by decide), fun ds e => by cases e; rw [len_tab, h.len]; omega⟩
theorem rws_tbs {m : Nat} {S : Int} {ts : List Tb} (h : ∀ t ∈ ts, TabOk m S t) (hm : m ≤ 12) (hl : ts.length ≤ 400) : RwsT (.list (tbL ts)) := ⟨_, rfl, by unfold tbL; rw [List.length_map]; exact hl, fun r hr => by
  unfold tbL at hr
  obtain ⟨t, ht, rfl⟩ := List.mem_map.mp hr
  exact thg_tab (h t ht) hm⟩
def spLvlB : DSp := fun ds Q => ∃ (S : Int) (d : PyData), ds = [.int S, d] ∧ d ≠ .none ∧ Q (.bool (celB S d))
def spTabB : DSp := fun ds Q => ∃ (m : Nat) (S : Int) (d : PyData), ds = [.int (m : Nat), .int S, d] ∧ ThgR d ∧ Q (.bool (rowB m S d))
def spTabC : DSp := fun ds Q => ∃ (m : Nat) (S : Int) (d : PyData), ds = [d, .int (m : Nat), .int S] ∧ ThgR d ∧ Q (.bool (rowB m S d))
def spTabsB : DSp := fun ds Q => ∃ (m : Nat) (S : Int) (d : PyData), ds = [.int (m : Nat), .int S, d] ∧ (RwsT d ∨ ∀ ds, d ≠ .list ds) ∧ Q (.bool (rowsB m S d))
def spCovB : DSp := fun ds Q => ∃ (t b : Tb), ds = [.list (tabL t), .list (tabL b)] ∧ t.length = b.length ∧ t.length ≤ 900 ∧ Q (.bool (covF t b))
def spWithinB : DSp := fun ds Q => ∃ (m : Nat) (ws : List Wy) (st : Int) (t l : Tb), ds = [landD m ws, .int st, .list (tabL t), .list (tabL l)] ∧ LandOk m ws ∧ t.length = m ∧ l.length = m ∧ Q (.bool (witF ws st t l))
def spShowB : DSp := fun ds Q => ∃ (m : Nat) (ws : List Wy) (S : Int) (b g : Sp2) (d : PyData), ds = [landD m ws, .int S, spotD b, spotD g, d] ∧ LandOk m ws ∧ 0 ≤ S ∧ b.1 < m ∧ g.1 < m ∧ (RwsT d ∨ ∀ ds, d ≠ .list ds) ∧ Q (.bool (shB m ws S (baseF m b) g d))
theorem bools_map {α : Type} (f : α → Bool) : ∀ xs : List α, boolsD (xs.map fun x => PyData.bool (f x)) = some (xs.map f)
  | [] => rfl
  | x :: xs => by
    show (boolsD (xs.map fun x => PyData.bool (f x))).map (f x :: ·) = _
    rw [bools_map f xs]; rfl
theorem any_map {α : Type} (f : α → Bool) : ∀ xs : List α, (xs.map f).any id = xs.any f
  | [] => rfl
  | x :: xs => by
    show (f x || (xs.map f).any id) = (f x || xs.any f)
    rw [any_map f xs]
theorem all_map {α : Type} (f : α → Bool) : ∀ xs : List α, (xs.map f).all id = xs.all f
  | [] => rfl
  | x :: xs => by
    show (f x && (xs.map f).all id) = (f x && xs.all f)
    rw [all_map f xs]
theorem zip_tab (b t : Tb) : zipD (tabL b) (tabL t) = (b.zip t).map fun p => PyData.tuple [oD p.1, oD p.2] := by
  unfold zipD tabL
  rw [List.zip_map, List.map_map]; rfl
theorem cut_tail (xs : List PyData) : cutD xs (some 1) none = xs.tail := by
  cases xs with
  | nil => rfl
  | cons x xs =>
    unfold cutD
    rw [show (1 : Int) = ((1 : Nat) : Int) from rfl, HT.sIx_nat, HT.sIx_none]
    simp
theorem zip_tbs (ts us : List Tb) : zipD (tbL ts) (tbL us) = (ts.zip us).map fun q => PyData.tuple [.list (tabL q.1), .list (tabL q.2)] := by
  unfold zipD tbL
  rw [List.zip_map, List.map_map]; rfl
open Classical in
theorem shB_no {m : Nat} {ws : List Wy} {S : Int} {b0 : Tb} {g : Sp2} {d : PyData} (h : rowsB m S d = false) : shB m ws S b0 g d = false := by
  unfold shB
  split
  · rename_i ds
    refine decide_eq_false fun z => ?_
    rw [show rowsB m S (.list ds) = ds.all (rowB m S) from rfl, z.rows] at h
    cases h
  · rfl
open Classical in
theorem shB_eq {m : Nat} {ws : List Wy} {S : Int} {b0 : Tb} {g : Sp2} {ts : List Tb} (hb : b0.length = m) (h : ∀ t ∈ ts, TabOk m S t) : shB m ws S b0 g (.list (tbL ts)) = ((match ts.head? with | none => true | some t => covF t b0) && (!(ts.any fun t => enF t g) && (ts.zip ts.tail).all fun q => witF ws S q.1 q.2)) := by
  rw [Bool.eq_iff_iff]
  unfold shB
  rw [decide_eq_true_iff, shP_iff h, Bool.and_eq_true, Bool.and_eq_true, Bool.not_eq_true', List.all_eq_true]
  refine and_congr ?_ (and_congr ?_ ?_)
  · cases ts with
    | nil => exact ⟨fun _ => rfl, fun _ t e => nomatch e⟩
    | cons t ts =>
      show (∀ u, some t = some u → leT b0 u) ↔ covF t b0 = true
      rw [cov_iff (by rw [(h t List.mem_cons_self).len, hb])]
      exact ⟨fun z => z t rfl, fun z u e => by cases e; exact z⟩
  · rw [List.any_eq_false]
    exact ⟨fun z t ht => by rw [z t ht]; decide, fun z t ht => by
      have := z t ht
      cases e : enF t g with
      | false => rfl
      | true => exact absurd e this⟩
  · exact ⟨fun z q hq => wit_iff.mpr (z q hq), fun z q hq => wit_iff.mp (z q hq)⟩
section
variable {P : Program} {w : World} {K : PySem.W.Frag} {mg : Str → Option Value} {base : Heap}
theorem ok_behind_way__s (T : Txt K mg) : FnOk P w K mg base CX0 2 T.a_behind_way T.d_behind_way ["store", "table", "way"] (spD [.sh, .sh, .sh] spBehD) := by
  have G_stepped := @ok_stepped P w K mg base T
  have b_stepped := bd_stepped T
  refine fn_d T.F_behind_way sc_behind_way rfl (fun C cdv A outer s H E hr => ⟨_, (@dss_cons _ _ _ _ _ _ (ds_set (ps_set (i := 3) sc_behind_way.nd rfl (Or.inl rfl) (pd_ixv (pv 1) (pd_ixv (pv 2) (pd_gi (pe_glob (v := V.int 0) rfl T.mg_START ⟨_, rfl⟩)) (fun _ _ => rfl)) (fun _ _ => rfl)))) (@dss_cons _ _ _ _ _ _ (ds_if (pdt_cmp op_isN ok_isN (pd_var (pv 3)) pd_non (nomark _))
      (dss_one (ds_ret pd_non))
      dss_nil) (dss_one (ds_ret (pd_call (pe_call G_stepped (hr.mono (by decide)) rfl T.mg_stepped T.kp_stepped b_stepped .nil pass0 (da_v (pd_var (pv 0)) (da_v (pd_var (pv 3)) (da_v (pd_ixv (pv 2) (pd_gi (pe_glob (v := V.int 2) rfl T.mg_CHANGE ⟨_, rfl⟩)) (fun _ _ => rfl)) da_nil se_Subscript) se_Name) se_Name) (he := se_Name) (hpl := (np_cons se_Name (np_cons se_Subscript np_nil))))))))), fun ds Q hl h => ?_⟩)
  obtain ⟨st, t, w, rfl, hw, q⟩ := h
  decreasing_trivial
  rw [tab_at hw]
  unfold behF at q
  cases e : gt t w.1 with
  | none =>
    rw [e] at q
    decreasing_trivial
    exact q
  | some l =>
    rw [e] at q
    decreasing_trivial
    exact ⟨_, _, _, rfl, q⟩
theorem ok_is_level (T : Txt K mg) : FnOk P w K mg base CX0 2 T.a_is_level T.d_is_level ["store", "thing"] (spD [.sh, .sh] spLvlB) := by
  have G_is_whole := @ok_is_whole P w K mg base T
  have b_is_whole := bd_is_whole T
  refine fn_d T.F_is_level sc_is_level rfl (fun C cdv A outer s H E hr => ⟨_, (dss_one (ds_ret (pd_and (pd_call (pe_call G_is_whole (hr.mono (by decide)) rfl T.mg_is_whole T.kp_is_whole b_is_whole .nil pass0 (da_v (pd_var (pv 1)) da_nil se_Name) (he := se_Name) (hpl := np_nil))) (pd_one (pd_chain op_le op_le pd_int (pd_var (pv 1)) (pd_var (pv 0))))))), fun ds Q hl h => ?_⟩)
  obtain ⟨S, d, rfl, hd, q⟩ := h
  decreasing_tactic
  refine ⟨d, rfl, ?_⟩
  cases d with
  | int x =>
    rw [show wholeD (.int x) = true from rfl]
    decreasing_tactic
    rw [show celB S (.int x) = (decide (0 ≤ x) && decide (x ≤ S)) from rfl] at q
    cases e : decide (0 ≤ x) with
    | true =>
      rw [e, Bool.true_and] at q
      exact q
    | false =>
      rw [e] at q
      exact q
  | none => exact absurd rfl hd
  | _ => exact q
theorem ok_is_table (T : Txt K mg) : FnOk P w K mg base CX0 3 T.a_is_table T.d_is_table ["many", "store", "thing"] (spD [.sh, .sh, .sh] spTabB) := by
  have G_is_level := @ok_is_level P w K mg base T
  have b_is_level := bd_is_level T
  refine fn_d T.F_is_table sc_is_table rfl (fun C cdv A outer s H E hr => ⟨_, (@dss_cons _ _ _ _ _ _ (@ds_if _ _ _ _ _ _ _ _ _ (PW.pt (@pwd_or _ _ _ _ _ _ _ _ (pdt_not (pdt_val (pd_isiv ty_list (pe_callB call_isinst2 rfl T.n_isinstance bt_isinstance (pa_cons (pv 2) (pa_cons (pe_bltn (v := V.ty "list") rfl T.n_list bt_list rfl) pa_nil se_Name) se_Name) (he := se_Name) (hpl := (np_cons se_Name np_nil)))))) (pwd_or1 (pdt_cmp (op_neD (units_of hr)) ok_eq (pd_lenv (pe_callB call_len_seq rfl T.n_len bt_len (pa_cons (pv 2) pa_nil se_Name) (he := se_Name) (hpl := np_nil))) (pd_var (pv 0)) (nomark _))))) (dss_one (ds_ret pd_bl)) dss_nil) (@dss_one _ _ _ _ (@ds_ret _ _ _ _ _ (@pd_cb _ _ _ _ _ _ cb_all (@pe_callB _ _ _ _ _ _ _ _ _ (call_all rfl) rfl T.n_all bt_all (@dv_cons _ _ _ _ _ _ (@pd_f _ _ _ _ (@pf_comp _ _ _ _ _ _ _ _ rfl (@pe_comp _ _ _ _ _ _ _ _ _ _ _ _ _ _ _ (CompSc.new (N := ["many", "store", "thing"]) (osc := defScope s_is_table) (by decide +kernel)) rfl (di_var (pv 2)) (fun _ => dts_nil) (fun _ => (pd_or (pd_cmp op_isN ok_isN (pd_var (pv 3)) pd_non (nomark _)) (pd_one (pd_call (pe_call G_is_level (hr.mono (by decide)) rfl T.mg_is_level T.kp_is_level b_is_level .nil pass0 (da_v (pd_var (pv 1)) (da_v (pd_var (pv 3)) da_nil se_Name) se_Name) (he := se_Name) (hpl := (np_cons se_Name np_nil))))))) (by rfl) (by rfl) (by intro _; rfl)))) dv_nil se_ListComp) (by decide) (by decide) se_ListComp np_nil))))), fun ds Q hl h => ?_⟩)
  obtain ⟨m, S, d, rfl, hT, q⟩ := h
  cases d with
  | list ds =>
    have hl2 := hT.2 ds rfl
    decreasing_tactic
    rw [if_neg (by decide)]
    refine ⟨rfl, rfl, min0 _ _, ?_⟩
    rw [eqv_int]
    rw [show rowB m S (.list ds) = ((((ds.length : Nat) : Int) == ((m : Nat) : Int)) && ds.all (celB S)) from rfl] at q
    cases e : (((ds.length : Nat) : Int) == ((m : Nat) : Int)) with
    | false =>
      rw [e] at q
      decreasing_tactic
      exact q
    | true =>
      rw [e, Bool.true_and] at q
      array_mem_dec
      refine ⟨⟨rfl, by omega⟩, ?_⟩
      rw [show ds = ds.map id by simp]
      refine compM (f := fun d => .bool (celB S d)) (fun d hd Q' q' => ?_) ?_
      · cases d with
        | none =>
          decreasing_tactic
          exact q'
        | _ =>
          decreasing_tactic
          exact ⟨S, _, rfl, (fun z => nomatch z), q'⟩
      rw [List.nil_append]
      unfold gBs
      decreasing_tactic
      rw [bools_map]
      decreasing_tactic
      rw [all_map]
      exact q
  | _ =>
    decreasing_tactic
    rw [if_pos (by decide)]
    exact q
theorem ok_are_tables (T : Txt K mg) : FnOk P w K mg base CX0 4 T.a_are_tables T.d_are_tables ["many", "store", "thing"] (spD [.sh, .sh, .sh] spTabsB) := by
  have G_is_table := @ok_is_table P w K mg base T
  have b_is_table := bd_is_table T
  refine fn_d T.F_are_tables sc_are_tables rfl (fun C cdv A outer s H E hr => ⟨_, (@dss_one _ _ _ _ (@ds_ret _ _ _ _ _ (@pd_and _ _ _ _ _ _ _ _ (pd_isiv ty_list (pe_callB call_isinst2 rfl T.n_isinstance bt_isinstance (pa_cons (pv 2) (pa_cons (pe_bltn (v := V.ty "list") rfl T.n_list bt_list rfl) pa_nil se_Name) se_Name) (he := se_Name) (hpl := (np_cons se_Name np_nil)))) (@pd_one _ _ _ _ _ _ (@pd_cb _ _ _ _ _ _ cb_all (@pe_callB _ _ _ _ _ _ _ _ _ (call_all rfl) rfl T.n_all bt_all (@dv_cons _ _ _ _ _ _ (@pd_f _ _ _ _ (@pf_comp _ _ _ _ _ _ _ _ rfl (@pe_comp _ _ _ _ _ _ _ _ _ _ _ _ _ _ _ (CompSc.new (N := ["many", "store", "thing"]) (osc := defScope s_are_tables) (by decide +kernel)) rfl (di_var (pv 2)) (fun _ => dts_nil) (fun _ => (pd_call (pe_call G_is_table (hr.mono (by decide)) rfl T.mg_is_table T.kp_is_table b_is_table .nil pass0 (da_v (pd_var (pv 0)) (da_v (pd_var (pv 1)) (da_v (pd_var (pv 3)) da_nil se_Name) se_Name) se_Name) (he := se_Name) (hpl := (np_cons se_Name (np_cons se_Name np_nil)))))) (by rfl) (by rfl) (by intro _; rfl)))) dv_nil se_ListComp) (by decide) (by decide) se_ListComp np_nil)))))), fun ds Q hl h => ?_⟩)
  obtain ⟨m, S, d, rfl, hT, q⟩ := h
  rcases hT with ⟨ds, rfl, hl2, hr2⟩ | hn
  · array_mem_dec
    rw [if_pos (by decide)]
    refine ⟨⟨rfl, by omega⟩, ?_⟩
    rw [show ds = ds.map id by simp]
    refine compM (f := fun d => .bool (rowB m S d)) (fun d hd Q' q' => ?_) ?_
    · decreasing_tactic
      exact ⟨m, S, d, rfl, hr2 d hd, q'⟩
    rw [List.nil_append]
    unfold gBs
    decreasing_tactic
    rw [bools_map]
    decreasing_tactic
    rw [all_map]
    exact q
  · cases d with
    | list ds => exact absurd rfl (hn ds)
    | _ =>
      decreasing_tactic
      rw [if_neg (by decide)]
      exact q
theorem ok_covers (T : Txt K mg) : FnOk P w K mg base CX0 2 T.a_covers T.d_covers ["table", "base"] (spD [.sh, .sh] spCovB) := by
  have G_is_more := @ok_is_more P w K mg base T
  have b_is_more := bd_is_more T
  refine fn_d T.F_covers sc_covers rfl (fun C cdv A outer s H E hr => ⟨_, (@dss_one _ _ _ _ (@ds_ret _ _ _ _ _ (@pd_not _ _ _ _ _ (@pd_cb _ _ _ _ _ _ cb_any (@pe_callB _ _ _ _ _ _ _ _ _ (call_any rfl) rfl T.n_any bt_any (@dv_cons _ _ _ _ _ _ (@pd_f _ _ _ _ (@pf_compT2 _ _ _ _ _ _ _ (@pe_comp2 _ _ _ _ _ _ _ _ _ _ _ _ _ _ _ _ _ _ (CompSc2.new (N := ["table", "base"]) (osc := defScope s_covers) (by decide +kernel)) rfl (di_zip (pi_zip rfl T.n_zip (pa_cons (pd_var (pv 1)) (pa_cons (pd_var (pv 0)) pa_nil se_Name) se_Name))) (fun _ => dts_nil) (fun _ => (pd_call (pe_call G_is_more (hr.mono (by decide)) rfl T.mg_is_more T.kp_is_more b_is_more .nil pass0 (da_v (pd_var (pv 2)) (da_v (pd_var (pv 3)) da_nil se_Name) se_Name) (he := se_Name) (hpl := (np_cons se_Name np_nil))))) (by rfl) (by rfl) (by intro _; rfl)))) dv_nil se_ListComp) (by decide) (by decide) se_ListComp np_nil))))), fun ds Q hl h => ?_⟩)
  obtain ⟨t, b, rfl, hl2, hm, q⟩ := h
  array_get_dec
  refine ⟨by unfold zipD; rw [List.length_map, List.length_zip, len_tab, len_tab]; omega, ?_⟩
  rw [zip_tab]
  refine compM2 (g1 := fun p : Option Int × Option Int => oD p.1) (g2 := fun p => oD p.2) (f := fun p => .bool (moreF p.1 p.2)) (fun p hp Q' q' => ?_) ?_
  · decreasing_tactic
    exact ⟨p.1, p.2, rfl, q'⟩
  · rw [List.nil_append]
    unfold gBs
    decreasing_tactic
    rw [bools_map]
    decreasing_tactic
    rw [any_map]
    exact q
theorem ok_leads_within (T : Txt K mg) : FnOk P w K mg base CX0 3 T.a_leads_within T.d_leads_within ["land", "store", "table", "lid"] (spD [.sh, .sh, .sh, .sh] spWithinB) := by
  have G_is_more := @ok_is_more P w K mg base T
  have b_is_more := bd_is_more T
  have G_behind_way := @ok_behind_way__s P w K mg base T
  have b_behind_way := bd_behind_way T
  refine fn_d T.F_leads_within sc_leads_within rfl (fun C cdv A outer s H E hr => ⟨_, (@dss_one _ _ _ _ (@ds_ret _ _ _ _ _ (@pd_not _ _ _ _ _ (@pd_cb _ _ _ _ _ _ cb_any (@pe_callB _ _ _ _ _ _ _ _ _ (call_any rfl) rfl T.n_any bt_any (@dv_cons _ _ _ _ _ _ (@pd_f _ _ _ _ (@pf_comp _ _ _ _ _ _ _ _ rfl (@pe_comp _ _ _ _ _ _ _ _ _ _ _ _ _ _ _ (CompSc.new (N := ["land", "store", "table", "lid"]) (osc := defScope s_leads_within) (by decide +kernel)) rfl (di_list (pd_ixv (pv 0) (pd_gi (pe_glob (v := V.int 1) rfl T.mg_WAYS ⟨_, rfl⟩)) (fun _ _ => rfl))) (fun _ => dts_nil) (fun _ => (@pd_call _ _ _ _ _ _ _ (@pe_call _ _ _ _ _ _ _ _ _ _ _ _ _ _ _ _ G_is_more (hr.mono (by decide)) rfl T.mg_is_more T.kp_is_more b_is_more .nil pass0 (@da_v _ _ _ _ _ _ (pd_call (pe_call G_behind_way (hr.mono (by decide)) rfl T.mg_behind_way T.kp_behind_way b_behind_way .nil pass0 (da_v (pd_var (pv 1)) (da_v (pd_var (pv 2)) (da_v (pd_var (pv 4)) da_nil se_Name) se_Name) se_Name) (he := se_Name) (hpl := (np_cons se_Name (np_cons se_Name np_nil))))) (da_v (pd_ixv (pv 3) (pd_ixv (pv 4) (pd_gi (pe_glob (v := V.int 1) rfl T.mg_END ⟨_, rfl⟩)) (fun _ _ => rfl)) (fun _ _ => rfl)) da_nil se_Subscript) se_Call) (by decide) se_Call ((np_cons se_Subscript np_nil))))) (by rfl) (by rfl) (by intro _; rfl)))) dv_nil se_ListComp) (by decide) (by decide) se_ListComp np_nil))))), fun ds Q hl h => ?_⟩)
  obtain ⟨m, ws, st, t, l, rfl, ok, ht, hl2, q⟩ := h
  have few := ok.few
  array_mem_dec
  refine ⟨⟨rfl, by rw [List.length_map]; omega⟩, ?_⟩
  refine compM (f := fun w => .bool (moreF (behF st t w) (gt l w.2.1))) (fun w hw Q' q' => ?_) ?_
  · decreasing_tactic
    refine ⟨st, t, w, rfl, by rw [ht]; exact ok.st w hw, ?_⟩
    unfold wayD
    decreasing_tactic
    rw [tab_at (by rw [hl2]; exact ok.en w hw)]
    decreasing_tactic
    exact ⟨_, _, rfl, q'⟩
  · rw [List.nil_append]
    unfold gBs
    decreasing_tactic
    rw [bools_map]
    decreasing_tactic
    rw [any_map]
    exact q
theorem ok_is_showing (T : Txt K mg) : FnOk P w K mg base CX0 5 T.a_is_showing T.d_is_showing ["land", "store", "begin", "goal", "rows"] (spD [.sh, .sh, .sh, .sh, .sh] spShowB) := by
  have G_are_tables := @ok_are_tables P w K mg base T
  have b_are_tables := bd_are_tables T
  have G_covers := @ok_covers P w K mg base T
  have b_covers := bd_covers T
  have G_base_at := @ok_base_at P w K mg base T
  have b_base_at := bd_base_at T
  have G_has_enough := @ok_has_enough P w K mg base T
  have b_has_enough := bd_has_enough T
  have G_leads_within := @ok_leads_within P w K mg base T
  have b_leads_within := bd_leads_within T
  refine fn_d T.F_is_showing sc_is_showing rfl (fun C cdv A outer s H E hr => ⟨_, (@dss_consG _ _ _ _ _ _ (@ds_mid _ _ _ _ (@ds_if _ _ _ _ _ _ _ _ _ (pdt_not (pdt_val (pd_call (pe_call G_are_tables (hr.mono (by decide)) rfl T.mg_are_tables T.kp_are_tables b_are_tables .nil pass0 (da_v (pd_ixv (pv 0) (pd_gi (pe_glob (v := V.int 0) rfl T.mg_MANY ⟨_, rfl⟩)) (fun _ _ => rfl)) (da_v (pd_var (pv 1)) (da_v (pd_var (pv 4)) da_nil se_Name) se_Name) se_Subscript) (he := se_Subscript) (hpl := (np_cons se_Name (np_cons se_Name np_nil))))))) (dss_one (ds_ret pd_bl)) dss_nil)) (@dss_consG _ _ _ _ _ _ (@ds_mid _ _ _ _ (@ds_if _ _ _ _ _ _ _ _ _ (PW.pt (@pwd_and _ _ _ _ _ _ _ _ (pdt_cmp op_gt ok_gt (pd_lenv (pe_callB call_len_seq rfl T.n_len bt_len (pa_cons (pv 4) pa_nil se_Name) (he := se_Name) (hpl := np_nil))) pd_int (nomark _)) (@pwd_and1 _ _ _ _ _ (@pdt_not _ _ _ _ _ (@pdt_val _ _ _ _ (@pd_call _ _ _ _ _ _ _ (@pe_call _ _ _ _ _ _ _ _ _ _ _ _ _ _ _ _ G_covers (hr.mono (by decide)) rfl T.mg_covers T.kp_covers b_covers .nil pass0 (da_v (pd_ixv (pv 4) pd_int (fun _ _ => rfl)) (da_v (pd_call (pe_call G_base_at (hr.mono (by decide)) rfl T.mg_base_at T.kp_base_at b_base_at .nil pass0 (da_v (pd_ixv (pv 0) (pd_gi (pe_glob (v := V.int 0) rfl T.mg_MANY ⟨_, rfl⟩)) (fun _ _ => rfl)) (da_v (pd_var (pv 2)) da_nil se_Name) se_Subscript) (he := se_Subscript) (hpl := (np_cons se_Name np_nil)))) da_nil se_Call) se_Subscript) (by decide) se_Subscript ((np_cons se_Call np_nil)))) (by intro _; rfl)))))) (dss_one (ds_ret pd_bl)) dss_nil)) (@dss_consG _ _ _ _ _ _ (@ds_mid _ _ _ _ (@ds_if _ _ _ _ _ _ _ _ _ (@pdt_val _ _ _ _ (@pd_cb _ _ _ _ _ _ cb_any (@pe_callB _ _ _ _ _ _ _ _ _ (call_any rfl) rfl T.n_any bt_any (@dv_cons _ _ _ _ _ _ (@pd_f _ _ _ _ (@pf_comp _ _ _ _ _ _ _ _ rfl (pe_comp (CompSc.new (N := ["land", "store", "begin", "goal", "rows"]) (osc := defScope s_is_showing) (by decide +kernel)) rfl (di_var (pv 4)) (fun _ => dts_nil) (fun _ => (pd_call (pe_call G_has_enough (hr.mono (by decide)) rfl T.mg_has_enough T.kp_has_enough b_has_enough .nil pass0 (da_v (pd_var (pv 5)) (da_v (pd_var (pv 3)) da_nil se_Name) se_Name) (he := se_Name) (hpl := (np_cons se_Name np_nil)))))))) dv_nil se_ListComp) (by decide) (by decide) se_ListComp np_nil)) (by intro _; rfl)) (dss_one (ds_ret pd_bl)) dss_nil)) (@dss_one _ _ _ _ (@ds_ret _ _ _ _ _ (@pd_cb _ _ _ _ _ _ cb_all (@pe_callB _ _ _ _ _ _ _ _ _ (call_all rfl) rfl T.n_all bt_all (@dv_cons _ _ _ _ _ _ (@pd_f _ _ _ _ (@pf_compT2 _ _ _ _ _ _ _ (@pe_comp2 _ _ _ _ _ _ _ _ _ _ _ _ _ _ _ _ _ _ (CompSc2.new (N := ["land", "store", "begin", "goal", "rows"]) (osc := defScope s_is_showing) (by decide +kernel)) rfl (di_zip (pi_zip rfl T.n_zip (pa_cons (pd_var (pv 4)) (pa_cons (pd_f (pf_slv (pv 4) (do_s pd_int) do_n)) pa_nil se_Subscript) se_Name))) (fun _ => dts_nil) (fun _ => (pd_call (pe_call G_leads_within (hr.mono (by decide)) rfl T.mg_leads_within T.kp_leads_within b_leads_within .nil pass0 (da_v (pd_var (pv 0)) (da_v (pd_var (pv 1)) (da_v (pd_var (pv 5)) (da_v (pd_var (pv 6)) da_nil se_Name) se_Name) se_Name) se_Name) (he := se_Name) (hpl := (np_cons se_Name (np_cons se_Name (np_cons se_Name np_nil))))))) (by rfl) (by rfl) (by intro _; rfl)))) dv_nil se_ListComp) (by decide) (by decide) se_ListComp np_nil))))))), fun ds Q hl h => ?_⟩)
  obtain ⟨m, ws, S, b, g, d, rfl, ok, h0, hb, hg, hT, q⟩ := h
  have m1 := ok.m1
  have m2 := ok.m2
  (try unfold dSeqG); (try unfold dMid)
  refine ⟨fun ρ' => ρ' = [Sl.sh (landD m ws), Sl.sh (.int S), Sl.sh (spotD b), Sl.sh (spotD g), Sl.sh d] ∧ rowsB m S d = true, ?_, ?_⟩
  · decreasing_trivial
    refine ⟨m, S, d, rfl, hT, ?_⟩
    cases eR : rowsB m S d with
    | false =>
      rw [shB_no eR] at q
      decreasing_tactic
      exact q
    | true =>
      decreasing_tactic
      rw [if_neg (by decide)]
      exact ⟨rfl, rfl⟩
  rintro ρ ⟨rfl, eR⟩
  obtain ⟨ds, rfl, hl2, hr2⟩ : RwsT d := by
    rcases hT with h | hn
    · exact h
    · cases d with
      | list ds => exact absurd rfl (hn ds)
      | _ => cases eR
  obtain ⟨ts, rfl, hts⟩ := rows_tabs (show ds.all (rowB m S) = true from eR)
  rw [shB_eq (base_len (m := m) (b := b)) hts] at q
  have tl : ts.length ≤ 400 := by unfold tbL at hl2; rw [List.length_map] at hl2; exact hl2
  try dsimp only
  refine go ?_
  (try unfold dSeqG); (try unfold dMid)
  refine ⟨fun ρ' => ρ' = [Sl.sh (landD m ws), Sl.sh (.int S), Sl.sh (spotD b), Sl.sh (spotD g), Sl.sh (.list (tbL ts))] ∧ (match ts.head? with | none => true | some t => covF t (baseF m b)) = true, ?_, ?_⟩
  · cases ts with
    | nil =>
      decreasing_trivial
      exact ⟨rfl, rfl⟩
    | cons t ts =>
      have ht := hts t List.mem_cons_self
      rw [show tbL (t :: ts) = .list (tabL t) :: tbL ts from rfl]
      decreasing_trivial
      rw [decide_eq_true (by omega)]
      decreasing_trivial
      rw [show atI (PyData.list (tabL t) :: tbL ts) 0 = some (.list (tabL t)) from atI_nat (j := 0) rfl]
      decreasing_tactic
      refine ⟨m, b, rfl, hb, by omega, t, baseF m b, rfl, by rw [ht.len, base_len], by rw [ht.len]; omega, ?_⟩
      have q : Q (.bool (covF t (baseF m b) && _)) := q
      cases e : covF t (baseF m b) with
      | false =>
        rw [e] at q
        decreasing_tactic
        exact q
      | true =>
        decreasing_tactic
        rw [if_neg (by decide)]
        exact ⟨rfl, e⟩
  rintro ρ ⟨rfl, eC⟩
  rw [eC, Bool.true_and] at q
  try dsimp only
  refine go ?_
  (try unfold dSeqG); (try unfold dMid)
  refine ⟨fun ρ' => ρ' = [Sl.sh (landD m ws), Sl.sh (.int S), Sl.sh (spotD b), Sl.sh (spotD g), Sl.sh (.list (tbL ts))] ∧ (ts.any fun t => enF t g) = false, ?_, ?_⟩
  · array_get_dec
    refine ⟨⟨rfl, by unfold tbL; rw [List.length_map]; omega⟩, ?_⟩
    unfold tbL
    refine compM (f := fun t => .bool (enF t g)) (fun t ht Q' q' => ?_) ?_
    · decreasing_tactic
      exact ⟨t, g, rfl, by rw [(hts t ht).len]; exact hg, q'⟩
    rw [List.nil_append]
    unfold gBs
    decreasing_tactic
    rw [bools_map]
    decreasing_tactic
    rw [any_map]
    cases e : (ts.any fun t => enF t g) with
    | true =>
      rw [e] at q
      exact q
    | false => exact ⟨rfl, rfl⟩
  rintro ρ ⟨rfl, eA⟩
  rw [eA, Bool.not_false, Bool.true_and] at q
  try dsimp only
  refine go ?_
  array_get_dec
  rw [cut_tail, show (tbL ts).tail = tbL ts.tail by cases ts <;> rfl, zip_tbs]
  have tt : ts.tail.length ≤ 400 := by rw [List.length_tail]; omega
  refine ⟨by rw [List.length_map, List.length_zip]; omega, ?_⟩
  refine compM2 (g1 := fun q : Tb × Tb => .list (tabL q.1)) (g2 := fun q => .list (tabL q.2)) (f := fun q => .bool (witF ws S q.1 q.2)) (fun p hp Q' q' => ?_) ?_
  · obtain ⟨p1, p2⟩ := List.of_mem_zip hp
    decreasing_tactic
    exact ⟨m, ws, S, p.1, p.2, rfl, ok, (hts _ p1).len, (hts _ (List.mem_of_mem_tail p2)).len, q'⟩
  rw [List.nil_append]
  unfold gBs
  decreasing_tactic
  rw [bools_map]
  decreasing_tactic
  rw [all_map]
  exact q
end
def spFur : DSp := fun ds Q => ∃ (m : Nat) (ws : List Wy) (S : Int) (t : Tb), ds = [landD m ws, .int S, .list (tabL t)] ∧ LandOk m ws ∧ 0 ≤ S ∧ TabOk m S t ∧ ∀ u, FurR m ws S t ws u → Q (.list (tabL u))
section
variable {P : Program} {w : World} {K : PySem.W.Frag} {mg : Str → Option Value} {base : Heap}
theorem ok_law_is_whole (T : Txt K mg) : FnOk P w K mg base CX0 1 T.a_law_is_whole T.d_law_is_whole ["_law_thing"] (spD [.sh] spWholeD) := by
  refine fn_d T.F_law_is_whole sc_law_is_whole rfl (fun C cdv A outer s H E hr => ⟨_, (@dss_one _ _ _ _ (@ds_ret _ _ _ _ _ (@pd_and _ _ _ _ _ _ _ _ (pd_isiv ty_int (pe_callB call_isinst2 rfl T.n_isinstance bt_isinstance (pa_cons (pv 0) (pa_cons (pe_bltn (v := V.ty "int") rfl T.n_int bt_int rfl) pa_nil se_Name) se_Name) (he := se_Name) (hpl := (np_cons se_Name np_nil)))) (pd_one (pd_not (pd_isiv ty_bool (pe_callB call_isinst2 rfl T.n_isinstance bt_isinstance (pa_cons (pv 0) (pa_cons (pe_bltn (v := V.ty "bool") rfl T.n_bool bt_bool rfl) pa_nil se_Name) se_Name) (he := se_Name) (hpl := (np_cons se_Name np_nil))))))))), fun ds Q hl h => ?_⟩)
  obtain ⟨d, rfl, q⟩ := h
  decreasing_tactic
  unfold wholeD at q
  cases d <;> exact q
theorem ok_law_is_table (T : Txt K mg) : FnOk P w K mg base CX0 2 T.a_law_is_table T.d_law_is_table ["_law_thing", "_law_many", "_law_store"] (spD [.sh, .sh, .sh] spTabC) := by
  have G_law_is_whole := @ok_law_is_whole P w K mg base T
  have b_law_is_whole := bd_law_is_whole T
  refine fn_d T.F_law_is_table sc_law_is_table rfl (fun C cdv A outer s H E hr => ⟨_, (@dss_cons _ _ _ _ _ _ (@ds_if _ _ _ _ _ _ _ _ _ (PW.pt (@pwd_or _ _ _ _ _ _ _ _ (pdt_not (pdt_val (pd_isiv ty_list (pe_callB call_isinst2 rfl T.n_isinstance bt_isinstance (pa_cons (pv 0) (pa_cons (pe_bltn (v := V.ty "list") rfl T.n_list bt_list rfl) pa_nil se_Name) se_Name) (he := se_Name) (hpl := (np_cons se_Name np_nil)))))) (pwd_or1 (pdt_cmp (op_neD (units_of hr)) ok_eq (pd_lenv (pe_callB call_len_seq rfl T.n_len bt_len (pa_cons (pv 0) pa_nil se_Name) (he := se_Name) (hpl := np_nil))) (pd_var (pv 1)) (nomark _))))) (dss_one (ds_ret pd_bl)) dss_nil) (@dss_one _ _ _ _ (@ds_ret _ _ _ _ _ (@pd_cb _ _ _ _ _ _ cb_all (@pe_callB _ _ _ _ _ _ _ _ _ (call_all rfl) rfl T.n_all bt_all (@dv_cons _ _ _ _ _ _ (@pd_f _ _ _ _ (@pf_comp _ _ _ _ _ _ _ _ rfl (@pe_comp _ _ _ _ _ _ _ _ _ _ _ _ _ _ _ (CompSc.new (N := ["_law_thing", "_law_many", "_law_store"]) (osc := defScope s_law_is_table) (by decide +kernel)) rfl (di_var (pv 0)) (fun _ => dts_nil) (fun _ => (pd_or (pd_cmp op_isN ok_isN (pd_var (pv 3)) pd_non (nomark _)) (pd_one (pd_and (pd_call (pe_call G_law_is_whole (hr.mono (by decide)) rfl T.mg_law_is_whole T.kp_law_is_whole b_law_is_whole .nil pass0 (da_v (pd_var (pv 3)) da_nil se_Name) (he := se_Name) (hpl := np_nil))) (pd_one (pd_chain op_le op_le pd_int (pd_var (pv 3)) (pd_var (pv 2)))))))) (by rfl) (by rfl) (by intro _; rfl)))) dv_nil se_ListComp) (by decide) (by decide) se_ListComp np_nil))))), fun ds Q hl h => ?_⟩)
  obtain ⟨m, S, d, rfl, hT, q⟩ := h
  cases d with
  | list ds =>
    have hl2 := hT.2 ds rfl
    decreasing_tactic
    rw [if_neg (by decide)]
    refine ⟨rfl, rfl, min0 _ _, ?_⟩
    rw [eqv_int]
    rw [show rowB m S (.list ds) = ((((ds.length : Nat) : Int) == ((m : Nat) : Int)) && ds.all (celB S)) from rfl] at q
    cases e : (((ds.length : Nat) : Int) == ((m : Nat) : Int)) with
    | false =>
      rw [e] at q
      decreasing_tactic
      exact q
    | true =>
      rw [e, Bool.true_and] at q
      array_mem_dec
      refine ⟨⟨rfl, by omega⟩, ?_⟩
      rw [show ds = ds.map id by simp]
      refine compM (f := fun d => .bool (celB S d)) (fun d hd Q' q' => ?_) ?_
      · cases d with
        | none =>
          decreasing_tactic
          exact q'
        | int x =>
          decreasing_tactic
          try dsimp only [id]
          refine ⟨_, rfl, ?_⟩
          rw [show wholeD (.int x) = true from rfl]
          decreasing_tactic
          rw [show celB S (.int x) = (decide (0 ≤ x) && decide (x ≤ S)) from rfl] at q'
          cases e : decide (0 ≤ x) with
          | true =>
            rw [e, Bool.true_and] at q'
            exact q'
          | false =>
            rw [e] at q'
            exact q'
        | _ =>
          decreasing_tactic
          refine ⟨_, rfl, ?_⟩
          exact q'
      rw [List.nil_append]
      unfold gBs
      decreasing_tactic
      rw [bools_map]
      decreasing_tactic
      rw [all_map]
      exact q
  | _ =>
    decreasing_tactic
    rw [if_pos (by decide)]
    exact q
theorem ok_one (T : Txt K mg) : FnOk P w K mg base CX0 1 T.a_one T.d_one ["_law_many", "_law_spot"] (spD [.sh, .sh] spBaseD) := by
  refine fn_d T.F_one sc_one rfl (fun C cdv A outer s H E hr => ⟨_, (@dss_cons _ _ _ _ _ _ (ds_ownC rfl (ps_setC (i := 2) sc_one.nd rfl (Or.inl rfl) (CompSc.new (N := ["_law_many", "_law_spot", "_law_table"]) (osc := defScope s_one) (by decide +kernel)) rfl (di_rng1 (pi_range1 rfl T.n_range (dv_cons (pd_var (pv 0)) dv_nil se_Name))) (fun _ => dts_nil) (fun _ => pd_non))) (dss_cons (ds_setI (ps_asg (pd_ixv (pv 1) pd_int (fun _ _ => rfl)) (pg_sub (pv 2) (pd_ixv (pv 1) pd_int (fun _ _ => rfl)) set_list)))
      (dss_one (ds_ret (pd_var (pv 2)))))), fun ds Q hl h => ?_⟩)
  obtain ⟨m, b, rfl, hb, hm, q⟩ := h
  array_mem_dec
  refine ⟨⟨by omega, by omega⟩, ⟨rfl, by unfold rngD; rw [List.length_map, List.length_range]; omega⟩, ?_⟩
  rw [show ((m : Nat) : Int).toNat = m by simp, rng0 m]
  refine compM (f := fun _ => .none) (fun o ho Q' q' => ?_) ?_
  · decreasing_tactic
    exact q'
  rw [List.nil_append, show (List.range m).map (fun _ => PyData.none) = tabL (List.replicate m none) by
    unfold tabL; rw [List.map_const', List.length_range, List.map_replicate]; rfl]
  decreasing_trivial
  rw [ixN_nat (by rw [len_tab, List.length_replicate]; exact hb)]
  decreasing_trivial
  rw [show PyData.int b.2 = oD (some b.2) from rfl, set_tab]
  decreasing_trivial
  exact q
theorem ok_further (T : Txt K mg) : FnOk P w K mg base CX0 2 T.a_further T.d_further ["_law_land_here", "_law_store", "_law_row"] (spD [.sh, .sh, .sh] spFur) := by
  have G_step := @ok_step P w K mg base T
  have b_step := bd_step T
  refine fn_d T.F_further sc_further rfl (fun C cdv A outer s H E hr => ⟨_, (@dss_consG _ _ _ _ _ _ (ds_ownC rfl (ps_setC (i := 3) sc_further.nd rfl (Or.inl rfl) (CompSc.new (N := ["_law_land_here", "_law_store", "_law_row", "_law_told", "_law_start", "_law_end", "_law_change_here", "_law_level"]) (osc := defScope s_further) (by decide +kernel)) rfl (di_rng1 (pi_range1 rfl T.n_range (dv_cons (pd_ixv (pv 0) pd_int (fun _ _ => rfl)) dv_nil se_Subscript))) (fun _ => dts_nil) (fun _ => pd_non))) (@dss_consG _ _ _ _ _ _ (@ds_mid _ _ _ _ (@ds_for _ _ _ _ _ _ (@ps_for _ _ _ _ _ _ _ _ PassesOwn.never rfl (di_list (pd_ixv (pv 0) pd_int (fun _ _ => rfl))) (dg_t3 (pg_tup (n := 3) rfl (pgs_cons (pg_name (i := 4) sc_further.nd rfl (Or.inl rfl)) (pgs_cons (pg_name (i := 5) sc_further.nd rfl (Or.inl rfl)) (pgs_cons (pg_name (i := 6) sc_further.nd rfl (Or.inl rfl)) pgs_nil))))) (@dss_consG _ _ _ _ _ _ (ds_set (ps_set (i := 7) sc_further.nd rfl (Or.inl rfl) (pd_call (pe_call G_step (hr.mono (by decide)) rfl T.mg_step T.kp_step b_step .nil pass0 (da_v (pd_var (pv 1)) (da_v (pd_ixv (pv 2) (pd_var (pv 4)) (fun _ _ => rfl)) (da_v (pd_var (pv 6)) da_nil se_Name) se_Subscript) se_Name) (he := se_Name) (hpl := (np_cons se_Subscript (np_cons se_Name np_nil))))))) (@dss_one _ _ _ _ (@ds_if _ _ _ _ _ _ _ _ _ (PW.pt (pwd_and (pdt_cmp op_notN ok_notN (pd_var (pv 7)) pd_non (nomark _)) (pwd_and1 (PW.pt (pwd_or (pdt_cmp op_isN ok_isN (pd_ixv (pv 3) (pd_var (pv 5)) (fun _ _ => rfl)) pd_non (nomark _)) (pwd_or1 (pdt_cmp op_lt ok_lt (pd_ixv (pv 3) (pd_var (pv 5)) (fun _ _ => rfl)) (pd_var (pv 7)) (nomark _)))))))) (dss_one (ds_setI (ps_asg (pd_var (pv 7)) (pg_sub (pv 3) (pd_var (pv 5)) set_list)))) dss_nil))) (by intro _; rfl)))) (dss_one (ds_ret (pd_var (pv 3)))))), fun ds Q hl h => ?_⟩)
  obtain ⟨m, ws, S, t, rfl, ok, h0, ht, q⟩ := h
  have m2 := ok.m2
  have few := ok.few
  have tl := ht.len
  array_mem_dec
  refine ⟨⟨by omega, by omega⟩, ⟨rfl, by unfold rngD; rw [List.length_map, List.length_range]; omega⟩, ?_⟩
  rw [show ((m : Nat) : Int).toNat = m by simp, rng0 m]
  refine compM (f := fun _ => .none) (fun o ho Q' q' => ?_) ?_
  · decreasing_tactic
    exact q'
  rw [List.nil_append, show (List.range m).map (fun _ => PyData.none) = tabL (List.replicate m none) by
    unfold tabL; rw [List.map_const', List.length_range, List.map_replicate]; rfl]
  refine go ?_
  (try unfold dSeqG); (try unfold dMid)
  refine ⟨fun ρ' => ∃ (u : Tb) (z4 z5 z6 z7 : Sl), ρ' = [Sl.sh (landD m ws), Sl.sh (.int S), Sl.sh (.list (tabL t)), Sl.ow (tabL u), z4, z5, z6, z7] ∧ FurR m ws S t ws u, ?_, ?_⟩
  · array_mem_dec
    refine ⟨fun l ρ => ∃ (dn rs : List Wy) (u : Tb) (z4 z5 z6 z7 : Sl), ws = dn ++ rs ∧ l = rs.map wayD ∧ ρ = [Sl.sh (landD m ws), Sl.sh (.int S), Sl.sh (.list (tabL t)), Sl.ow (tabL u), z4, z5, z6, z7] ∧ FurR m ws S t dn u, ⟨[], ws, _, _, _, _, _, rfl, rfl, rfl, furR_nil⟩, ?_, ?_⟩
    · rintro x l ρ ⟨dn, rs, u, z4, z5, z6, z7, hws, hl2, rfl, F⟩
      cases rs with
      | nil => cases hl2
      | cons v rs =>
        obtain ⟨rfl, rfl⟩ := List.cons.inj hl2
        have hv : v ∈ ws := by rw [hws]; exact List.mem_append_right _ List.mem_cons_self
        have e1 : ws = (dn ++ [v]) ++ rs := by rw [hws, List.append_assoc]; rfl
        have ul := F.tab.len
        have eb : behF S t v = (gt t v.1).bind fun x => stepF S x v.2.2 := by unfold behF; cases gt t v.1 <;> rfl
        sizeOf_list_dec
        decreasing_trivial
        rw [tab_at (by rw [tl]; exact ok.st v hv)]
        decreasing_tactic
        refine ⟨S, gt t v.1, v.2.2, rfl, ?_⟩
        rw [← eb]
        refine go ?_; decreasing_trivial
        cases e : behF S t v with
        | none =>
          decreasing_trivial
          exact ⟨dn ++ [v], rs, u, _, _, _, _, e1, rfl, rfl, F.keep (by rw [e]; exact leO_none)⟩
        | some y =>
          decreasing_trivial
          rw [tab_at (by rw [ul]; exact ok.en v hv)]
          cases e2 : gt u v.2.1 with
          | none =>
            decreasing_trivial
            rw [ixN_nat (by rw [len_tab, ul]; exact ok.en v hv)]
            decreasing_trivial
            rw [show PyData.int y = oD (some y) from rfl, set_tab]
            exact ⟨dn ++ [v], rs, _, _, _, _, _, e1, rfl, rfl, F.put h0 (ok.en v hv) e fun x hx => by rw [e2] at hx; cases hx⟩
          | some x =>
            decreasing_trivial
            rw [if_pos (show (!false) = true from rfl)]
            by_cases c : x < y
            · rw [decide_eq_true c]
              decreasing_trivial
              rw [ixN_nat (by rw [len_tab, ul]; exact ok.en v hv)]
              decreasing_trivial
              rw [show PyData.int y = oD (some y) from rfl, set_tab]
              exact ⟨dn ++ [v], rs, _, _, _, _, _, e1, rfl, rfl, F.put h0 (ok.en v hv) e fun x' hx => by rw [e2] at hx; cases hx; exact c⟩
            · rw [decide_eq_false c]
              decreasing_trivial
              exact ⟨dn ++ [v], rs, u, _, _, _, _, e1, rfl, rfl, F.keep (by rw [e, e2]; exact leO_some.mpr (by omega))⟩
    · rintro ρ ⟨dn, rs, u, z4, z5, z6, z7, hws, hl2, rfl, F⟩
      cases rs with
      | cons v rs => cases hl2
      | nil =>
        rw [List.append_nil] at hws
        subst hws
        exact ⟨u, _, _, _, _, rfl, F⟩
  rintro ρ ⟨u, z4, z5, z6, z7, rfl, F⟩
  try dsimp only
  refine go ?_; decreasing_tactic
  exact q u F
end
theorem fur_row {m : Nat} {ws : List Wy} {S : Int} {t u : Tb} (ok : LandOk m ws) (h : FurR m ws S t ws u) : u = (rowF m ws S t (List.replicate m none)).1 := by
  have I := row_ok (st := S) (t := t) ok (List.length_replicate (n := m) (a := (none : Option Int)))
  refine tab_anti (h.tab.len.trans I.l1.symm) (h.le _ fun w hw => row_top ok List.length_replicate hw) fun p => ?_
  cases e : gt (rowF m ws S t (List.replicate m none)).2 p with
  | none => rw [I.no p e, gt_rep]; exact leO_none
  | some n =>
    obtain ⟨w, hw, e1, e2, _⟩ := I.yes p n e
    rw [e2, ← e1]
    exact h.up w (List.mem_of_getElem? hw)
theorem sk_tab {m : Nat} {ws : List Wy} {S : Int} {b : Sp2} (ok : LandOk m ws) (h0 : 0 ≤ S) (hb : b.1 < m) (b0 : 0 ≤ b.2) (b1 : b.2 ≤ S) : ∀ k, TabOk m S (skF m ws S b k)
  | 0 => ⟨base_len, fun p x e => by
    have e : gt (baseF m b) p = some x := e
    rw [base_gt hb] at e
    split at e
    · cases e; exact ⟨b0, b1⟩
    · cases e⟩
  | k + 1 => row_tab ok h0 ⟨List.length_replicate, fun p x e => by rw [gt_rep] at e; cases e⟩
theorem tabs_len {f : Nat → Tb} {n : Nat} : (tabsL f n).length = n := by unfold tabsL; rw [List.length_map, List.length_range]
theorem tabs_get {f : Nat → Tb} {n k : Nat} (h : k < n) : (tabsL f n)[k]? = some (.list (tabL (f k))) := by
  unfold tabsL
  rw [List.getElem?_map, List.getElem?_range h]; rfl
theorem drop_of {α : Type} {L r : List α} {x : α} {k : Nat} (h : x :: r = L.drop k) : L[k]? = some x ∧ r = L.drop (k + 1) := by
  have h1 : (L.drop k)[0]? = some x := by rw [← h]; rfl
  rw [List.getElem?_drop, Nat.add_zero] at h1
  refine ⟨h1, ?_⟩
  have h2 : (L.drop k).tail = r := by rw [← h]; rfl
  rw [← h2, List.tail_drop]
def spRR : DSp := fun ds Q => ∃ (m : Nat) (ws : List Wy) (S : Int) (b g : Sp2) (n : Nat), ds = [landD m ws, .int S, spotD b, spotD g, .list (tabsL (skF m ws S b) n)] ∧ LandOk m ws ∧ 0 ≤ S ∧ b.1 < m ∧ 0 ≤ b.2 ∧ b.2 ≤ S ∧ g.1 < m ∧ n ≤ 400 ∧ (∀ k, k < n → enF (skF m ws S b k) g = false) ∧ Q (.bool true)
def spWalks : DSp := fun ds Q => ∃ (m : Nat) (ws : List Wy) (st : Int) (b g : Sp2) (ns : List Nat) (l : Int), ds = [landD m ws, .int st, spotD b, spotD g, .list (numL ns)] ∧ (∀ n ∈ ns, n < ws.length) ∧ goN ws st ns b = some (g.1, l) ∧ g.2 ≤ l ∧ Q (.bool true)
section
variable {P : Program} {w : World} {K : PySem.W.Frag} {mg : Str → Option Value} {base : Heap}
theorem ok_enough (T : Txt K mg) : FnOk P w K mg base CX0 1 T.a_enough T.d_enough ["_law_row", "_law_goal"] (spD [.sh, .sh] spEnoughD) := by
  refine fn_d T.F_enough sc_enough rfl (fun C cdv A outer s H E hr => ⟨_, (dss_one (ds_ret (pd_and (pd_cmp op_notN ok_notN (pd_ixv (pv 0) (pd_ixv (pv 1) pd_int (fun _ _ => rfl)) (fun _ _ => rfl)) pd_non (nomark _)) (pd_one (pd_cmp op_ge ok_ge (pd_ixv (pv 0) (pd_ixv (pv 1) pd_int (fun _ _ => rfl)) (fun _ _ => rfl)) (pd_ixv (pv 1) pd_int (fun _ _ => rfl)) (nomark _)))))), fun ds Q hl h => ?_⟩)
  obtain ⟨t, g, rfl, hg, q⟩ := h
  unfold enF at q
  decreasing_trivial
  rw [tab_at hg]
  cases e : gt t g.1 with
  | none =>
    rw [e] at q
    decreasing_trivial
    exact q
  | some l =>
    rw [e] at q
    decreasing_trivial
    (try rw [if_pos (show (!false) = true from rfl)])
    exact q
theorem ok_rows_right (T : Txt K mg) : FnOk P w K mg base CX0 3 T.a_rows_right T.d_rows_right ["_law_land_here", "_law_store", "_law_begin", "_law_goal", "_law_rows"] (spD [.sh, .sh, .sh, .sh, .sh] spRR) := by
  have G_one := @ok_one P w K mg base T
  have b_one := bd_one T
  have G_law_is_table := @ok_law_is_table P w K mg base T
  have b_law_is_table := bd_law_is_table T
  have G_enough := @ok_enough P w K mg base T
  have b_enough := bd_enough T
  have G_further := @ok_further P w K mg base T
  have b_further := bd_further T
  refine fn_d T.F_rows_right sc_rows_right rfl (fun C cdv A outer s H E hr => ⟨_, (@dss_consG _ _ _ _ _ _ (ds_set (ps_set (i := 5) sc_rows_right.nd rfl (Or.inl rfl) (pd_call (pe_call G_one (hr.mono (by decide)) rfl T.mg_one T.kp_one b_one .nil pass0 (da_v (pd_ixv (pv 0) pd_int (fun _ _ => rfl)) (da_v (pd_var (pv 2)) da_nil se_Name) se_Subscript) (he := se_Subscript) (hpl := (np_cons se_Name np_nil)))))) (@dss_consG _ _ _ _ _ _ (@ds_mid _ _ _ _ (@ds_for _ _ _ _ _ _ (@ps_for _ _ _ _ _ _ _ _ PassesOwn.never rfl (di_var (pv 4)) (dg_name (pg_name (i := 6) sc_rows_right.nd rfl (Or.inl rfl))) (@dss_consG _ _ _ _ _ _ (@ds_mid _ _ _ _ (@ds_if _ _ _ _ _ _ _ _ _ (PW.pt (@pwd_or _ _ _ _ _ _ _ _ (pdt_not (pdt_val (pd_call (pe_call G_law_is_table (hr.mono (by decide)) rfl T.mg_law_is_table T.kp_law_is_table b_law_is_table .nil pass0 (da_v (pd_var (pv 6)) (da_v (pd_ixv (pv 0) pd_int (fun _ _ => rfl)) (da_v (pd_var (pv 1)) da_nil se_Name) se_Subscript) se_Name) (he := se_Name) (hpl := (np_cons se_Subscript (np_cons se_Name np_nil))))))) (pwd_or (pdt_cmp (op_neD (units_of hr)) ok_eq (pd_var (pv 6)) (pd_var (pv 5)) (nomark _)) (pwd_or1 (pdt_val (pd_call (pe_call G_enough (hr.mono (by decide)) rfl T.mg_enough T.kp_enough b_enough .nil pass0 (da_v (pd_var (pv 6)) (da_v (pd_var (pv 3)) da_nil se_Name) se_Name) (he := se_Name) (hpl := (np_cons se_Name np_nil))))))))) (dss_one (ds_ret pd_bl)) dss_nil)) (dss_one (ds_set (ps_set (i := 5) sc_rows_right.nd rfl (Or.inl rfl) (pd_call (pe_call G_further (hr.mono (by decide)) rfl T.mg_further T.kp_further b_further .nil pass0 (da_v (pd_var (pv 0)) (da_v (pd_var (pv 1)) (da_v (pd_var (pv 5)) da_nil se_Name) se_Name) se_Name) (he := se_Name) (hpl := (np_cons se_Name (np_cons se_Name np_nil))))))))) (by intro _; rfl)))) (dss_one (ds_ret pd_bl)))), fun ds Q hl h => ?_⟩)
  obtain ⟨m, ws, S, b, g, n, rfl, ok, h0, hb, b0, b1, hg, hn, hno, q⟩ := h
  have m2 := ok.m2
  have m1 := ok.m1
  have T := sk_tab ok h0 hb b0 b1
  decreasing_trivial
  refine ⟨m, b, rfl, hb, by omega, ?_⟩
  refine go (mid_of (fun _ => True) ?_ ?_)
  · refine for_of ?_
    try dsimp only [dIl, dIv, dIt, dRng1, dRng2, dEnum, dIrev, dIL, dEnumL, dForL, dRevL, dILn, dSeq, dSeqG, dSet, dOwn, dOp, dVar, dIfS, dT, dRet, dDrop, dCb, dCons, dNil, dC, dF, dLst, dTup, dNeg, dNot, dAnd, dOr, dAndV, dOrV, dNotV, dBV, dIf, dChain, dIx, dIxV, dLenV, dListV, dList, dSlV, dSl, dCat, dRep, dIsiV, dIsi, dCall, aNil, aV, aS, arsD, arD, isSl, slotD, bnd_some, ixD, lenD, listD, itemsD, gI, gI0, gAdd, gMns, gMul, gMod, gDiv, gPow, gLt, gLe, gGt, gGe, gEq, gIsN, isN, gLen, gMin, gMax, gI2, gAbs, gInt, gAll, gAny, dNext, dLrev, dApp, dSetI, dAsg, gN, gT2, gT3, gT5, gInS, strsD, gMaxP, dPopI, dLrng, dZip, dCompT2, dComp, dCompT3, dIndexV, gIn, gB2, oN, oS, startN, slOf, a1_0, a2_0, a2_1, a3_0, a3_1, a3_2, isiD, tyD, List.tail_cons, List.tail_nil, List.getElem?_cons_zero, List.getElem?_cons_succ, List.set_cons_zero, List.set_cons_succ, List.length_cons, List.length_nil, Option.bind_some, Option.map_some, List.cons_append, List.nil_append, iteTT, iteFF, iteTB, iteFB, iteTI, iteFI, Bool.not_true, Bool.not_false, dLendO, dLendOB, dCallF, arsF, arF, dNewA, dClrA, dForA, dSetL, dLVar, lentD, dIxL, dFlat, flatD, dLenL, dIsiL, dIsNL, dListL, dLendE, dLendB, noBB, dNewT, flatM, dMutA, dMutN, dMutC, aW, dNinD, dCallS, arsS, arS]
    refine forW (fun l ρ => ∃ (k : Nat) (z : Sl), l = (tabsL (skF m ws S b) n).drop k ∧ k ≤ n ∧ ρ = [Sl.sh (landD m ws), Sl.sh (.int S), Sl.sh (spotD b), Sl.sh (spotD g), Sl.sh (.list (tabsL (skF m ws S b) n)), Sl.sh (.list (tabL (skF m ws S b k))), z]) ⟨0, _, rfl, Nat.zero_le _, rfl⟩ ?_ (fun _ _ => trivial)
    rintro x l ρ ⟨k, z, hl2, hk, rfl⟩
    obtain ⟨h3, h4⟩ := drop_of hl2
    have hkn : k < n := by
      have := (List.getElem?_eq_some_iff.mp h3).1
      rw [tabs_len] at this; exact this
    rw [tabs_get hkn] at h3
    cases h3
    sizeOf_list_dec
    refine mid_of (fun ρ' => ρ' = [Sl.sh (landD m ws), Sl.sh (.int S), Sl.sh (spotD b), Sl.sh (spotD g), Sl.sh (.list (tabsL (skF m ws S b) n)), Sl.sh (.list (tabL (skF m ws S b k))), Sl.sh (.list (tabL (skF m ws S b k)))]) ?_ ?_
    · decreasing_trivial
      refine ⟨m, S, _, rfl, thg_tab (T k) m2, ?_⟩
      rw [tab_row (T k)]
      decreasing_tactic
      have L := LayN.tab (skF m ws S b k)
      refine ⟨L.1, L.1, L.dep (by decide) _, ?_⟩
      rw [L.same]
      decreasing_tactic
      refine ⟨_, _, rfl, by rw [(T k).len]; exact hg, ?_⟩
      rw [hno k hkn]
      exact iteF rfl
    rintro ρ rfl
    try dsimp only
    refine go ?_
    decreasing_tactic
    refine ⟨m, ws, S, _, rfl, ok, h0, T k, fun u hu => ?_⟩
    rw [fur_row ok hu]
    exact ⟨k + 1, _, h4, hkn, rfl⟩
  rintro ρ _
  refine go ?_
  decreasing_tactic
  exact q
theorem ok_walks (T : Txt K mg) : FnOk P w K mg base CX0 2 T.a_walks T.d_walks ["_law_land_here", "_law_store", "_law_begin", "_law_goal", "_law_numbers"] (spD [.sh, .sh, .sh, .sh, .sh] spWalks) := by
  have G_law_is_whole := @ok_law_is_whole P w K mg base T
  have b_law_is_whole := bd_law_is_whole T
  have G_step := @ok_step P w K mg base T
  have b_step := bd_step T
  refine fn_d T.F_walks sc_walks rfl (fun C cdv A outer s H E hr => ⟨_, (@dss_consG _ _ _ _ _ _ (ds_asg (ps_asg (pd_var (pv 2)) (dg_t2 (pg_tup (n := 2) rfl (pgs_cons (pg_name (i := 5) sc_walks.nd rfl (Or.inl rfl)) (pgs_cons (pg_name (i := 6) sc_walks.nd rfl (Or.inl rfl)) pgs_nil)))))) (@dss_consG _ _ _ _ _ _ (@ds_mid _ _ _ _ (@ds_for _ _ _ _ _ _ (@ps_for _ _ _ _ _ _ _ _ PassesOwn.never rfl (di_var (pv 4)) (dg_name (pg_name (i := 7) sc_walks.nd rfl (Or.inl rfl))) (@dss_consG _ _ _ _ _ _ (@ds_mid _ _ _ _ (@ds_if _ _ _ _ _ _ _ _ _ (PW.pt (@pwd_or _ _ _ _ _ _ _ _ (pdt_not (pdt_val (pd_call (pe_call G_law_is_whole (hr.mono (by decide)) rfl T.mg_law_is_whole T.kp_law_is_whole b_law_is_whole .nil pass0 (da_v (pd_var (pv 7)) da_nil se_Name) (he := se_Name) (hpl := np_nil))))) (@pwd_or _ _ _ _ _ _ _ _ (pdt_not (pdt_chain op_le op_lt pd_int (pd_var (pv 7)) (pd_cb cb_len (pe_callB call_len_seq rfl T.n_len bt_len (dv_cons (pd_ixv (pv 0) pd_int (fun _ _ => rfl)) dv_nil se_Subscript) (he := se_Subscript) (hpl := np_nil))))) (pwd_or1 (pdt_cmp (op_neD (units_of hr)) ok_eq (pd_ix (pd_ix (pd_ixv (pv 0) pd_int (fun _ _ => rfl)) (pd_var (pv 7)) (fun _ _ => rfl)) pd_int (fun _ _ => rfl)) (pd_var (pv 5)) (nomark _)))))) (dss_one (ds_ret pd_bl)) dss_nil)) (@dss_consG _ _ _ _ _ _ (@ds_set _ _ _ _ _ (@ps_set _ _ 6 _ _ _ _ sc_walks.nd rfl (Or.inl rfl) (pd_call (pe_call G_step (hr.mono (by decide)) rfl T.mg_step T.kp_step b_step .nil pass0 (da_v (pd_var (pv 1)) (da_v (pd_var (pv 6)) (da_v (pd_ix (pd_ix (pd_ixv (pv 0) pd_int (fun _ _ => rfl)) (pd_var (pv 7)) (fun _ _ => rfl)) pd_int (fun _ _ => rfl)) da_nil se_Subscript) se_Name) se_Name) (he := se_Name) (hpl := (np_cons se_Name (np_cons se_Subscript np_nil))))) (by rfl) (by first | exact .inl rfl | exact .inr rfl | assumption))) (dss_consG (ds_set (ps_set (i := 5) sc_walks.nd rfl (Or.inl rfl) (pd_ix (pd_ix (pd_ixv (pv 0) pd_int (fun _ _ => rfl)) (pd_var (pv 7)) (fun _ _ => rfl)) pd_int (fun _ _ => rfl))))
      (dss_one (ds_if (pdt_cmp op_isN ok_isN (pd_var (pv 6)) pd_non (nomark _))
      (dss_one (ds_ret pd_bl))
      dss_nil))))) (by intro _; rfl)))) (dss_one (ds_ret (pd_and (pd_cmp (op_eqD (units_of hr)) ok_eq (pd_var (pv 5)) (pd_ixv (pv 3) pd_int (fun _ _ => rfl)) (nomark _)) (pd_one (pd_cmp op_ge ok_ge (pd_var (pv 6)) (pd_ixv (pv 3) pd_int (fun _ _ => rfl)) (nomark _)))))))), fun ds Q hl h => ?_⟩)
  obtain ⟨m, ws, st, b, g, ns, l, rfl, hn, hgo, hl2, q⟩ := h
  unfold spotD
  decreasing_trivial
  refine go ?_
  refine mid_of (fun ρ' => ∃ z7 : Sl, ρ' = [Sl.sh (landD m ws), Sl.sh (.int st), Sl.sh (spotD b), Sl.sh (spotD g), Sl.sh (.list (numL ns)), Sl.sh (.int (g.1 : Nat)), Sl.sh (.int l), z7]) ?_ ?_
  · refine for_of ?_
    try dsimp only [dIl, dIv, dIt, dRng1, dRng2, dEnum, dIrev, dIL, dEnumL, dForL, dRevL, dILn, dSeq, dSeqG, dSet, dOwn, dOp, dVar, dIfS, dT, dRet, dDrop, dCb, dCons, dNil, dC, dF, dLst, dTup, dNeg, dNot, dAnd, dOr, dAndV, dOrV, dNotV, dBV, dIf, dChain, dIx, dIxV, dLenV, dListV, dList, dSlV, dSl, dCat, dRep, dIsiV, dIsi, dCall, aNil, aV, aS, arsD, arD, isSl, slotD, bnd_some, ixD, lenD, listD, itemsD, gI, gI0, gAdd, gMns, gMul, gMod, gDiv, gPow, gLt, gLe, gGt, gGe, gEq, gIsN, isN, gLen, gMin, gMax, gI2, gAbs, gInt, gAll, gAny, dNext, dLrev, dApp, dSetI, dAsg, gN, gT2, gT3, gT5, gInS, strsD, gMaxP, dPopI, dLrng, dZip, dCompT2, dComp, dCompT3, dIndexV, gIn, gB2, oN, oS, startN, slOf, a1_0, a2_0, a2_1, a3_0, a3_1, a3_2, isiD, tyD, List.tail_cons, List.tail_nil, List.getElem?_cons_zero, List.getElem?_cons_succ, List.set_cons_zero, List.set_cons_succ, List.length_cons, List.length_nil, Option.bind_some, Option.map_some, List.cons_append, List.nil_append, iteTT, iteFF, iteTB, iteFB, iteTI, iteFI, Bool.not_true, Bool.not_false, dLendO, dLendOB, dCallF, arsF, arF, dNewA, dClrA, dForA, dSetL, dLVar, lentD, dIxL, dFlat, flatD, dLenL, dIsiL, dIsNL, dListL, dLendE, dLendB, noBB, dNewT, flatM, dMutA, dMutN, dMutC, aW, dNinD, dCallS, arsS, arS]
    refine forW (fun r ρ => ∃ (R : List Nat) (p : Sp2) (z7 : Sl), r = numL R ∧ (∀ n ∈ R, n < ws.length) ∧ goN ws st R p = some (g.1, l) ∧ ρ = [Sl.sh (landD m ws), Sl.sh (.int st), Sl.sh (spotD b), Sl.sh (spotD g), Sl.sh (.list (numL ns)), Sl.sh (.int (p.1 : Nat)), Sl.sh (.int p.2), z7]) ⟨ns, b, _, rfl, hn, hgo, rfl⟩ ?_ ?_
    · rintro x r ρ ⟨R, p, z7, h1, hR, hg, rfl⟩
      cases R with
      | nil => cases h1
      | cons n R =>
        cases (show x :: r = PyData.int (n : Nat) :: numL R from h1)
        have hnl := hR n List.mem_cons_self
        obtain ⟨v, hv⟩ : ∃ v, ws[n]? = some v := ⟨_, List.getElem?_eq_getElem hnl⟩
        have hg' : (match ws[n]? with
          | none => none
          | some w => if w.1 = p.1 then (stepF st p.2 w.2.2).bind fun l => goN ws st R (w.2.1, l) else none) = some (g.1, l) := hg
        rw [hv] at hg'
        have hg2 : (if v.1 = p.1 then (stepF st p.2 v.2.2).bind fun l => goN ws st R (v.2.1, l) else none) = some (g.1, l) := hg'
        by_cases c : v.1 = p.1
        · rw [if_pos c] at hg2
          cases e : stepF st p.2 v.2.2 with
          | none => rw [e] at hg2; cases hg2
          | some y =>
            rw [e] at hg2
            sizeOf_list_dec
            refine mid_of (fun ρ' => ρ' = [Sl.sh (landD m ws), Sl.sh (.int st), Sl.sh (spotD b), Sl.sh (spotD g), Sl.sh (.list (numL ns)), Sl.sh (.int (p.1 : Nat)), Sl.sh (.int p.2), Sl.sh (.int (n : Nat))]) ?_ ?_
            · decreasing_trivial
              refine ⟨_, rfl, ?_⟩
              rw [show wholeD (.int ((n : Nat) : Int)) = true from rfl]
              decreasing_trivial
              rw [decide_eq_true (show (0 : Int) ≤ ((n : Nat) : Int) by omega)]
              decreasing_trivial
              rw [List.length_map, decide_eq_true (show ((n : Nat) : Int) < ((ws.length : Nat) : Int) by omega)]
              decreasing_trivial
              rw [way_at hv]
              decreasing_trivial
              refine ⟨rfl, rfl, min0 _ _, ?_⟩
              rw [eqv_int, show (((v.1 : Nat) : Int) == ((p.1 : Nat) : Int)) = true by rw [c]; exact beq_self_eq_true _]
              exact iteF rfl
            rintro ρ rfl
            try dsimp only
            refine go ?_
            decreasing_trivial
            rw [way_at hv]
            decreasing_trivial
            refine ⟨st, some p.2, v.2.2, rfl, ?_⟩
            rw [show ((some p.2).bind fun x => stepF st x v.2.2) = some y from e]
            refine go ?_
            decreasing_trivial
            rw [way_at hv]
            decreasing_trivial
            refine go ?_
            decreasing_trivial
            exact ⟨R, (v.2.1, y), _, rfl, fun n hn => hR n (List.mem_cons_of_mem _ hn), hg2, rfl⟩
        · rw [if_neg c] at hg2; cases hg2
    · rintro ρ ⟨R, p, z7, h1, hR, hg, rfl⟩
      cases R with
      | cons n R => cases h1
      | nil =>
        have hg : some p = some (g.1, l) := hg
        cases hg
        exact ⟨_, rfl⟩
  rintro ρ ⟨z7, rfl⟩
  try dsimp only
  refine go ?_
  decreasing_trivial
  refine ⟨rfl, rfl, min0 _ _, ?_⟩
  rw [eqv_int, show (((g.1 : Nat) : Int) == ((g.1 : Nat) : Int)) = true from beq_self_eq_true _]
  decreasing_trivial
  rw [decide_eq_true hl2]
  exact q
end
def spLaw (K : PySem.W.Frag) : Sp := fun vs H Q _ => ∃ (a : Addr) (ns : List Int), vs = [.ref a] ∧ SqL K H a (ns.map V.int) ∧ ns.length ≤ 63 ∧ ∀ H', Q (.bl true) H'
theorem callH {sp : DSp} {H : Hp} {Q : VK} {E : XK} {hd hl : Addr} (Qd : PyData → Prop) (d : Hd H hd hl) (h : sp [.none] Qd) (k : ∀ d v H', Qd d → ThV (fun b => b ≠ hd) H' v d → Kq (some (hd, hl)) H H' → Hd H' hd hl → Q v H') : spD [.hd] sp [.ref hd] H Q E := by
  have d0 := d
  obtain ⟨_, _, _, _, _, _, _, _, e⟩ := d
  exact ⟨fun b => b ≠ hd, some (hd, hl), [.none], Qd, ⟨(fun b z y => by rw [y, e] at z; cases z), (fun b xs z y => by rw [y, e] at z; cases z)⟩, fun q hq => by cases hq; exact fun z => z rfl, fun q hq => by cases hq; exact d0, .cons ⟨_, rfl, rfl⟩ .nil, h, fun d v H' a b c z => k d v H' a b c (z _ rfl)⟩
theorem callA {ms : List Md} {sp : DSp} {vs : List V} {ds : List PyData} {H : Hp} {Q : VK} {E : XK} (Qd : PyData → Prop) (ar : ArgsR TT0 none H ms vs ds) (h : sp ds Qd) (k : ∀ d v H' fp, Qd d → FpV (NewS H) H' v d fp → fp.Nodup → Same H H' → Q v H') : spDA ms sp vs H Q E :=
  ⟨TT0, none, ds, Qd, ⟨fun _ _ => trivial, fun _ _ _ => trivial⟩, fun q hq => (nomatch hq), fun q hq => (nomatch hq), ar, h, fun d v H' fp a b n c _ => k d v H' fp a b n (kq_same c)⟩
open Classical in
theorem shB_t {m : Nat} {ws : List Wy} {S : Int} {b0 : Tb} {g : Sp2} {ds : List PyData} (h : ShP m ws S b0 g none ds) : shB m ws S b0 g (.list ds) = true := decide_eq_true h
theorem shP_sk {m : Nat} {ws : List Wy} {S : Int} {b g : Sp2} (ok : LandOk m ws) (Tk : ∀ k, TabOk m S (skF m ws S b k)) : ∀ (n k : Nat), (∀ j, j < n → enF (skF m ws S b (k + j)) g = false) → ShP m ws S (baseF m b) g (match k with
    | 0 => none
    | k + 1 => some (skF m ws S b k)) ((List.range' k n).map fun j => .list (tabL (skF m ws S b j)))
  | 0, _, _ => trivial
  | n + 1, k, h => by
    rw [List.range'_succ, List.map_cons]
    refine ⟨skF m ws S b k, rfl, Tk k, ⟨?_, h 0 (Nat.zero_lt_succ _)⟩, shP_sk ok Tk n (k + 1) fun j hj => by rw [show k + 1 + j = k + (j + 1) by omega]; exact h _ (by omega)⟩
    cases k with
    | zero => exact leT_refl _
    | succ k => exact fun w hw => row_top ok List.length_replicate hw
theorem tabs_map (f : Nat → Tb) (n : Nat) : tabsL f n = ((List.range n).map f).map fun t => .list (tabL t) := by unfold tabsL; rw [List.map_map]; rfl
theorem tabs_at {F : Addr → Prop} {H : Hp} : ∀ {ts : List Tb} {us : List V} {fq : List Addr}, FpVs F H us (ts.map fun t => PyData.list (tabL t)) fq → us = fq.map V.ref ∧ ∀ (i : Nat) (a : Addr), fq[i]? = some a → ∃ (t : Tb) (xs : List V), ts[i]? = some t ∧ H a = some (.lst xs) ∧ ThVs F H xs (tabL t)
  | [], _, _, h => by
    cases h
    exact ⟨rfl, fun i a e => nomatch e⟩
  | t :: ts, _, _, h => by
    cases h with
    | @cons v _ _ _ f1 f2 x r =>
      obtain ⟨a, vs, fr, rfl, rfl, _, e, tt⟩ := fp_lst x
      have e0 : fr = [] := (tt.uniq (tab_fp (G := F) (H' := H) tt.th)).2
      subst e0
      obtain ⟨rfl, h2⟩ := tabs_at r
      refine ⟨rfl, fun i a' e' => ?_⟩
      cases i with
      | zero =>
        cases e'
        exact ⟨t, vs, rfl, e, tt.th⟩
      | succ i => exact h2 i a' e'
theorem nums_any {F G : Addr → Prop} {H H' : Hp} {ns : List Nat} {us : List V} (t : ThVs F H us (numL ns)) : ThVs G H' us (numL ns) := (nums_fp (G := G) (H' := H') t).th
section
variable {P : Program} {w : World} {K : PySem.W.Frag} {mg : Str → Option Value} {base : Heap}
theorem ok_law (T : Txt K mg) : FnOk P w K mg base CX0 9 T.a_law T.d_law ["_law_script"] (spLaw K) := by
  have G_hand : FnOk P w K mg base CX0 1 T.a_hand T.d_hand ["_law_script"] (spHand K) := ok_hand T
  have b_hand := bd_hand T
  have G_scene := @ok_scene P w K mg base T
  have b_scene := bd_scene T
  have G_soonest : FnOk P w K mg base CX0 4 T.a_soonest T.d_soonest ["land", "store", "begin", "goal", "most"] spSoonA := ok_soonest T
  have b_soonest := bd_soonest T
  have G_rows_right := @ok_rows_right P w K mg base T
  have b_rows_right := bd_rows_right T
  have G_is_showing := @ok_is_showing P w K mg base T
  have b_is_showing := bd_is_showing T
  have G_walks := @ok_walks P w K mg base T
  have b_walks := bd_walks T
  refine T.F_law.ok sc_law (fun vs H Q E h => ?_) (fun cdv A outer s H vs Q E hr h => ?_)
  · obtain ⟨a, ns, rfl, _⟩ := h
    rfl
  · obtain ⟨a, ns, rfl, hS, hlen, k⟩ := h
    refine ⟨_, (pss_cons (ps_set (i := 1) sc_law.nd rfl (Or.inl rfl) (pe_call G_hand (hr.mono (by decide)) rfl T.mg_hand T.kp_hand b_hand .nil pass0 (pa_cons (pv 0) pa_nil se_Name) (he := se_Name) (hpl := np_nil)))
      (pss_cons (ps_asg (pe_call G_scene (hr.mono (by decide)) rfl T.mg_scene T.kp_scene b_scene .nil pass0 (pa_cons (pv 1) pa_nil se_Name) (he := se_Name) (hpl := np_nil)) (pg_tup (n := 5) rfl (pgs_cons (pg_name (i := 2) sc_law.nd rfl (Or.inl rfl)) (pgs_cons (pg_name (i := 3) sc_law.nd rfl (Or.inl rfl)) (pgs_cons (pg_name (i := 4) sc_law.nd rfl (Or.inl rfl)) (pgs_cons (pg_name (i := 5) sc_law.nd rfl (Or.inl rfl)) (pgs_cons (pg_name (i := 6) sc_law.nd rfl (Or.inl rfl)) pgs_nil)))))))
      (pss_cons (ps_set (i := 7) sc_law.nd rfl (Or.inl rfl) (pe_call G_soonest (hr.mono (by decide)) rfl T.mg_soonest T.kp_soonest b_soonest .nil pass0 (pa_cons (pv 2) (pa_cons (pv 3) (pa_cons (pv 4) (pa_cons (pv 5) (pa_cons (pv 6) pa_nil se_Name) se_Name) se_Name) se_Name) se_Name) (he := se_Name) (hpl := (np_cons se_Name (np_cons se_Name (np_cons se_Name (np_cons se_Name np_nil)))))))
      (pss_cons (ps_mid (ps_if (PW.pt (pw_or (pt_not (pt_val (pe_callB call_isinst rfl T.n_isinstance bt_isinstance (pa_cons (pv 7) (pa_cons (pe_bltn (v := V.ty "tuple") rfl T.n_tuple bt_tuple rfl) pa_nil se_Name) se_Name) (he := se_Name) (hpl := (np_cons se_Name np_nil))))) (pw_or (pt_cmpR op_notIn_seq (pe_callB call_len_seq rfl T.n_len bt_len (pa_cons (pv 7) pa_nil se_Name) (he := se_Name) (hpl := np_nil)) (pe_tup (pa_cons pe_int (pa_cons pe_int pa_nil se_Constant) se_Constant)) (by with_unfolding_all rfl)) (pw_or1 (pt_not (pt_val (pe_callB call_isinst rfl T.n_isinstance bt_isinstance (pa_cons (pe_ix ix_seq (pv 7) (pe_un un_neg pe_int) (fun _ _ => rfl)) (pa_cons (pe_bltn (v := V.ty "list") rfl T.n_list bt_list rfl) pa_nil se_Name) se_Subscript) (he := se_Subscript) (hpl := (np_cons se_Name np_nil)))))))))
      (pss_one (ps_ret pe_bl))
      pss_nil))
      (pss_cons (ps_set (i := 8) sc_law.nd rfl (Or.inl rfl) (pe_ix ix_seq (pv 7) (pe_un un_neg pe_int) (fun _ _ => rfl)))
      (pss_cons (ps_mid (ps_if (pt_not (pt_val (pe_call G_rows_right (hr.mono (by decide)) rfl T.mg_rows_right T.kp_rows_right b_rows_right .nil pass0 (pa_cons (pv 2) (pa_cons (pv 3) (pa_cons (pv 4) (pa_cons (pv 5) (pa_cons (pv 8) pa_nil se_Name) se_Name) se_Name) se_Name) se_Name) (he := se_Name) (hpl := (np_cons se_Name (np_cons se_Name (np_cons se_Name (np_cons se_Name np_nil))))))))
      (pss_one (ps_ret pe_bl))
      pss_nil))
      (pss_cons (ps_mid (ps_if (pt_cmpR op_notB (pe_call G_is_showing (hr.mono (by decide)) rfl T.mg_is_showing T.kp_is_showing b_is_showing .nil pass0 (pa_cons (pv 2) (pa_cons (pv 3) (pa_cons (pv 4) (pa_cons (pv 5) (pa_cons (pv 8) pa_nil se_Name) se_Name) se_Name) se_Name) se_Name) (he := se_Name) (hpl := (np_cons se_Name (np_cons se_Name (np_cons se_Name (np_cons se_Name np_nil)))))) pe_bl (nomark _))
      (pss_one (ps_ret pe_bl))
      pss_nil))
      (pss_cons (ps_mid (ps_if (pt_cmpR op_eq (pe_ix ix_seq (pv 7) pe_int (fun _ _ => rfl)) pe_str (nomark _))
      (pss_one (ps_ret (pe_and (pe_cmpR op_eq (pe_callB call_len_seq rfl T.n_len bt_len (pa_cons (pv 7) pa_nil se_Name) (he := se_Name) (hpl := np_nil)) pe_int (nomark _)) (pe_one (pe_cmpR op_eq (pe_callB call_len_seq rfl T.n_len bt_len (pa_cons (pv 8) pa_nil se_Name) (he := se_Name) (hpl := np_nil)) (pe_op op_add (pv 6) pe_int) (nomark _))))))
      pss_nil))
      (pss_cons (ps_mid (ps_if (PW.pt (pw_or (pt_cmpR op_ne (pe_ix ix_seq (pv 7) pe_int (fun _ _ => rfl)) pe_str (nomark _)) (pw_or (pt_cmpR op_ne (pe_callB call_len_seq rfl T.n_len bt_len (pa_cons (pv 7) pa_nil se_Name) (he := se_Name) (hpl := np_nil)) pe_int (nomark _)) (pw_or1 (pt_not (pt_val (pe_callB call_isinst rfl T.n_isinstance bt_isinstance (pa_cons (pe_ix ix_seq (pv 7) pe_int (fun _ _ => rfl)) (pa_cons (pe_bltn (v := V.ty "list") rfl T.n_list bt_list rfl) pa_nil se_Name) se_Subscript) (he := se_Subscript) (hpl := (np_cons se_Name np_nil)))))))))
      (pss_one (ps_ret pe_bl))
      pss_nil))
      (pss_cons (ps_mid (ps_if (PW.pt (pw_or (pt_cmpR op_ne (pe_callB call_len_seq rfl T.n_len bt_len (pa_cons (pv 8) pa_nil se_Name) (he := se_Name) (hpl := np_nil)) (pe_callB call_len_seq rfl T.n_len bt_len (pa_cons (pe_ix ix_seq (pv 7) pe_int (fun _ _ => rfl)) pa_nil se_Subscript) (he := se_Subscript) (hpl := np_nil)) (nomark _)) (pw_or (pt_cmpR op_gt (pe_callB call_len_seq rfl T.n_len bt_len (pa_cons (pv 8) pa_nil se_Name) (he := se_Name) (hpl := np_nil)) (pv 6) (nomark _)) (pw_or1 (pt_not (pt_val (pe_call G_walks (hr.mono (by decide)) rfl T.mg_walks T.kp_walks b_walks .nil pass0 (pa_cons (pv 2) (pa_cons (pv 3) (pa_cons (pv 4) (pa_cons (pv 5) (pa_cons (pe_ix ix_seq (pv 7) pe_int (fun _ _ => rfl)) pa_nil se_Subscript) se_Name) se_Name) se_Name) se_Name) (he := se_Name) (hpl := (np_cons se_Name (np_cons se_Name (np_cons se_Name (np_cons se_Subscript np_nil))))))))))))
      (pss_one (ps_ret pe_bl))
      pss_nil))
      (pss_cons (ps_setC (i := 9) sc_law.nd rfl (Or.inl rfl) (CompSc.new (N := ["_law_script", "_law_hand_here", "_law_land_here", "_law_store", "_law_begin", "_law_goal", "_law_most", "_law_found", "_law_rows", "_law_kept", "_law_k", "_law_again"]) (osc := defScope s_law) (by decide +kernel)) rfl (pi_list (pv 8)) (fun _ => pts_nil) (fun _ => (pe_callTy call_list_of rfl T.n_list bt_list (pa_cons (pv 12) pa_nil se_Name) (he := se_Name) (hpl := np_nil))))
      (pss_cons (ps_for PassesOwn.never rfl (pi_range1 rfl T.n_range (pa_cons (pe_callB call_len_seq rfl T.n_len bt_len (pa_cons (pv 8) pa_nil se_Name) (he := se_Name) (hpl := np_nil)) pa_nil se_Call)) (pg_name (i := 10) sc_law.nd rfl (Or.inl rfl))
      (pss_cons (ps_mid (ps_if (pt_cmpR (op_neD (units_of hr)) (pe_ix ix_list (pv 8) (pv 10) (fun _ _ => rfl)) (pe_ix ix_list (pv 9) (pv 10) (fun _ _ => rfl)) (nomark _))
      (pss_one (ps_ret pe_bl))
      pss_nil))
      (pss_one (ps_expr (pe_bm0 PySem.F.plainAttrs_list PySem.F.slot_list_clear PySem.F.type_list_clear mt_clear (pe_ix ix_list (pv 8) (pv 10) (fun _ _ => rfl)))))))
      (pss_cons (ps_expr (pe_bm PySem.F.plainAttrs_list PySem.F.slot_list_append PySem.F.type_list_append mt_append (pv 8) (pa_cons pe_int pa_nil se_Constant)))
      (pss_cons (ps_set (i := 11) sc_law.nd rfl (Or.inl rfl) (pe_call G_soonest (hr.mono (by decide)) rfl T.mg_soonest T.kp_soonest b_soonest .nil pass0 (pa_cons (pv 2) (pa_cons (pv 3) (pa_cons (pv 4) (pa_cons (pv 5) (pa_cons (pv 6) pa_nil se_Name) se_Name) se_Name) se_Name) se_Name) (he := se_Name) (hpl := (np_cons se_Name (np_cons se_Name (np_cons se_Name (np_cons se_Name np_nil)))))))
      (pss_one (ps_ret (pe_and (pe_cmpR (op_eqD (units_of hr)) (pe_ix ix_seq (pv 11) pe_int (fun _ _ => rfl)) (pv 9) (nomark _)) (pe_one (pe_cmpR (op_eqD (units_of hr)) (pe_ix ix_seq (pv 11) pe_int (fun _ _ => rfl)) (pe_ix ix_seq (pv 7) pe_int (fun _ _ => rfl)) (nomark _)))))))))))))))))))), ?_⟩
    refine ⟨_, rfl, a, ns, rfl, hS, fun hd0 hl H1 _ _ d1 _ => ?_⟩
    refine ⟨_, rfl, callH (E := E0) (fun d => ∃ (m : Nat) (ws : List Wy) (st : Int) (b g : Sp2) (most : Nat), (LandOk m ws ∧ 0 ≤ st ∧ st ≤ 100000000000000000000 ∧ b.1 < m ∧ 0 ≤ b.2 ∧ b.2 ≤ st ∧ g.1 < m ∧ 0 ≤ g.2 ∧ g.2 ≤ st ∧ most ≤ 200) ∧ d = .tuple [landD m ws, .int st, spotD b, spotD g, .int (most : Nat)]) d1 ⟨_, rfl, fun m ws st b g most ok s0 s1 hb b0 b1 hg g0 g1 hm => ⟨m, ws, st, b, g, most, ⟨ok, s0, s1, hb, b0, b1, hg, g0, g1, hm⟩, rfl⟩⟩ fun d v H2 hd t2 _ _ => ?_⟩
    obtain ⟨m, ws, st, b, g, most, ⟨ok, s0, s1, hb, b0, b1, hg, g0, g1, hm⟩, rfl⟩ := hd
    obtain ⟨a2, xs2, rfl, _, e2, t3⟩ := th_tup (t2.mv (G := TT0) (H' := H2) fun b o _ e => ⟨trivial, e⟩)
    cases t3 with
    | @cons vl _ _ _ tl t3 =>
    cases t3 with
    | @cons vst _ _ _ tst t3 =>
    cases t3 with
    | @cons vb _ _ _ tb t3 =>
    cases t3 with
    | @cons vg _ _ _ tg t3 =>
    cases t3 with
    | @cons vm _ _ _ tm t3 =>
    cases t3
    cases tst
    cases tm
    refine ⟨a2, _, rfl, SqT.of e2, rfl, _, _, rfl, _, _, rfl, _, _, rfl, _, _, rfl, _, _, rfl, rfl, ?_⟩
    refine ⟨_, rfl, _, rfl, _, rfl, _, rfl, _, rfl, callA (E := E0) (SoonR m ws st b g most) (.cons tl (.cons (.int _) (.cons tb (.cons tg (.cons (.int _) .nil))))) ⟨m, ws, st, b, g, most, rfl, ok, hb, hg, by omega, fun d h => h⟩ fun d v H3 fp hd T nd s3 => ?_⟩
    obtain ⟨a3, xs3, a4, us, n, fq, rfl, e3, e4, T4, nd4, na4, hl3, hat, hno, hn, hx⟩ : ∃ a3 xs3 a4 us n fq, v = .ref a3 ∧ H3 a3 = some (.tup xs3) ∧ H3 a4 = some (.lst us) ∧ FpVs (NewS H2) H3 us (tabsL (skF m ws st b) n) fq ∧ fq.Nodup ∧ a4 ∉ fq ∧ (((xs3.length : Nat) : Int) = 2 ∨ ((xs3.length : Nat) : Int) = 3) ∧ atI xs3 (-1) = some (.ref a4) ∧ (∀ k, k < n → enF (skF m ws st b k) g = false) ∧ n ≤ most + 1 ∧
        ((xs3 = [.str "not", .ref a4] ∧ n = most + 1) ∨ ∃ (a5 : Addr) (us5 : List V) (nl : List Nat) (l : Int), xs3 = [.str "through", .ref a5, .ref a4] ∧ H3 a5 = some (.lst us5) ∧ ThVs TT0 H3 us5 (numL nl) ∧ a5 ∉ fq ∧ a5 ≠ a4 ∧ H2 a4 = none ∧ n ≤ most ∧ enF (skF m ws st b n) g = true ∧ nl.length = n ∧ goN ws st nl b = some (g.1, l) ∧ g.2 ≤ l ∧ (∀ x ∈ nl, x < ws.length) ∧ (wlk ws (srs m ws st b (n + 1)).reverse g.1).2 = nl) := by
      rcases hd with ⟨rfl, hno⟩ | ⟨L, nl, l, rfl, hL, hno, h1, h2, h3, h4, h5, h6⟩
      · obtain ⟨a3, xs3, rfl, _, e3, T3⟩ := fp_tup T
        obtain ⟨v1, v2, f1, f2, rfl, rfl, T1, T2⟩ := fp_two T3
        cases T1
        obtain ⟨a4, us, fq, rfl, rfl, _, e4, T4⟩ := fp_lst T2
        have nn := List.nodup_cons.mp (List.nodup_append.mp nd).2.1
        exact ⟨a3, _, a4, us, most + 1, fq, rfl, e3, e4, T4, nn.2, nn.1, .inl rfl, rfl, fun k hk => hno k (by omega), Nat.le_refl _, .inl ⟨rfl, rfl⟩⟩
      · obtain ⟨a3, xs3, rfl, _, e3, T3⟩ := fp_tup T
        cases T3 with
        | @cons v1 _ _ _ f1 _ x1 T3 =>
        cases x1
        obtain ⟨v2, v3, f2, f3, rfl, rfl, T1, T2⟩ := fp_two T3
        obtain ⟨a4, us, fq, rfl, rfl, g4, e4, T4⟩ := fp_lst T2
        obtain ⟨a5, us5, fr, rfl, rfl, _, e5, T5⟩ := fp_lst T1
        have n1 := List.nodup_append.mp (List.nodup_append.mp nd).2.1
        have nn := List.nodup_cons.mp n1.2.1
        have d5 := fun z hz => n1.2.2 a5 List.mem_cons_self z hz
        refine ⟨a3, _, a4, us, L, fq, rfl, e3, e4, T4, nn.2, nn.1, .inr rfl, rfl, hno, by omega, .inr ⟨a5, us5, nl, l, rfl, e5, T5.th.mv fun b o _ e => ⟨trivial, e⟩, fun z => d5 a5 (List.mem_cons_of_mem _ z) rfl, fun z => d5 a4 List.mem_cons_self z, ?_, hL, h1, h2, h3, h4, h5, h6⟩⟩
        rcases g4 with z | ⟨xs, z⟩
        · exact z
        · rw [s3 _ _ z] at e4; cases e4
    have lus : us.length = n := by rw [T4.len, tabs_len]
    have s23 : Same H2 H3 := s3
    refine ⟨fun σ' H' => σ' = [some (.ref a), some (.ref hd0), some vl, some (.int st), some vb, some vg, some (.int ((most : Nat) : Int)), some (.ref a3), none, none, none, none] ∧ Same H3 H', ?_, ?_⟩
    · refine ⟨_, rfl, _, _, _, _, _, rfl, rfl, .tup e3, ty_tuple (.tuple []) _ rfl, _, rfl, iteF ?_⟩
      refine ⟨_, rfl, a3, xs3, rfl, .inr (SqT.of e3), by show 2 ≤ sizeLine; decide, fun p hp => ⟨p, _, rfl, .inr (SqT.of upd_same), rfl, rfl, _, rfl, ?_⟩⟩
      have e3' : upd H3 p (.tup [.int 2, .int 3]) a3 = some (.tup xs3) := by rw [upd_ne (ne_of_none e3 hp)]; exact e3
      have e4' : upd H3 p (.tup [.int 2, .int 3]) a4 = some (.lst us) := by rw [upd_ne (ne_of_none e4 hp)]; exact e4
      have hin : inV (.int ((xs3.length : Nat) : Int)) [.int 2, .int 3] = true := by
        rcases hl3 with h | h <;> rw [h] <;> rfl
      rw [hin]
      refine iteF ⟨_, rfl, _, rfl, .inr (.inl ⟨a3, xs3, -1, .ref a4, rfl, rfl, SqT.of e3', hat, _, _, _, _, _, rfl, rfl, .lst e4', ty_list (.list []) _ rfl, _, rfl, ?_⟩)⟩
      exact iteF ⟨rfl, fun b o e => by rw [upd_ne (ne_of_none e hp)]; exact e⟩
    rintro σ' H' ⟨rfl, s4⟩
    refine ⟨_, rfl, _, rfl, .inr (.inl ⟨a3, xs3, -1, .ref a4, rfl, rfl, SqT.of (s4 _ _ e3), hat, ?_⟩)⟩
    have tlM : ∀ {H' : Hp}, Same H2 H' → ThV TT0 H' vl (landD m ws) := fun s => ThV.mv (fun b o _ e => ⟨trivial, s _ _ e⟩) tl
    have tbM : ∀ {H' : Hp}, Same H2 H' → ThV TT0 H' vb (spotD b) := fun s => ThV.mv (fun b o _ e => ⟨trivial, s _ _ e⟩) tb
    have tgM : ∀ {H' : Hp}, Same H2 H' → ThV TT0 H' vg (spotD g) := fun s => ThV.mv (fun b o _ e => ⟨trivial, s _ _ e⟩) tg
    have trM : ∀ {H' : Hp}, Same H3 H' → ThV TT0 H' (.ref a4) (.list (tabsL (skF m ws st b) n)) := fun s => .lst trivial (s _ _ e4) (ThVs.mv (fun b o _ e => ⟨trivial, s _ _ e⟩) T4.th)
    refine ⟨fun σ' H' => σ' = [some (.ref a), some (.ref hd0), some vl, some (.int st), some vb, some vg, some (.int ((most : Nat) : Int)), some (.ref a3), some (.ref a4), none, none, none] ∧ Same H3 H', ?_, ?_⟩
    · refine ⟨_, rfl, _, rfl, _, rfl, _, rfl, _, rfl, callT (E := E0) (fun d => d = .bool true) (.cons (tlM fun b o e => s4 _ _ (s23 _ _ e)) (.cons (.int _) (.cons (tbM fun b o e => s4 _ _ (s23 _ _ e)) (.cons (tgM fun b o e => s4 _ _ (s23 _ _ e)) (.cons (trM s4) .nil))))) ⟨m, ws, st, b, g, n, rfl, ok, s0, hb, b0, b1, hg, by omega, hno, rfl⟩ fun d v H5 hd t5 s5 => ?_⟩
      subst hd
      cases t5
      exact ⟨_, rfl, iteF ⟨rfl, fun b o e => s5 _ _ (s4 _ _ e)⟩⟩
    clear s4
    rintro σ' H' ⟨rfl, s4⟩
    have Tk := sk_tab ok s0 hb b0 b1
    have esh : tabsL (skF m ws st b) n = tbL ((List.range n).map (skF m ws st b)) := by
      unfold tabsL tbL
      rw [List.map_map]; rfl
    have hts : ∀ t ∈ (List.range n).map (skF m ws st b), TabOk m st t := fun t ht => by
      obtain ⟨k, _, rfl⟩ := List.mem_map.mp ht
      exact Tk k
    have hsh : shB m ws st (baseF m b) g (.list (tabsL (skF m ws st b) n)) = true := by
      refine shB_t ?_
      have := shP_sk (g := g) ok Tk n 0 fun j hj => by rw [Nat.zero_add]; exact hno j hj
      rw [← List.range_eq_range'] at this
      exact this
    refine ⟨fun σ' H' => σ' = [some (.ref a), some (.ref hd0), some vl, some (.int st), some vb, some vg, some (.int ((most : Nat) : Int)), some (.ref a3), some (.ref a4), none, none, none] ∧ Same H3 H', ?_, ?_⟩
    · refine ⟨_, rfl, _, rfl, _, rfl, _, rfl, _, rfl, callT (E := E0) (fun d => d = .bool true) (.cons (tlM fun b o e => s4 _ _ (s23 _ _ e)) (.cons (.int _) (.cons (tbM fun b o e => s4 _ _ (s23 _ _ e)) (.cons (tgM fun b o e => s4 _ _ (s23 _ _ e)) (.cons (trM s4) .nil))))) ⟨m, ws, st, b, g, _, rfl, ok, s0, hb, hg, .inl (by rw [esh]; exact rws_tbs hts ok.m2 (by rw [List.length_map, List.length_range]; omega)), by rw [hsh]⟩ fun d v H5 hd t5 s5 => ?_⟩
      subst hd
      cases t5
      exact ⟨_, _, rfl, rfl, _, rfl, iteF ⟨rfl, fun b o e => s5 _ _ (s4 _ _ e)⟩⟩
    clear s4
    rintro σ' H' ⟨rfl, s4⟩
    rcases hx with ⟨rfl, rfl⟩ | ⟨a5, us5, nl, l, rfl, e5, t5, na5, n54, nw4, hL, henL, hnl, hgo, hgl, hnw, hwlk⟩
    · refine ⟨fun _ _ => False, ?_, fun _ _ z => z.elim⟩
      refine ⟨_, rfl, .inr (.inl ⟨a3, _, 0, .str "not", rfl, rfl, SqT.of (s4 _ _ e3), rfl, rfl, _, rfl, ?_⟩)⟩
      rw [show decide (V.str "not" = V.str "not") = true from decide_eq_true rfl]
      refine iteT ⟨_, rfl, a3, _, rfl, .inr (SqT.of (s4 _ _ e3)), rfl, _, rfl, ?_⟩
      rw [decide_eq_true (show V.int (([V.str "not", V.ref a4].length : Nat) : Int) = V.int 2 from rfl)]
      refine iteT ⟨_, rfl, a4, us, rfl, .inl (SqL.of (s4 _ _ e4)), _, rfl, _, _, rfl, rfl, rfl, ?_⟩
      rw [lus, decide_eq_true (show V.int ((most + 1 : Nat) : Int) = V.int ((most : Int) + 1) from rfl)]
      exact k _
    have lus5 : us5.length = nl.length := by rw [t5.len, len_num]
    refine ⟨fun σ' H' => σ' = [some (.ref a), some (.ref hd0), some vl, some (.int st), some vb, some vg, some (.int ((most : Nat) : Int)), some (.ref a3), some (.ref a4), none, none, none] ∧ Same H3 H', ?_, ?_⟩
    · refine ⟨_, rfl, .inr (.inl ⟨a3, _, 0, .str "through", rfl, rfl, SqT.of (s4 _ _ e3), rfl, rfl, _, rfl, ?_⟩)⟩
      rw [show decide (V.str "through" = V.str "not") = false from decide_eq_false (by decide)]
      exact iteF ⟨rfl, s4⟩
    clear s4
    rintro σ' H' ⟨rfl, s4⟩
    refine ⟨fun σ' H' => σ' = [some (.ref a), some (.ref hd0), some vl, some (.int st), some vb, some vg, some (.int ((most : Nat) : Int)), some (.ref a3), some (.ref a4), none, none, none] ∧ Same H3 H', ?_, ?_⟩
    · refine ⟨_, rfl, .inr (.inl ⟨a3, _, 0, .str "through", rfl, rfl, SqT.of (s4 _ _ e3), rfl, rfl, _, rfl, ?_⟩)⟩
      rw [show decide (V.str "through" = V.str "through") = true from decide_eq_true rfl]
      refine iteF ⟨_, rfl, a3, _, rfl, .inr (SqT.of (s4 _ _ e3)), rfl, _, rfl, ?_⟩
      rw [decide_eq_true (show V.int (([V.str "through", V.ref a5, V.ref a4].length : Nat) : Int) = V.int 3 from rfl)]
      refine iteF ⟨_, rfl, .inr (.inl ⟨a3, _, 1, .ref a5, rfl, rfl, SqT.of (s4 _ _ e3), rfl, _, _, _, _, _, rfl, rfl, .lst (s4 _ _ e5), ty_list (.list []) _ rfl, _, rfl, ?_⟩)⟩
      exact iteF ⟨rfl, s4⟩
    clear s4
    rintro σ' H' ⟨rfl, s4⟩
    refine ⟨fun σ' H' => σ' = [some (.ref a), some (.ref hd0), some vl, some (.int st), some vb, some vg, some (.int ((most : Nat) : Int)), some (.ref a3), some (.ref a4), none, none, none] ∧ Same H3 H', ?_, ?_⟩
    · refine ⟨_, rfl, a4, us, rfl, .inl (SqL.of (s4 _ _ e4)), _, rfl, .inr (.inl ⟨a3, _, 1, .ref a5, rfl, rfl, SqT.of (s4 _ _ e3), rfl, a5, us5, rfl, .inl (SqL.of (s4 _ _ e5)), rfl, _, rfl, ?_⟩)⟩
      rw [lus, lus5, hnl, decide_eq_true (rfl : V.int ((n : Nat) : Int) = V.int ((n : Nat) : Int))]
      refine iteF ⟨_, rfl, a4, us, rfl, .inl (SqL.of (s4 _ _ e4)), _, rfl, _, _, rfl, rfl, _, rfl, ?_⟩
      rw [lus, decide_eq_false (show ¬ ((most : Nat) : Int) < ((n : Nat) : Int) by omega)]
      refine iteF ⟨_, rfl, _, rfl, _, rfl, _, rfl, _, rfl, .inr (.inl ⟨a3, _, 1, .ref a5, rfl, rfl, SqT.of (s4 _ _ e3), rfl, callT (E := E0) (fun d => d = .bool true) (.cons (tlM fun b o e => s4 _ _ (s23 _ _ e)) (.cons (.int _) (.cons (tbM fun b o e => s4 _ _ (s23 _ _ e)) (.cons (tgM fun b o e => s4 _ _ (s23 _ _ e)) (.cons (.lst trivial (s4 _ _ e5) (t5.mv fun b o _ e => ⟨trivial, s4 _ _ e⟩)) .nil))))) ⟨m, ws, st, b, g, nl, l, rfl, hnw, hgo, hgl, rfl⟩ fun d v H5 hd t5 s5 => ?_⟩)⟩
      subst hd
      cases t5
      exact ⟨_, rfl, iteF ⟨rfl, fun b o e => s5 _ _ (s4 _ _ e)⟩⟩
    clear s4
    rintro σ' H5 ⟨rfl, s5⟩
    have T4' := T4
    rw [tabs_map] at T4'
    obtain ⟨eus, hrow⟩ := tabs_at T4'
    have lfq : fq.length = n := by rw [← lus, eus, List.length_map]
    have rowN : ∀ (i : Nat) (c : Addr), fq[i]? = some c → ∃ xs, H3 c = some (.lst xs) ∧ ThVs (NewS H2) H3 xs (tabL (skF m ws st b i)) := fun i c e => by
      obtain ⟨t, xs, h1, h2, h3⟩ := hrow i c e
      have hi : i < n := by rw [← lfq]; exact (List.getElem?_eq_some_iff.mp e).1
      rw [List.getElem?_map, List.getElem?_range hi] at h1
      cases h1
      exact ⟨xs, h2, h3⟩
    refine ⟨_, rfl, a4, rfl, ⟨us, SqL.of (s5 _ _ e4)⟩, ?_⟩
    refine comp_list (xs := us) (fun i ys Hn => Same H5 Hn ∧ ThVs (fun b => H5 b = none) Hn ys (tabsL (skF m ws st b) i)) ?_ ⟨fun _ _ e => e, .nil⟩ ?_ ?_ ?_
    · rw [lus, sizeLine_eq]; omega
    · rintro i ys Hn hi ⟨h1, h2⟩
      exact ⟨by rw [h2.len, tabs_len]; exact Nat.le_refl _, SqL.of (h1 _ _ (s5 _ _ e4))⟩
    · rintro i x ys Hn hx ⟨h1, h2⟩ ca
      rw [eus, List.getElem?_map] at hx
      obtain ⟨c, hc, rfl⟩ := Option.map_eq_some_iff.mp hx
      obtain ⟨xs, ec, tc⟩ := rowN i c hc
      unfold tTrue
      refine iteT ⟨_, rfl, c, xs, rfl, .inl (SqL.of (h1 _ _ (s5 _ _ ec))), fun l' hl' => ⟨fun b o e => by rw [upd_ne (ne_of_none (h1 _ _ e) hl')]; exact h1 _ _ e, ?_⟩⟩
      rw [tabs_succ]
      refine (h2.mv fun b o z e => ⟨z, by rw [upd_ne (ne_of_none e hl')]; exact e⟩).append (.cons (.lst ?_ upd_same (tab_any tc)) .nil)
      cases z : H5 l' with
      | none => rfl
      | some o => rw [h1 _ _ z] at hl'; cases hl'
    rintro ks H6 ⟨s56, tks⟩ ak hak
    rw [lus] at tks
    obtain ⟨H7, hH7⟩ : ∃ H7, H7 = upd H6 ak (.lst ks) := ⟨_, rfl⟩
    rw [← hH7]
    have s67 : Same H6 H7 := fun b o e => by rw [hH7, upd_ne (ne_of_none e hak)]; exact e
    have s57 : Same H5 H7 := fun b o e => s67 _ _ (s56 _ _ e)
    have s37 : Same H3 H7 := fun b o e => s57 _ _ (s5 _ _ e)
    have s27 : Same H2 H7 := fun b o e => s37 _ _ (s23 _ _ e)
    have tk7 : ThV (fun b => H5 b = none) H7 (.ref ak) (.list (tabsL (skF m ws st b) n)) := .lst (by
      cases z : H5 ak with
      | none => rfl
      | some o => rw [s56 _ _ z] at hak; cases hak) (by rw [hH7]; exact upd_same) (tks.mv fun b o z e => ⟨z, s67 _ _ e⟩)
    have fqN : ∀ c ∈ fq, H2 c = none := fun c hc => by
      obtain ⟨gc, xs, ex⟩ := T4.mem c hc
      rcases gc with z | ⟨ys, z⟩
      · exact z
      · rw [s23 _ _ z] at ex; cases ex
    have fq5 : ∀ c ∈ fq, H5 c ≠ none := fun c hc z => by
      obtain ⟨_, xs, ex⟩ := T4.mem c hc
      rw [s5 _ _ ex] at z; cases z
    refine ⟨_, rfl, a4, us, rfl, .inl (SqL.of (s37 _ _ e4)), _, rfl, by omega, by omega, ?_⟩
    refine for_range (n := ((us.length : Nat) : Int).toNat) (fun i σ' H' => ∃ z, σ' = [some (.ref a), some (.ref hd0), some vl, some (.int st), some vb, some vg, some (.int ((most : Nat) : Int)), some (.ref a3), some (.ref a4), some (.ref ak), z, none] ∧ ∀ b o, H7 b = some o → b ∉ fq.take i → H' b = some o) ⟨none, rfl, fun b o e _ => e⟩ ?_ ?_
    · rintro i σ' H' hi ⟨z, rfl, fr⟩
      rw [lus, Int.toNat_natCast] at hi
      have hi' : i < fq.length := by rw [lfq]; exact hi
      obtain ⟨c, hc⟩ : ∃ c, fq[i]? = some c := ⟨_, List.getElem?_eq_getElem hi'⟩
      have hcm : c ∈ fq := List.mem_of_getElem? hc
      obtain ⟨xs, ec, tc⟩ := rowN i c hc
      have lv : ∀ b o, H7 b = some o → b ∉ fq → H' b = some o := fun b o e nb => fr b o e fun z => nb (List.mem_of_mem_take z)
      have ec' : H' c = some (.lst xs) := fr _ _ (s37 _ _ ec) fun z => by
        obtain ⟨j, hj, e⟩ := List.mem_iff_getElem.mp z
        rw [List.length_take] at hj
        rw [List.getElem_take] at e
        have := (List.getElem?_eq_some_iff.mp hc)
        obtain ⟨h1, h2⟩ := this
        have := (List.getElem_inj (xs := fq) (i := j) (j := i) (h₀ := by omega) (h₁ := h1) nd4).mp (by rw [e, h2])
        omega
      have e4' : H' a4 = some (.lst us) := lv _ _ (s37 _ _ e4) na4
      have tk' : ThV TT0 H' (.ref ak) (.list (tabsL (skF m ws st b) n)) := tk7.mv fun b o z e => ⟨trivial, lv _ _ e fun hb => fq5 b hb z⟩
      obtain ⟨_, ks', ek, _, ek', tks'⟩ := th_lst tk'
      cases ek
      have hui : us[i]? = some (.ref c) := by rw [eus, List.getElem?_map, hc]; rfl
      obtain ⟨vk, hvk, tvk⟩ := atI_th tks' (atI_nat (tabs_get (f := skF m ws st b) hi))
      rw [Int.zero_add]
      refine ⟨fun σ' H'' => σ' = [some (.ref a), some (.ref hd0), some vl, some (.int st), some vb, some vg, some (.int ((most : Nat) : Int)), some (.ref a3), some (.ref a4), some (.ref ak), some (.int ((i : Nat) : Int)), none] ∧ H'' = H', ?_, ?_⟩
      · have L := LayN.tab (skF m ws st b i)
        refine ⟨_, rfl, _, rfl, a4, us, _, _, rfl, rfl, SqL.of e4', atI_nat hui, _, rfl, _, rfl, ak, ks', _, _, rfl, rfl, SqL.of ek', hvk, _, _, ThV.dat (F := TT0) (.lst trivial ec' (tab_any tc)) L.1, ThV.dat tvk L.1, L.1, L.1, L.dep (by decide) _, _, rfl, ?_⟩
        rw [L.same]
        exact iteF ⟨rfl, rfl⟩
      rintro σ' H'' ⟨rfl, rfl⟩
      refine ⟨_, rfl, _, rfl, a4, us, _, _, rfl, rfl, SqL.of e4', atI_nat hui, .inl ⟨rfl, xs, SqL.of ec'⟩, c, xs, rfl, rfl, ec', _, rfl, fun b o e nb => ?_⟩
      rw [List.take_add_one, hc] at nb
      have n1 : b ∉ fq.take i := fun z => nb (List.mem_append.mpr (.inl z))
      have n2 : b ≠ c := fun z => nb (List.mem_append.mpr (.inr (by rw [z]; exact List.mem_singleton.mpr rfl)))
      rw [upd_ne n2]
      exact fr b o e n1
    rintro σ' H' ⟨z, rfl, fr⟩
    rw [lus, Int.toNat_natCast, show fq.take n = fq by rw [← lfq, List.take_length]] at fr
    refine ⟨_, rfl, .inl ⟨rfl, us, SqL.of (fr _ _ (s37 _ _ e4) na4)⟩, a4, us, .int 3, rfl, rfl, fr _ _ (s37 _ _ e4) na4, by rw [lus, sizeLine_eq]; omega, ?_⟩
    obtain ⟨H8, hH8⟩ : ∃ H8, H8 = upd H' a4 (.lst (us ++ [.int 3])) := ⟨_, rfl⟩
    rw [← hH8]
    have f8 : ∀ b o, H7 b = some o → b ∉ fq → b ≠ a4 → H8 b = some o := fun b o e n1 n2 => by rw [hH8, upd_ne n2]; exact fr _ _ e n1
    have s28 : Same H2 H8 := fun b o e => f8 _ _ (s27 _ _ e) (fun z => by rw [fqN b z] at e; cases e) (fun z => by rw [z, nw4] at e; cases e)
    refine ⟨_, rfl, _, rfl, _, rfl, _, rfl, _, rfl, callA (E := E0) (SoonR m ws st b g most) (.cons (tlM s28) (.cons (.int _) (.cons (tbM s28) (.cons (tgM s28) (.cons (.int _) .nil))))) ⟨m, ws, st, b, g, most, rfl, ok, hb, hg, by omega, fun d h => h⟩ fun d v H9 fp9 hd9 T9 nd9 s9 => ?_⟩
    have tk9 : ThV TT0 H9 (.ref ak) (.list (tabsL (skF m ws st b) n)) := tk7.mv fun b o z e => ⟨trivial, s9 _ _ (f8 _ _ e (fun hb => fq5 b hb z) (fun hb => by rw [hb, s5 _ _ e4] at z; cases z))⟩
    rcases hd9 with ⟨rfl, hno9⟩ | ⟨L, nl9, l9, rfl, hL9, hno9, hen9, _, _, _, _, hwlk9⟩
    · have := hno9 n hL
      rw [henL] at this; cases this
    have eL : L = n := by
      rcases Nat.lt_trichotomy L n with c | c | c
      · have := hno L c
        rw [hen9] at this; cases this
      · exact c
      · have := hno9 n c
        rw [henL] at this; cases this
    subst eL
    have enl : nl9 = nl := by rw [← hwlk9, hwlk]
    subst enl
    obtain ⟨a9, xs9, rfl, _, e9, T3⟩ := fp_tup T9
    cases T3 with
    | @cons v1 _ _ _ f1 _ x1 T3 =>
    obtain ⟨v2, v3, f2, f3, rfl, rfl, T1, T2⟩ := fp_two T3
    have t5' : ThV TT0 H9 (.ref a5) (.list (numL nl9)) := .lst trivial (s9 _ _ (f8 _ _ (s37 _ _ e5) na5 n54)) (nums_any t5)
    have L1 : LayN 2 (.list (tabsL (skF m ws st b) L)) := LayN.lst fun d hd => by
      unfold tabsL at hd
      obtain ⟨k, _, rfl⟩ := List.mem_map.mp hd
      exact LayN.tab _
    have L2 : LayN 1 (.list (numL nl9)) := LayN.lst fun d hd => by
      unfold numL at hd
      obtain ⟨k, _, rfl⟩ := List.mem_map.mp hd
      exact .int _
    refine ⟨_, rfl, .inr (.inl ⟨a9, _, 2, v3, rfl, rfl, SqT.of e9, rfl, _, rfl, _, _, ThV.dat T2.th L1.1, ThV.dat tk9 L1.1, L1.1, L1.1, L1.dep (by decide) _, _, rfl, ?_⟩)⟩
    rw [L1.same]
    refine iteT ⟨_, rfl, .inr (.inl ⟨a9, _, 1, v2, rfl, rfl, SqT.of e9, rfl, _, rfl, .inr (.inl ⟨a3, _, 1, .ref a5, rfl, rfl, SqT.of (s9 _ _ (f8 _ _ (s37 _ _ e3) (fun z => ?_) (fun z => ?_))), rfl, _, _, ThV.dat T1.th L2.1, ThV.dat t5' L2.1, L2.1, L2.1, L2.dep (by decide) _, ?_⟩)⟩)⟩
    · obtain ⟨_, xs, ex⟩ := T4.mem a3 z
      rw [e3] at ex; cases ex
    · rw [z, e4] at e3; cases e3
    · rw [L2.same]
      exact k _
end
section
variable {P : Program} {w : World} {K : PySem.W.Frag} {mg : Str → Option Value} {base : Heap}
theorem all_mk {l : PySem.W.OpenLaw} {w : World} {K : PySem.W.Frag} {h : Heap} {mg : Str → Option Value} {fa : Addr} (X : K.In h) (G : h.Ns mainGlobals mg) (hfa : mg "law" = some (.ref fa))
    {f0 : Addr} {od0 an0 : Option Addr} {sl0 : Array (Option Value)} {oc0 kV0 dc0 pm0 cd0 ct0 : Value} (a0 : PySem.W.nsIn K mainGlobals "is_whole" = some (some (.ref f0))) (l0 : K.lookup f0 = some ⟨oc0, od0, .func (PySem.W.fnOf "is_whole" "is_whole" (defArgs s_is_whole) (defBody s_is_whole) (defScope s_is_whole) .none kV0 dc0 pm0 an0 cd0 ct0), sl0⟩) (c0 : PySem.W.codeIn K cd0 "is_whole" = true) (k0 : PySem.W.keepIn K (.ref f0) = true)
    {f1 : Addr} {od1 an1 : Option Addr} {sl1 : Array (Option Value)} {oc1 kV1 dc1 pm1 cd1 ct1 : Value} (a1 : PySem.W.nsIn K mainGlobals "is_level" = some (some (.ref f1))) (l1 : K.lookup f1 = some ⟨oc1, od1, .func (PySem.W.fnOf "is_level" "is_level" (defArgs s_is_level) (defBody s_is_level) (defScope s_is_level) .none kV1 dc1 pm1 an1 cd1 ct1), sl1⟩) (c1 : PySem.W.codeIn K cd1 "is_level" = true) (k1 : PySem.W.keepIn K (.ref f1) = true)
    {f2 : Addr} {od2 an2 : Option Addr} {sl2 : Array (Option Value)} {oc2 kV2 dc2 pm2 cd2 ct2 : Value} (a2 : PySem.W.nsIn K mainGlobals "stepped" = some (some (.ref f2))) (l2 : K.lookup f2 = some ⟨oc2, od2, .func (PySem.W.fnOf "stepped" "stepped" (defArgs s_stepped) (defBody s_stepped) (defScope s_stepped) .none kV2 dc2 pm2 an2 cd2 ct2), sl2⟩) (c2 : PySem.W.codeIn K cd2 "stepped" = true) (k2 : PySem.W.keepIn K (.ref f2) = true)
    {f3 : Addr} {od3 an3 : Option Addr} {sl3 : Array (Option Value)} {oc3 kV3 dc3 pm3 cd3 ct3 : Value} (a3 : PySem.W.nsIn K mainGlobals "is_table" = some (some (.ref f3))) (l3 : K.lookup f3 = some ⟨oc3, od3, .func (PySem.W.fnOf "is_table" "is_table" (defArgs s_is_table) (defBody s_is_table) (defScope s_is_table) .none kV3 dc3 pm3 an3 cd3 ct3), sl3⟩) (c3 : PySem.W.codeIn K cd3 "is_table" = true) (k3 : PySem.W.keepIn K (.ref f3) = true)
    {f4 : Addr} {od4 an4 : Option Addr} {sl4 : Array (Option Value)} {oc4 kV4 dc4 pm4 cd4 ct4 : Value} (a4 : PySem.W.nsIn K mainGlobals "are_tables" = some (some (.ref f4))) (l4 : K.lookup f4 = some ⟨oc4, od4, .func (PySem.W.fnOf "are_tables" "are_tables" (defArgs s_are_tables) (defBody s_are_tables) (defScope s_are_tables) .none kV4 dc4 pm4 an4 cd4 ct4), sl4⟩) (c4 : PySem.W.codeIn K cd4 "are_tables" = true) (k4 : PySem.W.keepIn K (.ref f4) = true)
    {f5 : Addr} {od5 an5 : Option Addr} {sl5 : Array (Option Value)} {oc5 kV5 dc5 pm5 cd5 ct5 : Value} (a5 : PySem.W.nsIn K mainGlobals "is_more" = some (some (.ref f5))) (l5 : K.lookup f5 = some ⟨oc5, od5, .func (PySem.W.fnOf "is_more" "is_more" (defArgs s_is_more) (defBody s_is_more) (defScope s_is_more) .none kV5 dc5 pm5 an5 cd5 ct5), sl5⟩) (c5 : PySem.W.codeIn K cd5 "is_more" = true) (k5 : PySem.W.keepIn K (.ref f5) = true)
    {f6 : Addr} {od6 an6 : Option Addr} {sl6 : Array (Option Value)} {oc6 kV6 dc6 pm6 cd6 ct6 : Value} (a6 : PySem.W.nsIn K mainGlobals "behind_way" = some (some (.ref f6))) (l6 : K.lookup f6 = some ⟨oc6, od6, .func (PySem.W.fnOf "behind_way" "behind_way" (defArgs s_behind_way) (defBody s_behind_way) (defScope s_behind_way) .none kV6 dc6 pm6 an6 cd6 ct6), sl6⟩) (c6 : PySem.W.codeIn K cd6 "behind_way" = true) (k6 : PySem.W.keepIn K (.ref f6) = true)
    {f7 : Addr} {od7 an7 : Option Addr} {sl7 : Array (Option Value)} {oc7 kV7 dc7 pm7 cd7 ct7 : Value} (a7 : PySem.W.nsIn K mainGlobals "covers" = some (some (.ref f7))) (l7 : K.lookup f7 = some ⟨oc7, od7, .func (PySem.W.fnOf "covers" "covers" (defArgs s_covers) (defBody s_covers) (defScope s_covers) .none kV7 dc7 pm7 an7 cd7 ct7), sl7⟩) (c7 : PySem.W.codeIn K cd7 "covers" = true) (k7 : PySem.W.keepIn K (.ref f7) = true)
    {f8 : Addr} {od8 an8 : Option Addr} {sl8 : Array (Option Value)} {oc8 kV8 dc8 pm8 cd8 ct8 : Value} (a8 : PySem.W.nsIn K mainGlobals "leads_within" = some (some (.ref f8))) (l8 : K.lookup f8 = some ⟨oc8, od8, .func (PySem.W.fnOf "leads_within" "leads_within" (defArgs s_leads_within) (defBody s_leads_within) (defScope s_leads_within) .none kV8 dc8 pm8 an8 cd8 ct8), sl8⟩) (c8 : PySem.W.codeIn K cd8 "leads_within" = true) (k8 : PySem.W.keepIn K (.ref f8) = true)
    {f9 : Addr} {od9 an9 : Option Addr} {sl9 : Array (Option Value)} {oc9 kV9 dc9 pm9 cd9 ct9 : Value} (a9 : PySem.W.nsIn K mainGlobals "first_row" = some (some (.ref f9))) (l9 : K.lookup f9 = some ⟨oc9, od9, .func (PySem.W.fnOf "first_row" "first_row" (defArgs s_first_row) (defBody s_first_row) (defScope s_first_row) .none kV9 dc9 pm9 an9 cd9 ct9), sl9⟩) (c9 : PySem.W.codeIn K cd9 "first_row" = true) (k9 : PySem.W.keepIn K (.ref f9) = true)
    {f10 : Addr} {od10 an10 : Option Addr} {sl10 : Array (Option Value)} {oc10 kV10 dc10 pm10 cd10 ct10 : Value} (a10 : PySem.W.nsIn K mainGlobals "row_behind" = some (some (.ref f10))) (l10 : K.lookup f10 = some ⟨oc10, od10, .func (PySem.W.fnOf "row_behind" "row_behind" (defArgs s_row_behind) (defBody s_row_behind) (defScope s_row_behind) .none kV10 dc10 pm10 an10 cd10 ct10), sl10⟩) (c10 : PySem.W.codeIn K cd10 "row_behind" = true) (k10 : PySem.W.keepIn K (.ref f10) = true)
    {f11 : Addr} {od11 an11 : Option Addr} {sl11 : Array (Option Value)} {oc11 kV11 dc11 pm11 cd11 ct11 : Value} (a11 : PySem.W.nsIn K mainGlobals "walk_to" = some (some (.ref f11))) (l11 : K.lookup f11 = some ⟨oc11, od11, .func (PySem.W.fnOf "walk_to" "walk_to" (defArgs s_walk_to) (defBody s_walk_to) (defScope s_walk_to) .none kV11 dc11 pm11 an11 cd11 ct11), sl11⟩) (c11 : PySem.W.codeIn K cd11 "walk_to" = true) (k11 : PySem.W.keepIn K (.ref f11) = true)
    {f12 : Addr} {od12 an12 : Option Addr} {sl12 : Array (Option Value)} {oc12 kV12 dc12 pm12 cd12 ct12 : Value} (a12 : PySem.W.nsIn K mainGlobals "base_at" = some (some (.ref f12))) (l12 : K.lookup f12 = some ⟨oc12, od12, .func (PySem.W.fnOf "base_at" "base_at" (defArgs s_base_at) (defBody s_base_at) (defScope s_base_at) .none kV12 dc12 pm12 an12 cd12 ct12), sl12⟩) (c12 : PySem.W.codeIn K cd12 "base_at" = true) (k12 : PySem.W.keepIn K (.ref f12) = true)
    {f13 : Addr} {od13 an13 : Option Addr} {sl13 : Array (Option Value)} {oc13 kV13 dc13 pm13 cd13 ct13 : Value} (a13 : PySem.W.nsIn K mainGlobals "has_enough" = some (some (.ref f13))) (l13 : K.lookup f13 = some ⟨oc13, od13, .func (PySem.W.fnOf "has_enough" "has_enough" (defArgs s_has_enough) (defBody s_has_enough) (defScope s_has_enough) .none kV13 dc13 pm13 an13 cd13 ct13), sl13⟩) (c13 : PySem.W.codeIn K cd13 "has_enough" = true) (k13 : PySem.W.keepIn K (.ref f13) = true)
    {f14 : Addr} {od14 an14 : Option Addr} {sl14 : Array (Option Value)} {oc14 kV14 dc14 pm14 cd14 ct14 : Value} (a14 : PySem.W.nsIn K mainGlobals "soonest" = some (some (.ref f14))) (l14 : K.lookup f14 = some ⟨oc14, od14, .func (PySem.W.fnOf "soonest" "soonest" (defArgs s_soonest) (defBody s_soonest) (defScope s_soonest) .none kV14 dc14 pm14 an14 cd14 ct14), sl14⟩) (c14 : PySem.W.codeIn K cd14 "soonest" = true) (k14 : PySem.W.keepIn K (.ref f14) = true)
    {f15 : Addr} {od15 an15 : Option Addr} {sl15 : Array (Option Value)} {oc15 kV15 dc15 pm15 cd15 ct15 : Value} (a15 : PySem.W.nsIn K mainGlobals "is_showing" = some (some (.ref f15))) (l15 : K.lookup f15 = some ⟨oc15, od15, .func (PySem.W.fnOf "is_showing" "is_showing" (defArgs s_is_showing) (defBody s_is_showing) (defScope s_is_showing) .none kV15 dc15 pm15 an15 cd15 ct15), sl15⟩) (c15 : PySem.W.codeIn K cd15 "is_showing" = true) (k15 : PySem.W.keepIn K (.ref f15) = true)
    {f16 : Addr} {od16 an16 : Option Addr} {sl16 : Array (Option Value)} {oc16 kV16 dc16 pm16 cd16 ct16 : Value} (a16 : PySem.W.nsIn K mainGlobals "_law_hand" = some (some (.ref f16))) (l16 : K.lookup f16 = some ⟨oc16, od16, .func (PySem.W.fnOf "_law_hand" "_law_hand" (defArgs s_hand) (defBody s_hand) (defScope s_hand) .none kV16 dc16 pm16 an16 cd16 ct16), sl16⟩) (c16 : PySem.W.codeIn K cd16 "_law_hand" = true) (k16 : PySem.W.keepIn K (.ref f16) = true)
    {f17 : Addr} {od17 an17 : Option Addr} {sl17 : Array (Option Value)} {oc17 kV17 dc17 pm17 cd17 ct17 : Value} (a17 : PySem.W.nsIn K mainGlobals "_law_next" = some (some (.ref f17))) (l17 : K.lookup f17 = some ⟨oc17, od17, .func (PySem.W.fnOf "_law_next" "_law_next" (defArgs s_next) (defBody s_next) (defScope s_next) .none kV17 dc17 pm17 an17 cd17 ct17), sl17⟩) (c17 : PySem.W.codeIn K cd17 "_law_next" = true) (k17 : PySem.W.keepIn K (.ref f17) = true)
    {f18 : Addr} {od18 an18 : Option Addr} {sl18 : Array (Option Value)} {oc18 kV18 dc18 pm18 cd18 ct18 : Value} (a18 : PySem.W.nsIn K mainGlobals "_law_take" = some (some (.ref f18))) (l18 : K.lookup f18 = some ⟨oc18, od18, .func (PySem.W.fnOf "_law_take" "_law_take" (defArgs s_take) (defBody s_take) (defScope s_take) .none kV18 dc18 pm18 an18 cd18 ct18), sl18⟩) (c18 : PySem.W.codeIn K cd18 "_law_take" = true) (k18 : PySem.W.keepIn K (.ref f18) = true)
    {f19 : Addr} {od19 an19 : Option Addr} {sl19 : Array (Option Value)} {oc19 kV19 dc19 pm19 cd19 ct19 : Value} (a19 : PySem.W.nsIn K mainGlobals "_law_draw" = some (some (.ref f19))) (l19 : K.lookup f19 = some ⟨oc19, od19, .func (PySem.W.fnOf "_law_draw" "_law_draw" (defArgs s_draw) (defBody s_draw) (defScope s_draw) .none kV19 dc19 pm19 an19 cd19 ct19), sl19⟩) (c19 : PySem.W.codeIn K cd19 "_law_draw" = true) (k19 : PySem.W.keepIn K (.ref f19) = true)
    {f20 : Addr} {od20 an20 : Option Addr} {sl20 : Array (Option Value)} {oc20 kV20 dc20 pm20 cd20 ct20 : Value} (a20 : PySem.W.nsIn K mainGlobals "_law_scale" = some (some (.ref f20))) (l20 : K.lookup f20 = some ⟨oc20, od20, .func (PySem.W.fnOf "_law_scale" "_law_scale" (defArgs s_scale) (defBody s_scale) (defScope s_scale) .none kV20 dc20 pm20 an20 cd20 ct20), sl20⟩) (c20 : PySem.W.codeIn K cd20 "_law_scale" = true) (k20 : PySem.W.keepIn K (.ref f20) = true)
    {f21 : Addr} {od21 an21 : Option Addr} {sl21 : Array (Option Value)} {oc21 kV21 dc21 pm21 cd21 ct21 : Value} (a21 : PySem.W.nsIn K mainGlobals "_law_change" = some (some (.ref f21))) (l21 : K.lookup f21 = some ⟨oc21, od21, .func (PySem.W.fnOf "_law_change" "_law_change" (defArgs s_change) (defBody s_change) (defScope s_change) .none kV21 dc21 pm21 an21 cd21 ct21), sl21⟩) (c21 : PySem.W.codeIn K cd21 "_law_change" = true) (k21 : PySem.W.keepIn K (.ref f21) = true)
    {f22 : Addr} {od22 an22 : Option Addr} {sl22 : Array (Option Value)} {oc22 kV22 dc22 pm22 cd22 ct22 : Value} (a22 : PySem.W.nsIn K mainGlobals "_law_land" = some (some (.ref f22))) (l22 : K.lookup f22 = some ⟨oc22, od22, .func (PySem.W.fnOf "_law_land" "_law_land" (defArgs s_land) (defBody s_land) (defScope s_land) .none kV22 dc22 pm22 an22 cd22 ct22), sl22⟩) (c22 : PySem.W.codeIn K cd22 "_law_land" = true) (k22 : PySem.W.keepIn K (.ref f22) = true)
    {f23 : Addr} {od23 an23 : Option Addr} {sl23 : Array (Option Value)} {oc23 kV23 dc23 pm23 cd23 ct23 : Value} (a23 : PySem.W.nsIn K mainGlobals "_law_step" = some (some (.ref f23))) (l23 : K.lookup f23 = some ⟨oc23, od23, .func (PySem.W.fnOf "_law_step" "_law_step" (defArgs s_step) (defBody s_step) (defScope s_step) .none kV23 dc23 pm23 an23 cd23 ct23), sl23⟩) (c23 : PySem.W.codeIn K cd23 "_law_step" = true) (k23 : PySem.W.keepIn K (.ref f23) = true)
    {f24 : Addr} {od24 an24 : Option Addr} {sl24 : Array (Option Value)} {oc24 kV24 dc24 pm24 cd24 ct24 : Value} (a24 : PySem.W.nsIn K mainGlobals "_law_is_whole" = some (some (.ref f24))) (l24 : K.lookup f24 = some ⟨oc24, od24, .func (PySem.W.fnOf "_law_is_whole" "_law_is_whole" (defArgs s_law_is_whole) (defBody s_law_is_whole) (defScope s_law_is_whole) .none kV24 dc24 pm24 an24 cd24 ct24), sl24⟩) (c24 : PySem.W.codeIn K cd24 "_law_is_whole" = true) (k24 : PySem.W.keepIn K (.ref f24) = true)
    {f25 : Addr} {od25 an25 : Option Addr} {sl25 : Array (Option Value)} {oc25 kV25 dc25 pm25 cd25 ct25 : Value} (a25 : PySem.W.nsIn K mainGlobals "_law_is_table" = some (some (.ref f25))) (l25 : K.lookup f25 = some ⟨oc25, od25, .func (PySem.W.fnOf "_law_is_table" "_law_is_table" (defArgs s_law_is_table) (defBody s_law_is_table) (defScope s_law_is_table) .none kV25 dc25 pm25 an25 cd25 ct25), sl25⟩) (c25 : PySem.W.codeIn K cd25 "_law_is_table" = true) (k25 : PySem.W.keepIn K (.ref f25) = true)
    {f26 : Addr} {od26 an26 : Option Addr} {sl26 : Array (Option Value)} {oc26 kV26 dc26 pm26 cd26 ct26 : Value} (a26 : PySem.W.nsIn K mainGlobals "_law_one" = some (some (.ref f26))) (l26 : K.lookup f26 = some ⟨oc26, od26, .func (PySem.W.fnOf "_law_one" "_law_one" (defArgs s_one) (defBody s_one) (defScope s_one) .none kV26 dc26 pm26 an26 cd26 ct26), sl26⟩) (c26 : PySem.W.codeIn K cd26 "_law_one" = true) (k26 : PySem.W.keepIn K (.ref f26) = true)
    {f27 : Addr} {od27 an27 : Option Addr} {sl27 : Array (Option Value)} {oc27 kV27 dc27 pm27 cd27 ct27 : Value} (a27 : PySem.W.nsIn K mainGlobals "_law_further" = some (some (.ref f27))) (l27 : K.lookup f27 = some ⟨oc27, od27, .func (PySem.W.fnOf "_law_further" "_law_further" (defArgs s_further) (defBody s_further) (defScope s_further) .none kV27 dc27 pm27 an27 cd27 ct27), sl27⟩) (c27 : PySem.W.codeIn K cd27 "_law_further" = true) (k27 : PySem.W.keepIn K (.ref f27) = true)
    {f28 : Addr} {od28 an28 : Option Addr} {sl28 : Array (Option Value)} {oc28 kV28 dc28 pm28 cd28 ct28 : Value} (a28 : PySem.W.nsIn K mainGlobals "_law_scene" = some (some (.ref f28))) (l28 : K.lookup f28 = some ⟨oc28, od28, .func (PySem.W.fnOf "_law_scene" "_law_scene" (defArgs s_scene) (defBody s_scene) (defScope s_scene) .none kV28 dc28 pm28 an28 cd28 ct28), sl28⟩) (c28 : PySem.W.codeIn K cd28 "_law_scene" = true) (k28 : PySem.W.keepIn K (.ref f28) = true)
    {f29 : Addr} {od29 an29 : Option Addr} {sl29 : Array (Option Value)} {oc29 kV29 dc29 pm29 cd29 ct29 : Value} (a29 : PySem.W.nsIn K mainGlobals "_law_enough" = some (some (.ref f29))) (l29 : K.lookup f29 = some ⟨oc29, od29, .func (PySem.W.fnOf "_law_enough" "_law_enough" (defArgs s_enough) (defBody s_enough) (defScope s_enough) .none kV29 dc29 pm29 an29 cd29 ct29), sl29⟩) (c29 : PySem.W.codeIn K cd29 "_law_enough" = true) (k29 : PySem.W.keepIn K (.ref f29) = true)
    {f30 : Addr} {od30 an30 : Option Addr} {sl30 : Array (Option Value)} {oc30 kV30 dc30 pm30 cd30 ct30 : Value} (a30 : PySem.W.nsIn K mainGlobals "_law_rows_right" = some (some (.ref f30))) (l30 : K.lookup f30 = some ⟨oc30, od30, .func (PySem.W.fnOf "_law_rows_right" "_law_rows_right" (defArgs s_rows_right) (defBody s_rows_right) (defScope s_rows_right) .none kV30 dc30 pm30 an30 cd30 ct30), sl30⟩) (c30 : PySem.W.codeIn K cd30 "_law_rows_right" = true) (k30 : PySem.W.keepIn K (.ref f30) = true)
    {f31 : Addr} {od31 an31 : Option Addr} {sl31 : Array (Option Value)} {oc31 kV31 dc31 pm31 cd31 ct31 : Value} (a31 : PySem.W.nsIn K mainGlobals "_law_walks" = some (some (.ref f31))) (l31 : K.lookup f31 = some ⟨oc31, od31, .func (PySem.W.fnOf "_law_walks" "_law_walks" (defArgs s_walks) (defBody s_walks) (defScope s_walks) .none kV31 dc31 pm31 an31 cd31 ct31), sl31⟩) (c31 : PySem.W.codeIn K cd31 "_law_walks" = true) (k31 : PySem.W.keepIn K (.ref f31) = true)
    {f32 : Addr} {od32 an32 : Option Addr} {sl32 : Array (Option Value)} {oc32 kV32 dc32 pm32 cd32 ct32 : Value} (a32 : PySem.W.nsIn K mainGlobals "law" = some (some (.ref f32))) (l32 : K.lookup f32 = some ⟨oc32, od32, .func (PySem.W.fnOf "law" "law" (defArgs s_law) (defBody s_law) (defScope s_law) .none kV32 dc32 pm32 an32 cd32 ct32), sl32⟩) (c32 : PySem.W.codeIn K cd32 "law" = true) (k32 : PySem.W.keepIn K (.ref f32) = true)
    {tk_MANY : Tok} (q_MANY : PySem.W.nsIn K mainGlobals "MANY" = some (some (.int 0 tk_MANY)))
    {tk_WAYS : Tok} (q_WAYS : PySem.W.nsIn K mainGlobals "WAYS" = some (some (.int 1 tk_WAYS)))
    {tk_START : Tok} (q_START : PySem.W.nsIn K mainGlobals "START" = some (some (.int 0 tk_START)))
    {tk_END : Tok} (q_END : PySem.W.nsIn K mainGlobals "END" = some (some (.int 1 tk_END)))
    {tk_CHANGE : Tok} (q_CHANGE : PySem.W.nsIn K mainGlobals "CHANGE" = some (some (.int 2 tk_CHANGE)))
    {tk_TABLE : Tok} (q_TABLE : PySem.W.nsIn K mainGlobals "TABLE" = some (some (.int 0 tk_TABLE)))
    {tk_RISEN : Tok} (q_RISEN : PySem.W.nsIn K mainGlobals "RISEN" = some (some (.int 1 tk_RISEN)))
    {tk_BY : Tok} (q_BY : PySem.W.nsIn K mainGlobals "BY" = some (some (.int 1 tk_BY)))
    {tk_PLACE : Tok} (q_PLACE : PySem.W.nsIn K mainGlobals "PLACE" = some (some (.int 0 tk_PLACE)))
    {tk_LEVEL : Tok} (q_LEVEL : PySem.W.nsIn K mainGlobals "LEVEL" = some (some (.int 1 tk_LEVEL)))
    (z_abs : PySem.W.nsIn K mainGlobals "abs" = some none)
    (z_all : PySem.W.nsIn K mainGlobals "all" = some none)
    (z_any : PySem.W.nsIn K mainGlobals "any" = some none)
    (z_bool : PySem.W.nsIn K mainGlobals "bool" = some none)
    (z_enumerate : PySem.W.nsIn K mainGlobals "enumerate" = some none)
    (z_int : PySem.W.nsIn K mainGlobals "int" = some none)
    (z_isinstance : PySem.W.nsIn K mainGlobals "isinstance" = some none)
    (z_len : PySem.W.nsIn K mainGlobals "len" = some none)
    (z_list : PySem.W.nsIn K mainGlobals "list" = some none)
    (z_min : PySem.W.nsIn K mainGlobals "min" = some none)
    (z_range : PySem.W.nsIn K mainGlobals "range" = some none)
    (z_reversed : PySem.W.nsIn K mainGlobals "reversed" = some none)
    (z_tuple : PySem.W.nsIn K mainGlobals "tuple" = some none)
    (z_zip : PySem.W.nsIn K mainGlobals "zip" = some none) :
    ∃ fd : FuncData, (∀ (s : Shared) (v : Value), BindsTo s fd ⟨[v], []⟩ [("_law_script", v)]) ∧ ∀ base : Heap, K.In base → base.Ns mainGlobals mg → FnOk l.prog w K mg base CX0 9 fa fd ["_law_script"] (spLaw K) := by
  have e := hfa.symm.trans (PySem.W.mg_of X G a32)
  cases e
  let T : Txt K mg := {
    n_abs := PySem.W.mg_none_of X G z_abs,
    n_all := PySem.W.mg_none_of X G z_all,
    n_any := PySem.W.mg_none_of X G z_any,
    n_bool := PySem.W.mg_none_of X G z_bool,
    n_enumerate := PySem.W.mg_none_of X G z_enumerate,
    n_int := PySem.W.mg_none_of X G z_int,
    n_isinstance := PySem.W.mg_none_of X G z_isinstance,
    n_len := PySem.W.mg_none_of X G z_len,
    n_list := PySem.W.mg_none_of X G z_list,
    n_min := PySem.W.mg_none_of X G z_min,
    n_range := PySem.W.mg_none_of X G z_range,
    n_reversed := PySem.W.mg_none_of X G z_reversed,
    n_tuple := PySem.W.mg_none_of X G z_tuple,
    n_zip := PySem.W.mg_none_of X G z_zip,
    t_MANY := tk_MANY, mg_MANY := PySem.W.mg_of X G q_MANY,
    t_WAYS := tk_WAYS, mg_WAYS := PySem.W.mg_of X G q_WAYS,
    t_START := tk_START, mg_START := PySem.W.mg_of X G q_START,
    t_END := tk_END, mg_END := PySem.W.mg_of X G q_END,
    t_CHANGE := tk_CHANGE, mg_CHANGE := PySem.W.mg_of X G q_CHANGE,
    t_TABLE := tk_TABLE, mg_TABLE := PySem.W.mg_of X G q_TABLE,
    t_RISEN := tk_RISEN, mg_RISEN := PySem.W.mg_of X G q_RISEN,
    t_BY := tk_BY, mg_BY := PySem.W.mg_of X G q_BY,
    t_PLACE := tk_PLACE, mg_PLACE := PySem.W.mg_of X G q_PLACE,
    t_LEVEL := tk_LEVEL, mg_LEVEL := PySem.W.mg_of X G q_LEVEL,
    a_is_whole := f0, d_is_whole := _, F_is_whole := fun_mk (st := s_is_whole) l0 c0 k0, mg_is_whole := PySem.W.mg_of X G a0, kp_is_whole := k0,
    a_is_level := f1, d_is_level := _, F_is_level := fun_mk (st := s_is_level) l1 c1 k1, mg_is_level := PySem.W.mg_of X G a1, kp_is_level := k1,
    a_stepped := f2, d_stepped := _, F_stepped := fun_mk (st := s_stepped) l2 c2 k2, mg_stepped := PySem.W.mg_of X G a2, kp_stepped := k2,
    a_is_table := f3, d_is_table := _, F_is_table := fun_mk (st := s_is_table) l3 c3 k3, mg_is_table := PySem.W.mg_of X G a3, kp_is_table := k3,
    a_are_tables := f4, d_are_tables := _, F_are_tables := fun_mk (st := s_are_tables) l4 c4 k4, mg_are_tables := PySem.W.mg_of X G a4, kp_are_tables := k4,
    a_is_more := f5, d_is_more := _, F_is_more := fun_mk (st := s_is_more) l5 c5 k5, mg_is_more := PySem.W.mg_of X G a5, kp_is_more := k5,
    a_behind_way := f6, d_behind_way := _, F_behind_way := fun_mk (st := s_behind_way) l6 c6 k6, mg_behind_way := PySem.W.mg_of X G a6, kp_behind_way := k6,
    a_covers := f7, d_covers := _, F_covers := fun_mk (st := s_covers) l7 c7 k7, mg_covers := PySem.W.mg_of X G a7, kp_covers := k7,
    a_leads_within := f8, d_leads_within := _, F_leads_within := fun_mk (st := s_leads_within) l8 c8 k8, mg_leads_within := PySem.W.mg_of X G a8, kp_leads_within := k8,
    a_first_row := f9, d_first_row := _, F_first_row := fun_mk (st := s_first_row) l9 c9 k9, mg_first_row := PySem.W.mg_of X G a9, kp_first_row := k9,
    a_row_behind := f10, d_row_behind := _, F_row_behind := fun_mk (st := s_row_behind) l10 c10 k10, mg_row_behind := PySem.W.mg_of X G a10, kp_row_behind := k10,
    a_walk_to := f11, d_walk_to := _, F_walk_to := fun_mk (st := s_walk_to) l11 c11 k11, mg_walk_to := PySem.W.mg_of X G a11, kp_walk_to := k11,
    a_base_at := f12, d_base_at := _, F_base_at := fun_mk (st := s_base_at) l12 c12 k12, mg_base_at := PySem.W.mg_of X G a12, kp_base_at := k12,
    a_has_enough := f13, d_has_enough := _, F_has_enough := fun_mk (st := s_has_enough) l13 c13 k13, mg_has_enough := PySem.W.mg_of X G a13, kp_has_enough := k13,
    a_soonest := f14, d_soonest := _, F_soonest := fun_mk (st := s_soonest) l14 c14 k14, mg_soonest := PySem.W.mg_of X G a14, kp_soonest := k14,
    a_is_showing := f15, d_is_showing := _, F_is_showing := fun_mk (st := s_is_showing) l15 c15 k15, mg_is_showing := PySem.W.mg_of X G a15, kp_is_showing := k15,
    a_hand := f16, d_hand := _, F_hand := fun_mk (st := s_hand) l16 c16 k16, mg_hand := PySem.W.mg_of X G a16, kp_hand := k16,
    a_next := f17, d_next := _, F_next := fun_mk (st := s_next) l17 c17 k17, mg_next := PySem.W.mg_of X G a17, kp_next := k17,
    a_take := f18, d_take := _, F_take := fun_mk (st := s_take) l18 c18 k18, mg_take := PySem.W.mg_of X G a18, kp_take := k18,
    a_draw := f19, d_draw := _, F_draw := fun_mk (st := s_draw) l19 c19 k19, mg_draw := PySem.W.mg_of X G a19, kp_draw := k19,
    a_scale := f20, d_scale := _, F_scale := fun_mk (st := s_scale) l20 c20 k20, mg_scale := PySem.W.mg_of X G a20, kp_scale := k20,
    a_change := f21, d_change := _, F_change := fun_mk (st := s_change) l21 c21 k21, mg_change := PySem.W.mg_of X G a21, kp_change := k21,
    a_land := f22, d_land := _, F_land := fun_mk (st := s_land) l22 c22 k22, mg_land := PySem.W.mg_of X G a22, kp_land := k22,
    a_step := f23, d_step := _, F_step := fun_mk (st := s_step) l23 c23 k23, mg_step := PySem.W.mg_of X G a23, kp_step := k23,
    a_law_is_whole := f24, d_law_is_whole := _, F_law_is_whole := fun_mk (st := s_law_is_whole) l24 c24 k24, mg_law_is_whole := PySem.W.mg_of X G a24, kp_law_is_whole := k24,
    a_law_is_table := f25, d_law_is_table := _, F_law_is_table := fun_mk (st := s_law_is_table) l25 c25 k25, mg_law_is_table := PySem.W.mg_of X G a25, kp_law_is_table := k25,
    a_one := f26, d_one := _, F_one := fun_mk (st := s_one) l26 c26 k26, mg_one := PySem.W.mg_of X G a26, kp_one := k26,
    a_further := f27, d_further := _, F_further := fun_mk (st := s_further) l27 c27 k27, mg_further := PySem.W.mg_of X G a27, kp_further := k27,
    a_scene := f28, d_scene := _, F_scene := fun_mk (st := s_scene) l28 c28 k28, mg_scene := PySem.W.mg_of X G a28, kp_scene := k28,
    a_enough := f29, d_enough := _, F_enough := fun_mk (st := s_enough) l29 c29 k29, mg_enough := PySem.W.mg_of X G a29, kp_enough := k29,
    a_rows_right := f30, d_rows_right := _, F_rows_right := fun_mk (st := s_rows_right) l30 c30 k30, mg_rows_right := PySem.W.mg_of X G a30, kp_rows_right := k30,
    a_walks := f31, d_walks := _, F_walks := fun_mk (st := s_walks) l31 c31 k31, mg_walks := PySem.W.mg_of X G a31, kp_walks := k31,
    a_law := fa, d_law := _, F_law := fun_mk (st := s_law) l32 c32 k32, mg_law := PySem.W.mg_of X G a32, kp_law := k32 }
  exact ⟨PySem.W.fnOf "law" "law" (defArgs s_law) (defBody s_law) (defScope s_law) .none kV32 dc32 pm32 an32 cd32 ct32, fun s v => .of_eq rfl, fun base _ _ => ok_law T⟩
end
theorem walk {l : PySem.W.OpenLaw} {q : Program} {loose : List Str} {XP : (Str → Option Value) → Heap → Prop} {YP : World → Heap → Prop} {d : DefRec} {K : Params → PySem.W.Frag} (hn : l.most = some 63) (hdf : d.params.defaults = [])
    (hY : ∀ (w : World) (h : Heap), YP w h → (K w.params).In h)
    (F : ∀ (w : World) (mg : Str → Option Value) (fa : Addr) (h : Heap), (K w.params).In h → h.Ns mainGlobals mg → mg d.name = some (.ref fa) →
      ∃ fd : FuncData, (∀ (s : Shared) (u : Value), BindsTo s fd ⟨[u], []⟩ [("_law_script", u)]) ∧ ∀ base : Heap, (K w.params).In base → base.Ns mainGlobals mg → FnOk l.prog w (K w.params) mg base CX0 9 fa fd ["_law_script"] (spLaw (K w.params))) :
    PySem.W.WalkO q loose XP YP l.row.toRowW d [] (fun f vs => PySem.call f vs) :=
  L2.walk_of (n := 63) (k := 9) (x := "_law_script") (CX := fun _ => CX0) (sp := fun w => spLaw (K w.params)) hn (by decide) hdf ⟨rfl, by decide, by decide, rfl⟩ hY F (fun _ _ a ns hl _ hS => ⟨a, ns, rfl, hS, hl, fun _ => rfl⟩) fun _ _ _ _ _ z => z
end My
def PySem.W.Fast.tw2539416860741972051 : Unit := ()
def PySem.W.Fast.tw17948254269381697745 : Unit := ()
def PySem.W.Fast.tw12820356659516392878 : Unit := ()
def PySem.W.Fast.tw7088525747144649629 : Unit := ()
def PySem.W.Fast.tw13052269832230440920 : Unit := ()
def PySem.W.Fast.tw11826417916104546481 : Unit := ()
def PySem.W.Fast.tw3181701305694448002 : Unit := ()
def PySem.W.Fast.tw946564964813587175 : Unit := ()
def PySem.W.Fast.tw8173012458205094250 : Unit := ()
def PySem.W.Fast.tw4764444143182757703 : Unit := ()
def PySem.W.Fast.tw11401907307024324926 : Unit := ()
def PySem.W.Fast.tw16878578190767212361 : Unit := ()
def PySem.W.Fast.tw4426891130437754879 : Unit := ()
def PySem.W.Fast.tw908365512039099755 : Unit := ()
def PySem.W.Fast.tw3926273686715091651 : Unit := ()
def PySem.W.Fast.tw8739722713016361733 : Unit := ()
def PySem.W.Fast.tw6949228239576485515 : Unit := ()
def PySem.W.Fast.tw7070875017993257502 : Unit := ()
def PySem.W.Fast.tw7978371855502646302 : Unit := ()
def PySem.W.Fast.tw11132260285533169594 : Unit := ()
def PySem.W.Fast.tw2279986909530941135 : Unit := ()
def PySem.W.Fast.tw10978132967440486900 : Unit := ()
def PySem.W.Fast.tw16922014112971187038 : Unit := ()
def PySem.W.Fast.tw6809775564324939958 : Unit := ()
def PySem.W.Fast.tw3236935822094592917 : Unit := ()
def PySem.W.Fast.tw16274722555237016783 : Unit := ()
def PySem.W.Fast.tw15778096863183578886 : Unit := ()
def PySem.W.Fast.tw4889682187090415299 : Unit := ()
def PySem.W.Fast.tw9018821548533909694 : Unit := ()
def PySem.W.Fast.tw441335312885923889 : Unit := ()
open PySem PySem.W PyProof.Rows
set_option maxRecDepth 100000 in
set_option maxHeartbeats 0 in
theorem PySem.Challenge.cw_trudge_k55_whole_rows_are_highest_holds : PySem.Challenge.rw_trudge_k55_whole_rows_are_highest.Holds := by
  w_on; o_law; k_head; (case hw => w_witness2)
  k_fill
  refine My.walk (l := PySem.Challenge.rw_trudge_k55_whole_rows_are_highest) rfl rfl (fun w h Y => PySem.W.kIn_of Y) ?F
  case F =>
    intro w mg fa h KX G hmg
    refine' My.all_mk KX G hmg ?a0 ?l0 ?c0 ?k0 ?a1 ?l1 ?c1 ?k1 ?a2 ?l2 ?c2 ?k2 ?a3 ?l3 ?c3 ?k3 ?a4 ?l4 ?c4 ?k4 ?a5 ?l5 ?c5 ?k5 ?a6 ?l6 ?c6 ?k6 ?a7 ?l7 ?c7 ?k7 ?a8 ?l8 ?c8 ?k8 ?a9 ?l9 ?c9 ?k9 ?a10 ?l10 ?c10 ?k10 ?a11 ?l11 ?c11 ?k11 ?a12 ?l12 ?c12 ?k12 ?a13 ?l13 ?c13 ?k13 ?a14 ?l14 ?c14 ?k14 ?a15 ?l15 ?c15 ?k15 ?a16 ?l16 ?c16 ?k16 ?a17 ?l17 ?c17 ?k17 ?a18 ?l18 ?c18 ?k18 ?a19 ?l19 ?c19 ?k19 ?a20 ?l20 ?c20 ?k20 ?a21 ?l21 ?c21 ?k21 ?a22 ?l22 ?c22 ?k22 ?a23 ?l23 ?c23 ?k23 ?a24 ?l24 ?c24 ?k24 ?a25 ?l25 ?c25 ?k25 ?a26 ?l26 ?c26 ?k26 ?a27 ?l27 ?c27 ?k27 ?a28 ?l28 ?c28 ?k28 ?a29 ?l29 ?c29 ?k29 ?a30 ?l30 ?c30 ?k30 ?a31 ?l31 ?c31 ?k31 ?a32 ?l32 ?c32 ?k32 ?q_MANY ?q_WAYS ?q_START ?q_END ?q_CHANGE ?q_TABLE ?q_RISEN ?q_BY ?q_PLACE ?q_LEVEL ?z_abs ?z_all ?z_any ?z_bool ?z_enumerate ?z_int ?z_isinstance ?z_len ?z_list ?z_min ?z_range ?z_reversed ?z_tuple ?z_zip
    (case a0 => k_is); (case l0 => k_is); (case c0 => k_is); (case k0 => k_is)
    (case a1 => k_is); (case l1 => k_is); (case c1 => k_is); (case k1 => k_is)
    (case a2 => k_is); (case l2 => k_is); (case c2 => k_is); (case k2 => k_is)
    (case a3 => k_is); (case l3 => k_is); (case c3 => k_is); (case k3 => k_is)
    (case a4 => k_is); (case l4 => k_is); (case c4 => k_is); (case k4 => k_is)
    (case a5 => k_is); (case l5 => k_is); (case c5 => k_is); (case k5 => k_is)
    (case a6 => k_is); (case l6 => k_is); (case c6 => k_is); (case k6 => k_is)
    (case a7 => k_is); (case l7 => k_is); (case c7 => k_is); (case k7 => k_is)
    (case a8 => k_is); (case l8 => k_is); (case c8 => k_is); (case k8 => k_is)
    (case a9 => k_is); (case l9 => k_is); (case c9 => k_is); (case k9 => k_is)
    (case a10 => k_is); (case l10 => k_is); (case c10 => k_is); (case k10 => k_is)
    (case a11 => k_is); (case l11 => k_is); (case c11 => k_is); (case k11 => k_is)
    (case a12 => k_is); (case l12 => k_is); (case c12 => k_is); (case k12 => k_is)
    (case a13 => k_is); (case l13 => k_is); (case c13 => k_is); (case k13 => k_is)
    (case a14 => k_is); (case l14 => k_is); (case c14 => k_is); (case k14 => k_is)
    (case a15 => k_is); (case l15 => k_is); (case c15 => k_is); (case k15 => k_is)
    (case a16 => k_is); (case l16 => k_is); (case c16 => k_is); (case k16 => k_is)
    (case a17 => k_is); (case l17 => k_is); (case c17 => k_is); (case k17 => k_is)
    (case a18 => k_is); (case l18 => k_is); (case c18 => k_is); (case k18 => k_is)
    (case a19 => k_is); (case l19 => k_is); (case c19 => k_is); (case k19 => k_is)
    (case a20 => k_is); (case l20 => k_is); (case c20 => k_is); (case k20 => k_is)
    (case a21 => k_is); (case l21 => k_is); (case c21 => k_is); (case k21 => k_is)
    (case a22 => k_is); (case l22 => k_is); (case c22 => k_is); (case k22 => k_is)
    (case a23 => k_is); (case l23 => k_is); (case c23 => k_is); (case k23 => k_is)
    (case a24 => k_is); (case l24 => k_is); (case c24 => k_is); (case k24 => k_is)
    (case a25 => k_is); (case l25 => k_is); (case c25 => k_is); (case k25 => k_is)
    (case a26 => k_is); (case l26 => k_is); (case c26 => k_is); (case k26 => k_is)
    (case a27 => k_is); (case l27 => k_is); (case c27 => k_is); (case k27 => k_is)
    (case a28 => k_is); (case l28 => k_is); (case c28 => k_is); (case k28 => k_is)
    (case a29 => k_is); (case l29 => k_is); (case c29 => k_is); (case k29 => k_is)
    (case a30 => k_is); (case l30 => k_is); (case c30 => k_is); (case k30 => k_is)
    (case a31 => k_is); (case l31 => k_is); (case c31 => k_is); (case k31 => k_is)
    (case a32 => k_is); (case l32 => k_is); (case c32 => k_is); (case k32 => k_is)
    (case q_MANY => k_is); (case q_WAYS => k_is); (case q_START => k_is); (case q_END => k_is); (case q_CHANGE => k_is); (case q_TABLE => k_is); (case q_RISEN => k_is); (case q_BY => k_is); (case q_PLACE => k_is); (case q_LEVEL => k_is)
    (case z_abs => k_is); (case z_all => k_is); (case z_any => k_is); (case z_bool => k_is); (case z_enumerate => k_is); (case z_int => k_is); (case z_isinstance => k_is); (case z_len => k_is); (case z_list => k_is); (case z_min => k_is); (case z_range => k_is); (case z_reversed => k_is); (case z_tuple => k_is); (case z_zip => k_is)
