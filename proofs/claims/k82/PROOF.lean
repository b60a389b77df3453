import PyProof.Rows.All
import Wide.All
import OpenK.AllK
import Wide.FinOn
import Lean
import PyProof.EqAt
import PyProof.EqKinds
import PyProof.NeData
import PyProof.TupleCall
import KE.KRevIter
import KE.KRevSl
import PyProof.MinMaxWalk
import PyProof.ZipIter
import PyProof.Rows.Range3
import PyProof.Rows.CallKwBuiltin
import PyProof.DictWalks
import PyProof.ReprRoads
import PyProof.ReprLen
import PyProof.CallFns
import KE.KEqDict
import PyProof.P3In
import PyProof.MeetsDictList
import PyProof.Cells
import PySem.Challenge.RW_trudge_k82_whole_trips_with_springs
set_option Elab.async false
set_option linter.all false
set_option maxRecDepth 100000
set_option genInjectivity false
set_option genSizeOf false
open _root_.PySem.W renaming Frag->A3, keepIn->B5, nsIn->C9, mg_of->D6, fnOf->E7, codeIn->F7, kia_one->j0, mg_none_of->j7, kitOne->A4p, kitCls->B3c
open _root_.Or renaming inl->A8
open _root_.List renaming mem_cons_of_mem->C3, mem_cons_self->C6, length_map->F6, replicate->G8, length_cons->M2, getElem?_eq_getElem->N0, length_set->N3, range->N5, length_append->O3, mem_cons->O7, mem_append->O8, size_toArray->P8, getElem?_set_ne->Q1, getElem?_map->R8, mem_of_getElem?->R9, map_append->S0, nil_append->W3, append_nil->Y3, getElem?_set->Y4, mem_append_right->Z9, length_range->b3, mem_map->b4, mem_range->i7, getElem?_eq_some_iff->i8, map_cons->j1, replicate_succ->j3, getElem?_eq_none->j4, map_take->j5, nodup_cons->t9, length_reverse->A1w, cons_append->A1x, length->A3q, getElem?_append_left->A3r, append_assoc->A3s, getElem?_cons_succ->A3t, nodup_append->A3v, eq_nil_of_length_eq_zero->A3w, length_nil->A3x, map_map->A3y, length_take->A4q, flatten_cons->A4s, tail_cons->A4t, tail_nil->A4u, getElem?_cons_zero->A4v, set_cons_zero->A4w, set_cons_succ->A4x, mem_filter->A68, getElem?_set_self->A69, getElem?_append_right->A7a, lookup_cons->A7c, drop_eq_getElem_cons->A8n, mem_append_left->B0i, length_replicate->B0l, idxOf_lt_length_iff->B0n, getElem?_range->B0o, take_of_length_le->B0p, nodup_nil->B0s, mem_singleton->B0t, getElem?_replicate->B3a, length_singleton->B3b, reverse_cons->B3d, mem_iff_getElem->B3e, sum_cons->B3f, filterMap_cons->B8m, getElem_idxOf->B8p, mem_zipIdx_iff_getElem?->B8q
open _root_.Nat renaming le_refl->J8, zero_le->M9, ne_of_lt->R7, lt_of_lt_of_le->S8, lt_irrefl->h9, le_trans->t8, lt_or_ge->A3u, le_of_lt->A8k, min_eq_left->A8o, ne_of_gt->B0j, le_succ->B0m
open _root_.PySem.Heap renaming lt_size->K3, get?_push_of_some->U6, get?_push_size->i9, get?_update_other->B8n
open _root_.Bool renaming false_ne_true->Q2, and_eq_true->j2, not_true->A40, not_false->A41, false_eq_true->A8m, eq_iff_iff->B29
open _root_.PySem.PassesOwn renaming never->Q3
open _root_.PySem.F renaming plainAttrs_list->j6, slot_list_append->A1y, type_list_append->A1z, slot_list_index->B8o
open _root_.PySem.Obj renaming mapSeq->A4r
open _root_.Option renaming bind_some->A4y, map_some->A4z, bind_eq_some_iff->B3g, map_eq_some_iff->B3h
open _root_.Int renaming toNat_natCast->A7b, add_mul->A7d, emod_nonneg->A8p, le_refl->B0q, natCast_add->B0r, emod_lt_of_pos->B3i
open _root_.Array renaming length_toList->A8l
open _root_.PySem renaming mem_of_lookup->B0k
namespace L2
open PySem PySem.Spec PyProof.Rows
theorem el3 {α β γ : Type} {R T K : α -> β -> γ -> Prop} {p : Prop} (h : ∃ a b c, R a b c /\ T a b c /\ K a b c) (f : ∀ a b c, R a b c -> T a b c -> K a b c -> p) : p := h.elim fun a h => h.elim fun b h => h.elim fun c h => f a b c h.1 h.2.1 h.2.2
theorem el5 {α β : Type} {R T K : α -> β -> Prop} {p : Prop} (h : ∃ a b, R a b /\ T a b /\ K a b) (f : ∀ a b, R a b -> T a b -> K a b -> p) : p := h.elim fun a h => h.elim fun b h => f a b h.1 h.2.1 h.2.2
theorem el2 {α : Type} {A B : α -> Prop} {p : Prop} (h : ∃ a, A a /\ B a) (f : ∀ a, A a -> B a -> p) : p := h.elim fun a h => f a h.1 h.2
abbrev Key := Sum Int Str
def B3j : Key -> Value -> Bool
 | .inl k, v => Value.isInt k v
 | .inr x, v => Value.isStrOf x v
def B8r (w : World) : Key -> Int
 | .inl k => hashInt k
 | .inr x => hashStr w x
theorem u8 : ∀ {k : Key} {v : Value}, B3j k v = true -> (∃ i t, k = Sum.inl i /\ v = Value.int i t) \/ (∃ x t, k = Sum.inr x /\ v = Value.str x t)
 | .inl i, v, h => by
  obtain ⟨t, e⟩ := Value.isInt_shape (k := i) (v := v) h
  exact .inl ⟨i, t, rfl, e⟩
 | .inr x, v, h => by
  obtain ⟨t, e⟩ := Value.isStrOf_shape (x := x) (v := v) h
  exact .inr ⟨x, t, rfl, e⟩
theorem B8s (a b : Int) : decide ((Sum.inl a : Key) = Sum.inl b) = (a == b) := by
 by_cases e : a = b
 ·subst e; simp
 ·have h : ¬ (Sum.inl a : Key) = Sum.inl b := fun q => e (Sum.inl.inj q)
  rw [decide_eq_false h]
  exact (beq_eq_false_iff_ne.mpr e).symm
theorem B8t (a b : Str) : decide ((Sum.inr a : Key) = Sum.inr b) = decide (a = b) := by
 by_cases e : a = b
 ·subst e; simp
 ·have h : ¬ (Sum.inr a : Key) = Sum.inr b := fun q => e (Sum.inr.inj q)
  rw [decide_eq_false h, decide_eq_false e]
theorem B8u (a : Int) (b : Str) : decide ((Sum.inl a : Key) = Sum.inr b) = false := decide_eq_false (fun q => nomatch q)
theorem B8v (a : Str) (b : Int) : decide ((Sum.inr a : Key) = Sum.inl b) = false := decide_eq_false (fun q => nomatch q)
def B3k (prog : Program) (w : World) : PySem.KeyKind prog w Key where
 is := B3j
 hash := B8r w
 inj := fun v a b ha hb => by
  rcases u8 ha with ⟨i, t, rfl, rfl⟩ | ⟨x, t, rfl, rfl⟩
  ·rcases u8 hb with ⟨j, u, rfl, e⟩ | ⟨y, u, rfl, e⟩
   ·injection e with e1 _; rw [e1]
   ·exact nomatch e
  ·rcases u8 hb with ⟨j, u, rfl, e⟩ | ⟨y, u, rfl, e⟩
   ·exact nomatch e
   ·injection e with e1 _; rw [e1]
 byValue := fun k v h => by
  rcases u8 h with ⟨i, t, rfl, rfl⟩ | ⟨x, t, rfl, rfl⟩ <;> rfl
 pyHash := fun hv h => by
  rcases u8 hv with ⟨i, t, rfl, rfl⟩ | ⟨x, t, rfl, rfl⟩
  ·exact wpAny_pyHash_int h
  ·exact wpAny_pyHash_str h
 eqBool := fun hu hv h => by
  rcases u8 hu with ⟨i, t, rfl, rfl⟩ | ⟨x, t, rfl, rfl⟩
  ·rcases u8 hv with ⟨j, u, rfl, rfl⟩ | ⟨y, u, rfl, rfl⟩
   ·rw [B8s] at h; exact wpAny_eqBool_int h
   ·rw [B8u] at h; exact SeqAt.EqAt.int_str i t y u _ _ _ _ h
  ·rcases u8 hv with ⟨j, u, rfl, rfl⟩ | ⟨y, u, rfl, rfl⟩
   ·rw [B8v] at h; exact SeqAt.EqAt.str_int x t j u _ _ _ _ h
   ·rw [B8t] at h; exact wpAny_eqBool_str h
 «strs» := fun k x t v h => by
  rcases u8 h with ⟨i, u, rfl, e⟩ | ⟨y, u, rfl, e⟩
  ·exact nomatch e
  ·injection e with e1 _
   subst e1
   cases v <;> rfl
end L2
namespace L2
open PySem PySem.Spec PyProof.Rows
set_option genInjectivity true in
inductive V where
 | non | bl (b : Bool) | int (i : Int) | str (x : Str) | byt (b : Array UInt8) | flt (b : UInt64) | ref (a : Addr) | ty (n : String)
 deriving DecidableEq
def F5 : V -> Value -> Prop
 | .non, u => u = Value.none
 | .bl b, u => u = Value.bool b
 | .int i, u => ∃ t, u = Value.int i t
 | .str x, u => ∃ t, u = Value.str x t
 | .byt b, u => ∃ t, u = Value.bytes b t
 | .flt b, u => ∃ t, u = Value.float b t
 | .ref a, u => u = Value.ref a
 | .ty n, u => u = Value.type n
abbrev D9 : List V -> List Value -> Prop := Paired F5
theorem D9.length {xs : List V} {us : List Value} (r : D9 xs us) : xs.length = us.length := Paired.length r
theorem D9.get : ∀ {xs : List V} {us : List Value} {i : Nat} {x : V}, D9 xs us -> xs[i]? = some x -> ∃ u, us[i]? = some u /\ F5 x u
 | _, _, _, _, .nil, e => by simp at e
 | _, _, 0, _, .cons r _, e => by simp at e; subst e; exact ⟨_, rfl, r⟩
 | _, _, i + 1, x, .cons _ t, e => by
  obtain ⟨u, h1, h2⟩ := D9.get (i := i) (x := x) t (by simpa using e)
  exact ⟨u, by simpa using h1, h2⟩
theorem D9.set {x : V} {u : Value} (r : F5 x u) : ∀ {xs : List V} {us : List Value} (i : Nat), D9 xs us -> D9 (xs.set i x) (us.set i u)
 | _, _, _, .nil => .nil
 | _, _, 0, .cons _ t => .cons r t
 | _, _, i + 1, .cons q t => .cons q (D9.set r i t)
theorem D9.append {xs ys : List V} {us ws : List Value} (h : D9 xs us) (s : D9 ys ws) : D9 (xs ++ ys) (us ++ ws) := by
 induction h with
 | nil => exact s
 | cons r t ih => exact .cons r ih
theorem D9.take : ∀ {xs : List V} {us : List Value} (n : Nat), D9 xs us -> D9 (xs.take n) (us.take n)
 | _, _, 0, _ => .nil
 | _, _, _ + 1, .nil => .nil
 | _, _, n + 1, .cons r t => .cons r (D9.take n t)
theorem D9.drop : ∀ {xs : List V} {us : List Value} (n : Nat), D9 xs us -> D9 (xs.drop n) (us.drop n)
 | _, _, 0, r => r
 | _, _, _ + 1, .nil => .nil
 | _, _, n + 1, .cons _ t => D9.drop n t
def B0u : Option V -> Option Value -> Prop
 | some v, some u => F5 v u
 | none, none => True
 | _, _ => False
def KV {κ : Type} : List (κ × V) -> List (κ × Value) -> Prop := Paired fun (p : κ × V) (q : κ × Value) => p.1 = q.1 /\ F5 p.2 q.2
def kV : Key -> V
 | .inl i => .int i
 | .inr x => .str x
inductive HO where
 | lst (xs : List V)
 | tup (xs : List V)
 | dK (kvs : List (Key × V)) | dT (kvs : List (List Key × V))
 | set (S : Int -> Bool) (n : Nat)
 | ins (C dx : Addr) (fs : List (Str × V))
 | own (x : Addr)
 | xd (fs : List (Str × V))
 | met (f x : Addr)
 | rng (lo hi : Int)
 | frz (o : Obj) (u : HO)
 | tbl (ps : Array Value)
 | ext (φ : Heap -> Prop)
abbrev Hp := Addr -> Option HO
def upd (H : Hp) (a : Addr) (o : HO) : Hp := fun b => if b = a then some o else H b
theorem J1 {H : Hp} {a : Addr} {o : HO} : upd H a o a = some o := by unfold upd; rw [if_pos rfl]
theorem B9 {H : Hp} {a b : Addr} {o : HO} (h : b ≠ a) : upd H a o b = H b := by unfold upd; rw [if_neg h]
theorem B8w {H : Hp} {a b : Addr} {o u : HO} (h : H a = some o) (h' : H b = some u) (d : o ≠ u) : a ≠ b := by
 intro e; subst e; rw [h] at h'; exact d (Option.some.inj h')
theorem M3 {H : Hp} {a b : Addr} {o : HO} (h : H a = some o) (h' : H b = none) : a ≠ b := by
 intro e; subst e; rw [h] at h'; cases h'
section
variable (P : Program) (w : World)
def P0 (H : Hp) (h : Heap) (a : Addr) : HO -> Prop
 | .lst xs => xs.length <= sizeLine /\ ∃ (its : List Value) (n : Nat), D9 xs its /\ h.get? a = some { cls := .type "list", data := .seq its.toArray n }
 | .tup xs => xs.length <= sizeLine /\ ∃ its : List Value, D9 xs its /\ IsTup h a its.toArray
 | .dK kvs => kvs.length <= sizeLine /\ (a == sysModules) = false /\ ∃ vs, KV kvs vs /\ h.DictOf (B3k P w) a vs
 | .dT kvs => kvs.length <= sizeLine /\ (a == sysModules) = false /\ ∃ xs : List (List Key × Addr × Value),
   Paired (fun (p : List Key × V) (q : List Key × Addr × Value) => p.1 = q.1 /\ H q.2.1 = some (.tup (p.1.map kV)) /\ F5 p.2 q.2.2) kvs xs /\
   ∃ o es ep, h.get? a = some o /\ o.ExactDict /\ o.data = .dict es ep /\ es.toList = xs.map (entryOfKey (tupleKind (B3k P w))) /\ (xs.map (·.1)).Nodup
 | .set S n => h.SetOf (intKind P w) a S n
 | .ins C dx fs => H dx = some (.own a) /\ fs.length <= 1000 /\ dx ≠ a /\ h.get? a = some (PySem.W.instObj C dx) /\
   ∃ mA, h.Ns1 dx mA /\ (∀ f, B0u (fs.lookup f) (mA f)) /\ PySem.Within mA (fs.map (·.1))
 | .own _ => ∃ o, h.get? a = some o
 | .xd fs => ∃ mA, h.Ns1 a mA /\ ∀ f, B0u (fs.lookup f) (mA f)
 | .rng lo hi => ∃ t u v, h.get? a = some { cls := .type "range", data := .fields #[.int lo t, .int hi u, .int 1 v] }
 | .frz o u => h.get? a = some o /\ P0 H h a u
 | .tbl ps => h.get? a = some { cls := .none, data := .fields ps }
 | .met f x => h.get? a = some (PySem.W.methodObj (.ref f) (.ref x))
 | .ext φ => φ h /\ (∃ o, h.get? a = some o) /\ ∀ h1 h2 : Heap, φ h1 -> (∀ o, h1.get? a = some o -> h2.get? a = some o) -> φ h2
def HOk (H : Hp) (h : Heap) : Prop := ∀ a o, H a = some o -> P0 P w H h a o
end
section
variable {P : Program} {w : World} {H H' : Hp} {h h' : Heap} {a : Addr} {o : HO}
theorem P0.lt (x : P0 P w H h a o) : a < h.objs.size := by
 cases o with
 | lst xs => obtain ⟨_, _, _, _, e⟩ := x; exact K3 e
 | tup xs => obtain ⟨_, _, _, p⟩ := x; exact p.lt
 | dK kvs => obtain ⟨_, _, _, _, o, _, _, e, _⟩ := x; exact K3 e
 | dT kvs => obtain ⟨_, _, _, _, o, _, _, e, _⟩ := x; exact K3 e
 | set S n => obtain ⟨o, _, _, _, e, _⟩ := x; exact K3 e
 | ins C dx fs => obtain ⟨_, _, _, e, _⟩ := x; exact K3 e
 | own y => obtain ⟨_, e⟩ := x; exact K3 e
 | xd fs => obtain ⟨_, ⟨_, _, _, e, _⟩, _⟩ := x; exact K3 e
 | rng lo hi => obtain ⟨_, _, _, e⟩ := x; exact K3 e
 | frz ob u => obtain ⟨e, _⟩ := x; exact K3 e
 | tbl ps => exact K3 (show h.get? a = some _ from x)
 | met f y => exact K3 (show h.get? a = some _ from x)
 | ext φ => obtain ⟨_, ⟨_, e⟩, _⟩ := x; exact K3 e
theorem Paired.mapP {α β : Type} {F G : α -> β -> Prop} {l₁ : List α} {l₂ : List β} (h : Paired F l₁ l₂) (f : ∀ a b, F a b -> G a b) : Paired G l₁ l₂ := by
 induction h with
 | nil => exact .nil
 | cons r t ih => exact .cons (f _ _ r) ih
theorem P0.stay (x : P0 P w H h a o) (k : ∀ b u, (b = a \/ H b = some (.own a)) -> h.get? b = some u -> h'.get? b = some u)
  (ho : ∀ b, H b = some (.own a) -> H' b = some (.own a)) (ht : ∀ b xs, H b = some (.tup xs) -> H' b = some (.tup xs)) : P0 P w H' h' a o := by
 induction o with
 | lst xs => obtain ⟨z, its, n, r, e⟩ := x; exact ⟨z, its, n, r, k _ _ (.inl rfl) e⟩
 | tup xs => obtain ⟨z, its, r, ob, e, c⟩ := x; exact ⟨z, its, r, ob, k _ _ (.inl rfl) e, c⟩
 | dK kvs => obtain ⟨z, y, vs, r, ob, es, ep, e, c⟩ := x; exact ⟨z, y, vs, r, ob, es, ep, k _ _ (.inl rfl) e, c⟩
 | dT kvs =>
  obtain ⟨z, y, xs, r, ob, es, ep, e, c⟩ := x
  exact ⟨z, y, xs, Paired.mapP r fun p q z => ⟨z.1, ht _ _ z.2.1, z.2.2⟩, ob, es, ep, k _ _ (.inl rfl) e, c⟩
 | set S n => obtain ⟨ob, es, ep, t, e, c⟩ := x; exact ⟨ob, es, ep, t, k _ _ (.inl rfl) e, c⟩
 | ins C dx fs =>
  obtain ⟨d, z, ne, e, mA, ⟨od, es, ep, e2, c⟩, r⟩ := x
  exact ⟨ho _ d, z, ne, k _ _ (.inl rfl) e, mA, ⟨od, es, ep, k _ _ (.inr d) e2, c⟩, r⟩
 | own y => obtain ⟨ob, e⟩ := x; exact ⟨ob, k _ _ (.inl rfl) e⟩
 | xd fs => obtain ⟨mA, ⟨od, es, ep, e, c⟩, r⟩ := x; exact ⟨mA, ⟨od, es, ep, k _ _ (.inl rfl) e, c⟩, r⟩
 | rng lo hi => obtain ⟨t, u, v, e⟩ := x; exact ⟨t, u, v, k _ _ (.inl rfl) e⟩
 | frz ob u ih => obtain ⟨e, q⟩ := x; exact ⟨k _ _ (.inl rfl) e, ih q⟩
 | tbl ps =>
  have e : h.get? a = some { cls := .none, data := .fields ps } := x
  show h'.get? a = some { cls := .none, data := .fields ps }
  exact k a _ (.inl rfl) e
 | met f y =>
  have e : h.get? a = some (PySem.W.methodObj (.ref f) (.ref y)) := x
  show h'.get? a = some (PySem.W.methodObj (.ref f) (.ref y))
  exact k a _ (.inl rfl) e
 | ext φ => obtain ⟨p, ⟨o, e⟩, st⟩ := x; exact ⟨st _ _ p fun o q => k _ _ (.inl rfl) q, ⟨o, k _ _ (.inl rfl) e⟩, st⟩
theorem HOk.lt (x : HOk P w H h) (e : H a = some o) : a < h.objs.size := (x a o e).lt
theorem HOk.fresh (x : HOk P w H h) (e : h.objs.size <= a) : H a = none := by
 cases q : H a with
 | none => rfl
 | some u => exact absurd (S8 (x.lt q) e) (h9 _)
theorem HOk.kept (x : HOk P w H h) (k : ∀ b u, h.get? b = some u -> h'.get? b = some u) : HOk P w H h' := fun a o e =>
 (x a o e).stay (fun b u _ q => k b u q) (fun _ q => q) fun _ _ q => q
theorem HOk.laid (x : HOk P w H h) (k : ∀ b u, h.get? b = some u -> h'.get? b = some u) (hp : h.objs.size <= a) (new : P0 P w (upd H a o) h' a o) : HOk P w (upd H a o) h' := fun b u e => by
 have hn := x.fresh hp
 by_cases hb : b = a
 ·subst hb; rw [J1] at e; cases e; exact new
 ·rw [B9 hb] at e
  exact (x b u e).stay (fun c v _ q => k c v q) (fun c q => by rw [B9 (M3 q hn)]; exact q) fun c xs q => by rw [B9 (M3 q hn)]; exact q
end
def Rd (H : Hp) (a : Addr) (u : HO) : Prop := H a = some u \/ ∃ o, H a = some (.frz o u)
theorem Rd.ok {P : Program} {w : World} {H : Hp} {h : Heap} {a : Addr} {u : HO} (r : Rd H a u) (x : HOk P w H h) : P0 P w H h a u := by
 rcases r with r | ⟨o, r⟩
 ·exact x a u r
 ·obtain ⟨_, q⟩ := x a _ r
  exact q
def Mut : Option HO -> Prop
 | some (.lst _) => True
 | some (.dK _) => True
 | some (.dT _) => True
 | some (.set _ _) => True
 | some (.ins _ _ _) => True
 | some (.ext _) => True
 | _ => False
section
variable {P : Program} {w : World} {H : Hp} {h h' : Heap} {x e : Addr} {o' : HO}
theorem HOk.write (ok : HOk P w H h) (mu : Mut (H x)) (he : e = x \/ H e = some (.own x)) (k : ∀ b u, b ≠ e -> h.get? b = some u -> h'.get? b = some u) (heo : ∃ u, h'.get? e = some u)
  (new : P0 P w (upd H x o') h' x o') : HOk P w (upd H x o') h' := fun b u q => by
 have nown : ∀ c y, H c = some (.own y) -> c ≠ x := fun c y r z => by subst z; rw [r] at mu; exact mu
 have ntup : ∀ c xs, H c = some (.tup xs) -> c ≠ x := fun c xs r z => by subst z; rw [r] at mu; exact mu
 by_cases hb : b = x
 ·subst hb; rw [J1] at q; cases q; exact new
 ·rw [B9 hb] at q
  by_cases hbe : b = e
  ·have q' : H b = some (.own x) := by
    rcases he with z | z
    ·exact absurd (hbe.trans z) hb
    ·rw [hbe]; exact z
   rw [q] at q'; cases q'
   obtain ⟨v, hv⟩ := heo
   exact ⟨v, by rw [hbe]; exact hv⟩
  ·refine (ok b u q).stay (fun c v hc r => k c v ?_ r) (fun c r => by rw [B9 (nown c b r)]; exact r) fun c xs r => by rw [B9 (ntup c xs r)]; exact r
   rcases hc with rfl | hc
   ·exact hbe
   ·rintro rfl
    rcases he with z | z
    ·exact nown c b hc z
    ·rw [hc] at z; cases z; exact hb rfl
end
structure Un (fs ex : List Addr) (H H' : Hp) (h h' : Heap) : Prop where
 keep : ∀ b o, h.get? b = some o -> H b = none -> b ∉ fs -> b ∉ ex -> h'.get? b = some o
 slot : ∀ b o, h.get? b = some o -> H b = none -> b ∈ fs -> b ∉ ex -> ∃ sl, h'.get? b = some { o with slots := sl }
 free : ∀ b o, h.get? b = some o -> H b = none -> b ∉ ex -> H' b = none
 there : ∀ b o, h.get? b = some o -> b ∉ ex -> ∃ o', h'.get? b = some o'
 tups : ∀ b xs, H b = some (.tup xs) -> H' b = some (.tup xs)
 frzs : ∀ b o u, H b = some (.frz o u) -> H' b = some (.frz o u)
 tbls : ∀ b ps, H b = some (.tbl ps) -> ∃ more, H' b = some (.tbl (ps ++ more))
section
variable {fs fs' ex ex' : List Addr} {H H1 H2 : Hp} {h h1 h2 h' : Heap} {a x e : Addr} {o : HO}
theorem Un.any (u : Un fs ex H H1 h h1) {b : Addr} {ob : Obj} (q : h.get? b = some ob) (n : H b = none) (hx : b ∉ ex) : ∃ sl, h1.get? b = some { ob with slots := sl } := by
 by_cases hb : b ∈ fs
 ·exact u.slot b ob q n hb hx
 ·exact ⟨ob.slots, u.keep b ob q n hb hx⟩
theorem Un.kept (k : ∀ b u, h.get? b = some u -> h'.get? b = some u) : Un fs ex H H h h' :=
 ⟨fun b ob q _ _ _ => k b ob q, fun b ob q _ _ _ => ⟨ob.slots, k b ob q⟩, fun _ _ _ n _ => n, fun b ob q _ => ⟨ob, k b ob q⟩, fun _ _ q => q, fun _ _ _ q => q, fun _ ps q => ⟨#[], by rw [q]; simp⟩⟩
theorem Un.refl : Un fs ex H H h h := Un.kept fun _ _ q => q
theorem Un.laid (k : ∀ b u, h.get? b = some u -> h'.get? b = some u) (hp : h.objs.size <= a) (hn : H a = none) : Un fs ex H (upd H a o) h h' where
 keep := fun b u q _ _ _ => k b u q
 slot := fun b u q _ _ _ => ⟨u.slots, k b u q⟩
 free := fun b u q n _ => by rw [B9 (R7 (S8 (K3 q) hp))]; exact n
 there := fun b u q _ => ⟨u, k b u q⟩
 tups := fun b xs q => by rw [B9 (M3 q hn)]; exact q
 frzs := fun b u xs q => by rw [B9 (M3 q hn)]; exact q
 tbls := fun b ps q => ⟨#[], by rw [B9 (M3 q hn), q]; simp⟩
theorem Un.write (mu : Mut (H x)) (he : e = x \/ H e = some (.own x)) (k : ∀ b u, b ≠ e -> h.get? b = some u -> h'.get? b = some u) (heo : ∃ u, h'.get? e = some u) : Un fs ex H (upd H x o) h h' := by
 have hx : ∀ b, H b = none -> b ≠ x := fun b n z => by subst z; rw [n] at mu; exact mu
 have hb : ∀ b, H b = none -> b ≠ e := fun b n z => by
  subst z
  rcases he with r | r
  ·exact hx b n r
  ·rw [n] at r; cases r
 have hm : ∀ b u, H b = some u -> ¬ Mut (some u) -> b ≠ x := fun b u q nm z => by subst z; rw [q] at mu; exact nm mu
 refine ⟨fun b u q n _ _ => k b u (hb b n) q, fun b u q n _ _ => ⟨u.slots, k b u (hb b n) q⟩, fun b u q n _ => by rw [B9 (hx b n)]; exact n, fun b u q _ => ?_,
  fun b xs q => by rw [B9 (hm b _ q fun z => z)]; exact q, fun b u xs q => by rw [B9 (hm b _ q fun z => z)]; exact q, fun b ps q => ⟨#[], by rw [B9 (hm b _ q fun z => z), q]; simp⟩⟩
 by_cases hbe : b = e
 ·subst hbe; exact heo
 ·exact ⟨u, k b u hbe q⟩
end
def trk (h : Heap) (H : Hp) : List Addr := (N5 h.objs.size).filter fun a => (H a).isSome
def v4 (h : Heap) (H : Hp) : Heap := PySem.W.hideAll h (trk h H)
theorem B8x (h : Heap) (H : Hp) : (v4 h H).objs.size = h.objs.size := PySem.W.hideAll_size _ _
theorem B8y {h : Heap} {H : Hp} {b : Addr} {o : Obj} (e : h.get? b = some o) (n : H b = none) : (v4 h H).get? b = some o :=
 PySem.W.hideAll_get _ e fun hm => by
  have q : (H b).isSome = true := (A68.mp hm).2
  rw [n] at q; simp at q
theorem B8z {h : Heap} {H : Hp} {b : Addr} {o : Obj} (e : (v4 h H).get? b = some o) : h.get? b = some o /\ H b = none := by
 have e' : h.get? b = some o := PySem.W.of_hideAll (trk h H) e
 refine ⟨e', ?_⟩
 cases q : H b with
 | none => rfl
 | some x =>
  have hm : b ∈ trk h H := A68.mpr ⟨i7.mpr (K3 e'), by simp [q]⟩
  have z : (v4 h H).get? b = none := PySem.W.hideAll_none (trk h H) hm
  rw [z] at e; cases e
def B80 (g h : Heap) (L : Addr) : List (Addr × Obj) := (N5 h.objs.size).filterMap fun a => if a = L \/ (g.get? a).isSome = true then none else (h.get? a).map fun o => (a, o)
def P2 (g h : Heap) (L d : Addr) : List (Addr × Obj) := (B80 g h L).filter fun p => decide (p.1 ≠ d)
end L2
namespace L2
open PySem PySem.Spec PyProof.Rows
structure Mod (K : A3) (mg : Str -> Option Value) (base : Heap) : Prop where
 kin : K.In base
 glob : base.Ns mainGlobals mg
 blt : ∃ mb, base.Ns builtinsNs mb /\ ∀ x : Str, x ≠ "__name__" -> mb x = bootBuiltins x
 nolimit : base.NoLimit
structure Cx where
 prog : Program
 w : World
 K : A3
 mg : Str -> Option Value
 base : Heap
 A : Around
 N : List Str
 s₀ : Shared
 H₀ : Hp
 env : Env
 outer : List Env
 stack : List Env
 ex : List Addr
 fn : Str -> Bool
 calm : Bool
 pn : List (Addr × Obj)
 xe : Value -> Shared -> Prop
def frs (l : List Env) : List Addr := l.filterMap (·.frame)
abbrev Cx.fs (X : Cx) : List Addr := frs X.outer
def Vis (sc : Scope) (x : Str) : Prop := sc.names.lookup x = some .local \/ sc.names.lookup x = some .cell \/ sc.names.lookup x = some .free
def Loc (sc : Scope) (x : Str) : Prop := sc.names.lookup x = some .local \/ sc.names.lookup x = some .cell
def B3l (env : Env) (h : Heap) (m : Str -> Option Value) (x : Str) (u : Value) : Prop :=
 (env.kindOf x = some .local /\ m x = some u) \/ ((env.kindOf x = some .cell \/ env.kindOf x = some .free) /\ ∃ c, env.cells.lookup x = some c /\ h.IsCell c (some u))
structure Cx.Ok (X : Cx) : Prop where
 mod : Mod X.K X.mg X.base
 kind : X.env.scope.kind = .function
 glob : X.env.globals = mainGlobals
 blt : X.env.builtins = builtinsNs
 above : X.s₀.heap.objs.size <= X.env.locals
 inj : ∀ x y c, X.env.cells.lookup x = some c -> X.env.cells.lookup y = some c -> x = y
 has : ∀ x, (X.env.kindOf x = some .cell \/ X.env.kindOf x = some .free) -> ∃ c, X.env.cells.lookup x = some c
 cab : ∀ x c, X.fn x = true -> X.env.cells.lookup x = some c -> X.s₀.heap.objs.size <= c
 hd : X.calm = true -> X.A.handled = none
 frames : X.A.frames = some X.stack
 stk : X.stack = X.outer \/ (X.stack = X.env :: X.outer /\ X.env.frame = some X.env.locals)
 exf : ∀ b ∈ X.ex, b ≠ X.env.locals /\ ∀ x c, X.env.cells.lookup x = some c -> c ≠ b
 bs : ∀ b o, X.base.get? b = some o -> X.s₀.heap.get? b = some o /\ X.H₀ b = none
 bsz : X.base.objs.size <= X.s₀.heap.objs.size
 noex : ∀ b o, X.base.get? b = some o -> b ∉ X.ex
 exfs : ∀ b ∈ X.ex, b ∉ X.fs
 funs : X.s₀.heap.FunFrames X.base X.outer
 frf : ∀ b ∈ X.fs, X.H₀ b = none
structure Inv (X : Cx) (pins : List (Addr × Obj)) (σ : List (Option V)) (H : Hp) (s : Shared) : Prop where
 ok : X.Ok
 os : s.os = X.s₀.os
 bare : AllBare s.gens
 base : Un X.fs X.ex X.H₀ H X.s₀.heap s.heap
 loc : ∃ m, s.heap.Ns X.env.locals m /\ ∀ (i : Nat) (x : Str) (v : V), X.N[i]? = some x -> σ[i]? = some (some v) -> Vis X.env.scope x -> ∃ u, F5 v u /\ B3l X.env s.heap m x u
 cell : ∀ x c, X.env.cells.lookup x = some c -> ∃ v, s.heap.IsCell c v
 free : H X.env.locals = none
 freeC : ∀ x c, X.env.cells.lookup x = some c -> H c = none
 pin : ∀ p ∈ X.pn ++ pins, s.heap.get? p.1 = some p.2 /\ H p.1 = none /\ p.1 ≠ X.env.locals /\ p.1 ∉ X.fs /\ ∀ v, p.2.data ≠ .cell v
 hok : HOk X.prog X.w H s.heap
 len : σ.length = X.N.length
section
variable {X : Cx} {pins : List (Addr × Obj)} {σ : List (Option V)} {H H' : Hp} {s : Shared} {h' : Heap}
theorem Cx.Ok.nofr (ok : X.Ok) {b : Addr} {o : Obj} (e : X.base.get? b = some o) : b ∉ X.fs := fun hb => by
 have := (ok.funs.mem hb).1
 rw [e] at this; cases this
theorem Inv.bs (I : Inv X pins σ H s) : ∀ b o, X.base.get? b = some o -> s.heap.get? b = some o /\ H b = none := fun b o e =>
 ⟨I.base.keep b o (I.ok.bs b o e).1 (I.ok.bs b o e).2 (I.ok.nofr e) (I.ok.noex b o e), I.base.free b o (I.ok.bs b o e).1 (I.ok.bs b o e).2 (I.ok.noex b o e)⟩
theorem Inv.bk (I : Inv X pins σ H s) : ∀ b o, X.base.get? b = some o -> s.heap.get? b = some o := fun b o e => (I.bs b o e).1
theorem Inv.mod (I : Inv X pins σ H s) : Mod X.K X.mg X.base := I.ok.mod
theorem Inv.kIn (I : Inv X pins σ H s) : X.K.In s.heap := I.ok.mod.kin.keeps I.bk
theorem Inv.lt (I : Inv X pins σ H s) : X.env.locals < s.heap.objs.size := let ⟨_, hn, _⟩ := I.loc; hn.lt
theorem Inv.sz (I : Inv X pins σ H s) : X.s₀.heap.objs.size <= s.heap.objs.size := t8 I.ok.above (A8k I.lt)
theorem Inv.nofs (I : Inv X pins σ H s) {a : Addr} (h : s.heap.objs.size <= a) : a ∉ X.fs := fun hb => by
 obtain ⟨_, o, ho, _⟩ := I.ok.funs.mem hb
 exact absurd (S8 (K3 ho) (t8 I.sz h)) (h9 _)
theorem Inv.cne (I : Inv X pins σ H s) : ∀ x c, X.env.cells.lookup x = some c -> c ≠ X.env.locals := fun x c e z => by
 obtain ⟨v, o, ho, hd⟩ := I.cell x c e
 obtain ⟨m, ⟨o', es, ep, ho', hd', _⟩, _⟩ := I.loc
 rw [z, ho'] at ho; cases ho; rw [hd'] at hd; cases hd
theorem Inv.funs (I : Inv X pins σ H s) : s.heap.FunFrames X.base X.outer := by
 have all : ∀ (l : List Env), (∀ b ∈ frs l, b ∈ X.fs) -> X.s₀.heap.FunFrames X.base l -> s.heap.FunFrames X.base l := by
  intro l
  induction l with
  | nil => intro _ _; trivial
  | cons env r ih =>
   intro hs hl
   obtain ⟨hk, ⟨L, o, hf, hn, ho, hd⟩, hr⟩ := hl
   have hL : L ∈ X.fs := hs L (by unfold frs; rw [B8m, hf]; exact C6)
   obtain ⟨sl, e⟩ := I.base.slot L o ho (I.ok.frf L hL) hL fun z => I.ok.exfs L z hL
   exact ⟨hk, ⟨L, _, hf, hn, e, hd⟩, ih (fun b hb => hs b (by unfold frs; rw [B8m, hf]; exact C3 _ hb)) hr⟩
 exact all X.outer (fun _ hb => hb) I.ok.funs
theorem Inv.stack (I : Inv X pins σ H s) : s.heap.FunFrames X.base X.stack := by
 rcases I.ok.stk with e | ⟨e, hf⟩
 ·rw [e]; exact I.funs
 ·rw [e]
  obtain ⟨m, hn, _⟩ := I.loc
  refine .cons (by rw [I.ok.kind]; decide) hf hn ?_ I.funs
  exact Heap.get?_none_of_le (t8 I.ok.bsz I.ok.above)
theorem Inv.stkSub (I : Inv X pins σ H s) : ∀ b ∈ frs X.stack, b ∈ X.env.locals :: X.fs := fun b hb => by
 rcases I.ok.stk with e | ⟨e, hf⟩
 ·rw [e] at hb; exact C3 _ hb
 ·rw [e] at hb
  unfold frs at hb
  rw [B8m, hf] at hb
  exact hb
theorem Inv.stkFree (I : Inv X pins σ H s) : ∀ b ∈ frs X.stack, H b = none := fun b hb => by
 rcases O7.mp (I.stkSub b hb) with e | hb
 ·rw [e]; exact I.free
 ·obtain ⟨_, o, ho, _⟩ := I.ok.funs.mem hb
  exact I.base.free b o ho (I.ok.frf b hb) fun z => I.ok.exfs b z hb
theorem Inv.step {g' : Array GenState} {t' : Nat} {d' : Drawn} {ch : List Addr} (I : Inv X pins σ H s)
  (hch : ∀ b ∈ ch, (b ∈ X.ex \/ X.s₀.heap.objs.size <= b) /\ b ≠ X.env.locals /\ (∀ x c, X.env.cells.lookup x = some c -> c ≠ b) /\ ∀ p ∈ X.pn ++ pins, p.1 ≠ b)
  (keep : ∀ b o, b ≠ X.env.locals -> b ∉ X.fs -> b ∉ ch -> s.heap.get? b = some o -> H b = none -> h'.get? b = some o)
  (slot : ∀ b o, b ≠ X.env.locals -> b ∈ X.fs -> b ∉ ch -> s.heap.get? b = some o -> H b = none -> ∃ sl, h'.get? b = some { o with slots := sl }) (free : ∀ b o, b ∉ ch -> s.heap.get? b = some o -> H b = none -> H' b = none)
  (there : ∀ b o, b ∉ ch -> s.heap.get? b = some o -> ∃ o', h'.get? b = some o')
  (tups : ∀ b xs, H b = some (.tup xs) -> H' b = some (.tup xs)) (frzs : ∀ b o u, H b = some (.frz o u) -> H' b = some (.frz o u)) (tbls : ∀ b ps, H b = some (.tbl ps) -> ∃ more, H' b = some (.tbl (ps ++ more)))
  (ns : ∀ m, s.heap.Ns X.env.locals m -> h'.Ns X.env.locals m) (hok : HOk X.prog X.w H' h') (hg : AllBare g') :
  Inv X pins σ H' { s with heap := h', gens := g', drawn := d', toks := t' } := by
 have neL : ∀ b o, X.s₀.heap.get? b = some o -> b ≠ X.env.locals := fun b o e => R7 (S8 (K3 e) I.ok.above)
 have neC : ∀ b o, X.s₀.heap.get? b = some o -> b ∉ X.ex -> b ∉ ch := fun b o e hx hb => by
  rcases (hch b hb).1 with z | z
  ·exact hx z
  ·exact absurd (S8 (K3 e) z) (h9 _)
 have cellK : ∀ x c, X.env.cells.lookup x = some c -> ∀ v, s.heap.IsCell c v -> h'.IsCell c v := fun x c e v zz1 => el2 zz1 fun o ho hd => by
  have nch : c ∉ ch := fun z => (hch c z).2.2.1 x c e rfl
  by_cases hc : c ∈ X.fs
  ·obtain ⟨sl, q⟩ := slot c o (I.cne x c e) hc nch ho (I.freeC x c e)
   exact ⟨_, q, hd⟩
  ·exact ⟨o, keep c o (I.cne x c e) hc nch ho (I.freeC x c e), hd⟩
 refine ⟨I.ok, I.os, hg, ⟨fun b o e n hb hx => ?_, fun b o e n hb hx => ?_, fun b o e n hx => ?_, fun b o e hx => ?_, fun b xs e => tups b xs (I.base.tups b xs e), fun b o xs e => frzs b o xs (I.base.frzs b o xs e), fun b ps e => ?_⟩, ?_, fun x c e => ?_, ?_, fun x c e => ?_, fun p hp => ?_, hok, I.len⟩
 ·exact keep b o (neL b o e) hb (neC b o e hx) (I.base.keep b o e n hb hx) (I.base.free b o e n hx)
 ·obtain ⟨sl, e1⟩ := I.base.slot b o e n hb hx
  obtain ⟨sl', e2⟩ := slot b _ (neL b o e) hb (neC b o e hx) e1 (I.base.free b o e n hx)
  exact ⟨sl', e2⟩
 ·obtain ⟨o', e1⟩ := I.base.there b o e hx
  exact free b o' (neC b o e hx) e1 (I.base.free b o e n hx)
 ·obtain ⟨o', e1⟩ := I.base.there b o e hx
  exact there b o' (neC b o e hx) e1
 ·obtain ⟨m1, e1⟩ := I.base.tbls b ps e
  obtain ⟨m2, e2⟩ := tbls b _ e1
  exact ⟨m1 ++ m2, by rw [e2, Array.append_assoc]⟩
 ·obtain ⟨m, hn, hl⟩ := I.loc
  refine ⟨m, ns m hn, fun i x v e1 e2 e3 => ?_⟩
  obtain ⟨u, r, l⟩ := hl i x v e1 e2 e3
  refine ⟨u, r, ?_⟩
  rcases l with l | ⟨k, c, e, z⟩
  ·exact .inl l
  ·exact .inr ⟨k, c, e, cellK x c e _ z⟩
 ·obtain ⟨v, z⟩ := I.cell x c e
  exact ⟨v, cellK x c e v z⟩
 ·obtain ⟨m, ⟨o, _, _, ho, _⟩, _⟩ := I.loc
  exact free _ o (fun z => (hch _ z).2.1 rfl) ho I.free
 ·obtain ⟨v, o, ho, hd⟩ := I.cell x c e
  exact free c o (fun z => (hch c z).2.2.1 x c e rfl) ho (I.freeC x c e)
 ·obtain ⟨e, n, ne, nf, d⟩ := I.pin p hp
  have nch : p.1 ∉ ch := fun z => (hch p.1 z).2.2.2 p hp rfl
  exact ⟨keep p.1 p.2 ne nf nch e n, free p.1 p.2 nch e n, ne, nf, d⟩
theorem Inv.un {t' : Nat} (I : Inv X pins σ H s) (u : Un X.fs [] H H' s.heap h') (hok : HOk X.prog X.w H' h') : Inv X pins σ H' { s with heap := h', toks := t' } := by
 obtain ⟨m, ⟨o, es, ep, ho, r⟩, _⟩ := id I.loc
 obtain ⟨sl, hL⟩ := u.any ho I.free (by simp)
 exact I.step (g' := s.gens) (d' := s.drawn) (ch := []) (fun _ z => nomatch z) (fun b o _ hb _ e n => u.keep b o e n hb (by simp)) (fun b o _ hb _ e n => u.slot b o e n hb (by simp)) (fun b o _ e n => u.free b o e n (by simp)) (fun b o _ e => u.there b o e (by simp)) u.tups u.frzs u.tbls (fun m' hm => by
  obtain ⟨o', es', ep', ho', r'⟩ := hm
  rw [ho] at ho'; cases ho'
  exact ⟨_, es', ep', hL, r'⟩) hok I.bare
theorem Inv.call {g' : Array GenState} {t' : Nat} {d' : Drawn} {ch : List Addr} (I : Inv X pins σ H s) (u : Un (frs X.stack) ch H H' s.heap h') (hok : HOk X.prog X.w H' h') (hg : AllBare g')
  (hch : ∀ b ∈ ch, (b ∈ X.ex \/ X.s₀.heap.objs.size <= b) /\ b ≠ X.env.locals /\ (∀ x c, X.env.cells.lookup x = some c -> c ≠ b) /\ ∀ p ∈ X.pn ++ pins, p.1 ≠ b) :
  Inv X pins σ H' { s with heap := h', gens := g', drawn := d', toks := t' } := by
 obtain ⟨m, ⟨o, es, ep, ho, r⟩, _⟩ := id I.loc
 obtain ⟨sl, hL⟩ := u.any ho I.free fun z => (hch _ z).2.1 rfl
 exact I.step (ch := ch) hch (fun b o hL hb hc e n => u.keep b o e n (fun z => (O7.mp (I.stkSub b z)).elim hL hb) hc) (fun b o _ _ hc e n => u.any e n hc) (fun b o hc e n => u.free b o e n hc) (fun b o hc e => u.there b o e hc) u.tups u.frzs u.tbls (fun m' hm => by
  obtain ⟨o', es', ep', ho', r'⟩ := hm
  rw [ho] at ho'; cases ho'
  exact ⟨_, es', ep', hL, r'⟩) hok hg
theorem Inv.turned {t' : Nat} {it : Addr} (I : Inv X pins σ H s) (k : ∀ b o, b ≠ it -> s.heap.get? b = some o -> h'.get? b = some o) (hn : H it = none) (hL : it ≠ X.env.locals)
  (h1 : it ∈ X.ex \/ X.s₀.heap.objs.size <= it) (h2 : ∀ x c, X.env.cells.lookup x = some c -> c ≠ it) (h3 : ∀ p ∈ X.pn ++ pins, p.1 ≠ it) : Inv X pins σ H { s with heap := h', toks := t' } := by
 have nit : ∀ b u, H b = some u -> b ≠ it := fun b u e z => by rw [z, hn] at e; cases e
 refine I.step (g' := s.gens) (d' := s.drawn) (ch := [it]) (fun b hb => ?_) (fun b o _ _ hc e _ => k b o (fun z => hc (by simp [z])) e) (fun b o _ _ hc e _ => ⟨o.slots, k b o (fun z => hc (by simp [z])) e⟩) (fun _ _ _ _ n => n)
  (fun b o hc e => ⟨o, k b o (fun z => hc (by simp [z])) e⟩) (fun _ _ e => e) (fun _ _ _ e => e) (fun b ps e => ⟨#[], by rw [e]; simp⟩) (fun m hm => ?_) (fun b u e => ?_) I.bare
 ·have e : b = it := by simpa using hb
  subst e
  exact ⟨h1, hL, h2, h3⟩
 ·obtain ⟨o, es, ep, ho, r⟩ := hm
  exact ⟨o, es, ep, k _ o (Ne.symm hL) ho, r⟩
 ·refine (I.hok b u e).stay (fun c v hc q => k c v ?_ q) (fun _ q => q) fun _ _ q => q
  rcases hc with z | z
  ·rw [z]; exact nit b u e
  ·exact nit c _ z
theorem Inv.tok (I : Inv X pins σ H s) (t : Nat) : Inv X pins σ H { s with toks := t } := I.un (h' := s.heap) (t' := t) Un.refl I.hok
theorem Inv.kept {t' : Nat} (I : Inv X pins σ H s) (k : ∀ b u, s.heap.get? b = some u -> h'.get? b = some u) : Inv X pins σ H { s with heap := h', toks := t' } := I.un (Un.kept k) (I.hok.kept k)
theorem Inv.laid {a : Addr} {o : HO} {t' : Nat} (I : Inv X pins σ H s) (k : ∀ b u, s.heap.get? b = some u -> h'.get? b = some u) (hp : s.heap.objs.size <= a) (new : P0 X.prog X.w (upd H a o) h' a o) :
  Inv X pins σ (upd H a o) { s with heap := h', toks := t' } := I.un (Un.laid k hp (I.hok.fresh hp)) (I.hok.laid k hp new)
theorem Inv.write {x e : Addr} {o : HO} {t' : Nat} (I : Inv X pins σ H s) (mu : Mut (H x)) (he : e = x \/ H e = some (.own x)) (k : ∀ b u, b ≠ e -> s.heap.get? b = some u -> h'.get? b = some u) (heo : ∃ u, h'.get? e = some u)
  (new : P0 X.prog X.w (upd H x o) h' x o) : Inv X pins σ (upd H x o) { s with heap := h', toks := t' } := I.un (Un.write mu he k heo) (I.hok.write mu he k heo new)
theorem Inv.weak {σ' : List (Option V)} (I : Inv X pins σ H s) (hl : σ'.length = σ.length) (w : ∀ (i : Nat) v, σ'[i]? = some (some v) -> σ[i]? = some (some v)) : Inv X pins σ' H s :=
 ⟨I.ok, I.os, I.bare, I.base, let ⟨m, hn, hl'⟩ := I.loc; ⟨m, hn, fun i x v e1 e2 e3 => hl' i x v e1 (w i v e2) e3⟩, I.cell, I.free, I.freeC, I.pin, I.hok, hl.trans I.len⟩
theorem Inv.pins_of {pins' : List (Addr × Obj)} (I : Inv X pins σ H s) (h : ∀ p ∈ pins', s.heap.get? p.1 = some p.2 /\ H p.1 = none /\ p.1 ≠ X.env.locals /\ p.1 ∉ X.fs /\ ∀ v, p.2.data ≠ .cell v) : Inv X pins' σ H s :=
 ⟨I.ok, I.os, I.bare, I.base, I.loc, I.cell, I.free, I.freeC, fun p hp => (O8.mp hp).elim (fun z => I.pin p (B0i _ z)) (h p), I.hok, I.len⟩
theorem A8q {N : List Str} (hN : N.Nodup) {i j : Nat} {x : Str} (a : N[i]? = some x) (b : N[j]? = some x) : i = j := by
 obtain ⟨h1, e1⟩ := i8.mp a
 obtain ⟨h2, e2⟩ := i8.mp b
 exact (List.getElem_inj hN).mp (e1.trans e2.symm)
theorem B3m {M : Model} {A : Around} {E : Value -> Shared -> Prop} {i : Nat} {x : Str} {v : V} {u : Value} {Q : Unit -> Shared -> Prop} (I : Inv X pins σ H s) (hN : X.N.Nodup) (hi : X.N[i]? = some x) (hx : Loc X.env.scope x) (r : F5 v u)
  (h : ∀ s', Inv X pins (σ.set i (some v)) H s' -> (∃ a, Heap.SameBut a s.heap s'.heap /\ (a = X.env.locals \/ X.env.cells.lookup x = some a)) -> Q () s') (hf : X.fn x = true \/ X.env.scope.names.lookup x = some .local := by first | exact .inl rfl | exact .inr rfl | assumption) : wpAny M A (storeName X.env x u) Q E s := by
 obtain ⟨m, hn, hl⟩ := id I.loc
 have hcls : (X.env.scope.kind == .class || (X.env.scope.kind == .module && X.env.locals != X.env.globals)) = false := by rw [I.ok.kind]; rfl
 have hiσ : i < σ.length := by rw [I.len]; exact (i8.mp hi).1
 have cne := I.cne
 have tracked : ∀ {a : Addr} {h' : Heap}, (∃ o, s.heap.get? a = some o /\ H a = none) -> Heap.SameBut a s.heap h' -> HOk X.prog X.w H h' := fun {a h'} ha hs b ob e => by
  obtain ⟨_, _, hfree⟩ := ha
  refine (I.hok b ob e).stay (fun c w' hc q => (hs.2 c ?_).trans q) (fun _ q => q) fun _ _ q => q
  rintro rfl
  rcases hc with rfl | hc
  ·rw [hfree] at e; cases e
  ·rw [hfree] at hc; cases hc
 rcases hx with hk | hk
 ·refine wpAny_storeName_local hk hn (fun h' hn' hs => ?_) hcls
  obtain ⟨oL, _, _, hoL, _⟩ := id hn
  refine h _ ⟨I.ok, I.os, I.bare, ⟨fun b o e n hb hx => ?_, fun b o e n hb hx => ?_, I.base.free, fun b o e hx => ?_, I.base.tups, I.base.frzs, I.base.tbls⟩, ⟨_, hn', fun j y v' e1 e2 e3 => ?_⟩, fun y c e => ?_, I.free, I.freeC, fun p hp => ?_, tracked ⟨oL, hoL, I.free⟩ hs, by simpa using I.len⟩ ⟨_, hs, .inl rfl⟩
  ·exact (hs.2 b (R7 (S8 (K3 e) I.ok.above))).trans (I.base.keep b o e n hb hx)
  ·obtain ⟨sl, e1⟩ := I.base.slot b o e n hb hx
   exact ⟨sl, (hs.2 b (R7 (S8 (K3 e) I.ok.above))).trans e1⟩
  ·obtain ⟨o', e1⟩ := I.base.there b o e hx
   exact ⟨o', (hs.2 b (R7 (S8 (K3 e) I.ok.above))).trans e1⟩
  ·by_cases hj : j = i
   ·subst hj
    rw [hi] at e1; cases e1
    rw [A69 hiσ] at e2
    cases e2
    exact ⟨u, r, .inl ⟨hk, by simp⟩⟩
   ·rw [Q1 (Ne.symm hj)] at e2
    obtain ⟨u', r', q⟩ := hl j y v' e1 e2 e3
    refine ⟨u', r', ?_⟩
    rcases q with ⟨k, e⟩ | ⟨k, c, e, z⟩
    ·refine .inl ⟨k, ?_⟩
     have : y ≠ x := fun e => hj (A8q hN e1 (e ▸ hi))
     simp [this, e]
    ·exact .inr ⟨k, c, e, z.sameBut hs (cne y c e)⟩
  ·obtain ⟨w', z⟩ := I.cell y c e
   exact ⟨w', z.sameBut hs (cne y c e)⟩
  ·obtain ⟨e, n, ne, nf, d⟩ := I.pin p hp
   exact ⟨(hs.2 p.1 ne).trans e, n, ne, nf, d⟩
 ·have hfn : X.fn x = true := by
   rcases hf with z | z
   ·exact z
   ·rw [z] at hk; cases hk
  obtain ⟨c, hc⟩ := I.ok.has x (.inl hk)
  obtain ⟨w', z⟩ := I.cell x c hc
  refine wpAny_storeName_cell I.ok.kind hk hc z (fun h' hc' hs => ?_)
  obtain ⟨oc, hoc, hocd⟩ := id z
  refine h { s with heap := h' } ⟨I.ok, I.os, I.bare, ⟨fun b o e n hb hx => ?_, fun b o e n hb hx => ?_, I.base.free, fun b o e hx => ?_, I.base.tups, I.base.frzs, I.base.tbls⟩, ⟨m, hn.sameBut hs (Ne.symm (cne x c hc)), fun j y v' e1 e2 e3 => ?_⟩, fun y c' e => ?_, I.free, I.freeC, fun p hp => ?_, tracked ⟨oc, hoc, I.freeC x c hc⟩ hs, by simpa using I.len⟩ ⟨c, hs, .inr hc⟩
  ·exact (hs.2 b (R7 (S8 (K3 e) (I.ok.cab x c hfn hc)))).trans (I.base.keep b o e n hb hx)
  ·obtain ⟨sl, e1⟩ := I.base.slot b o e n hb hx
   exact ⟨sl, (hs.2 b (R7 (S8 (K3 e) (I.ok.cab x c hfn hc)))).trans e1⟩
  ·obtain ⟨o', e1⟩ := I.base.there b o e hx
   exact ⟨o', (hs.2 b (R7 (S8 (K3 e) (I.ok.cab x c hfn hc)))).trans e1⟩
  ·by_cases hj : j = i
   ·subst hj
    rw [hi] at e1; cases e1
    rw [A69 hiσ] at e2
    cases e2
    exact ⟨u, r, .inr ⟨.inl hk, c, hc, hc'⟩⟩
   ·rw [Q1 (Ne.symm hj)] at e2
    obtain ⟨u', r', q⟩ := hl j y v' e1 e2 e3
    refine ⟨u', r', ?_⟩
    rcases q with q | ⟨k, c', e, z'⟩
    ·exact .inl q
    ·refine .inr ⟨k, c', e, z'.sameBut hs ?_⟩
     rintro rfl
     exact hj (A8q hN e1 (I.ok.inj _ _ _ e hc ▸ hi))
  ·by_cases hcc : c' = c
   ·subst hcc; exact ⟨_, hc'⟩
   ·obtain ⟨w2, z2⟩ := I.cell y c' e
    exact ⟨w2, z2.sameBut hs hcc⟩
  ·obtain ⟨e, n, ne, nf, d⟩ := I.pin p hp
   refine ⟨(hs.2 p.1 ?_).trans e, n, ne, nf, d⟩
   intro q
   rw [q, hoc] at e
   have q' : oc = p.2 := Option.some.inj e
   exact d w' (by rw [<- q']; exact hocd)
theorem A3z {M : Model} {A : Around} {E : Value -> Shared -> Prop} {i : Nat} {x : Str} {v : V} {u : Value} {Q : Unit -> Shared -> Prop} (I : Inv X pins σ H s) (hN : X.N.Nodup) (hi : X.N[i]? = some x) (hx : Loc X.env.scope x) (r : F5 v u)
  (h : ∀ s', Inv X pins (σ.set i (some v)) H s' -> Q () s') (hf : X.fn x = true \/ X.env.scope.names.lookup x = some .local := by first | exact .inl rfl | exact .inr rfl | assumption) : wpAny M A (storeName X.env x u) Q E s :=
 B3m I hN hi hx r (fun s' I' _ => h s' I') hf
theorem Inv.call' {s' : Shared} {ch : List Addr} (I : Inv X pins σ H s) (ho : s'.os = s.os) (u : Un (frs X.stack) ch H H' s.heap s'.heap) (hok : HOk X.prog X.w H' s'.heap) (hg : AllBare s'.gens)
  (hch : ∀ b ∈ ch, (b ∈ X.ex \/ X.s₀.heap.objs.size <= b) /\ b ≠ X.env.locals /\ (∀ x c, X.env.cells.lookup x = some c -> c ≠ b) /\ ∀ p ∈ X.pn ++ pins, p.1 ≠ b) : Inv X pins σ H' s' := by
 obtain ⟨h', g', d', t', o'⟩ := s'
 have e : o' = s.os := ho
 subst e
 exact I.call (g' := g') (t' := t') (d' := d') u hok hg hch
end
abbrev XK := Value -> Option Addr -> Hp -> Prop
abbrev St := List (Option V)
abbrev VK := V -> Hp -> Prop
abbrev TE := St -> Hp -> VK -> Prop
abbrev TT := St -> Hp -> (Bool -> Hp -> Prop) -> Prop
abbrev TA := St -> Hp -> (List V -> Hp -> Prop) -> Prop
structure v5 where
 nx : St -> Hp -> Prop
 rt : VK
 bk : St -> Hp -> Prop := fun _ _ => False
 ct : St -> Hp -> Prop := fun _ _ => False
abbrev TS := v5 -> St -> Hp -> Prop
def EP (X : Cx) (pins : List (Addr × Obj)) (σ : St) (Q : VK) (u : Value) (s' : Shared) : Prop := ∃ v H', Inv X pins σ H' s' /\ F5 v u /\ Q v H'
def TP (X : Cx) (pins : List (Addr × Obj)) (σ : St) (Q : Bool -> Hp -> Prop) (b : Bool) (s' : Shared) : Prop := ∃ H', Inv X pins σ H' s' /\ Q b H'
def AP (X : Cx) (pins : List (Addr × Obj)) (σ : St) (Q : List V -> Hp -> Prop) (us : List Value) (s' : Shared) : Prop := ∃ vs H', Inv X pins σ H' s' /\ D9 vs us /\ Q vs H'
def SP (X : Cx) (pins : List (Addr × Obj)) (D : v5) (f : Flow) (s' : Shared) : Prop :=
 match f with
 | .next => ∃ σ' H', Inv X pins σ' H' s' /\ D.nx σ' H'
 | .brk => ∃ σ' H', Inv X pins σ' H' s' /\ D.bk σ' H'
 | .cont => ∃ σ' H', Inv X pins σ' H' s' /\ D.ct σ' H'
 | .ret u => ∃ v σ' H', Inv X pins σ' H' s' /\ F5 v u /\ D.rt v H'
def PE (X : Cx) (e : Expr) (t : TE) : Prop :=
 ∀ (pins : List (Addr × Obj)) (s : Shared) (σ : St) (H : Hp) (Q : VK), Inv X pins σ H s -> t σ H Q -> wpAny (model X.prog X.w) X.A (eval e X.env) (EP X pins σ Q) X.xe s
def PT (X : Cx) (e : Expr) (t : TT) : Prop :=
 ∀ (pins : List (Addr × Obj)) (s : Shared) (σ : St) (H : Hp) (Q : Bool -> Hp -> Prop), Inv X pins σ H s -> t σ H Q -> wpAny (model X.prog X.w) X.A (isTrue e X.env (eval e X.env)) (TP X pins σ Q) X.xe s
def PW (X : Cx) (e : Expr) (t : TT) : Prop :=
 ∀ (whole : Sem Value) (pins : List (Addr × Obj)) (s : Shared) (σ : St) (H : Hp) (Q : Bool -> Hp -> Prop), Inv X pins σ H s -> t σ H Q -> wpAny (model X.prog X.w) X.A (isTrue e X.env whole) (TP X pins σ Q) X.xe s
theorem PW.pt {X : Cx} {e : Expr} {t : TT} (h : PW X e t) : PT X e t := h _
def PA (X : Cx) (es : List Expr) (t : TA) : Prop :=
 ∀ (pos : Pos) (pins : List (Addr × Obj)) (s : Shared) (σ : St) (H : Hp) (Q : List V -> Hp -> Prop), Inv X pins σ H s -> t σ H Q -> wpAny (model X.prog X.w) X.A (spliced (backTo pos (starEach es X.env))) (AP X pins σ Q) X.xe s
def PS (X : Cx) (st : Stmt) (t : TS) : Prop :=
 ∀ (pins : List (Addr × Obj)) (s : Shared) (σ : St) (H : Hp) (D : v5), Inv X pins σ H s -> t D σ H -> wpAny (model X.prog X.w) X.A (exec st X.env) (SP X pins D) X.xe s
def PSs (X : Cx) (st : List Stmt) (t : TS) : Prop :=
 ∀ (pins : List (Addr × Obj)) (s : Shared) (σ : St) (H : Hp) (D : v5), Inv X pins σ H s -> t D σ H -> wpAny (model X.prog X.w) X.A (execs st X.env) (SP X pins D) X.xe s
theorem thn {α : Type} {t : Sem α} {Q Q' : α -> Shared -> Prop} {M : Model} {A : Around} {E : Value -> Shared -> Prop} {s : Shared} (h : wpAny M A t Q E s) (hQ : ∀ a s, Q a s -> Q' a s) : wpAny M A t Q' E s := wpAny_mono h hQ fun _ _ x => x
end L2
namespace L2
open PySem PySem.Spec PyProof.Rows
section
variable {X : Cx}
def S1 (i : Nat) : TE := fun σ H Q => ∃ v, σ[i]? = some (some v) /\ Q v H
def tC (v : V) : TE := fun _ H Q => Q v H
theorem B81 {i : Nat} {x : Str} {pos : Pos} (hN : X.N[i]? = some x) (hv : Vis X.env.scope x) (hd : (x == ("__debug__" : Str)) = false := by decide) (hcd : (x == ("__classdict__" : Str)) = false := by decide) : PE X (.Name x pos) (S1 i) := by
 intro pins s σ H Q I h
 obtain ⟨v, e, h⟩ := h
 obtain ⟨m, hn, hl⟩ := I.loc
 obtain ⟨u, r, l⟩ := hl i x v hN e hv
 have fin : EP X pins σ Q u s := ⟨v, H, I, r, h⟩
 rcases l with ⟨hk, hm⟩ | ⟨hk, c, hc, hcell⟩
 ·exact wpAny_Name (wpAny_loadName_local I.ok.kind hk hn hm fin) hd
 ·rcases hk with hk | hk
  ·exact wpAny_Name (wpAny_loadName_cell I.ok.kind hk hc hcell fin) hd
  ·exact wpAny_Name (wpAny_loadName_free I.ok.kind hk hc hcell fin hcd) hd
theorem D7 {i j pos} : PE X (.Constant (.int i) j pos) (tC (.int i)) := fun _ _ _ H _ I h => wpAny_Constant_int ⟨.int i, H, I.tok _, ⟨_, rfl⟩, h⟩
theorem B82 {b j pos} : PE X (.Constant (.bool b) j pos) (tC (.bl b)) := fun _ _ _ H _ I h => Constant_bool ⟨.bl b, H, I, rfl, h⟩
theorem A42 {j pos} : PE X (.Constant .none j pos) (tC .non) := fun _ _ _ H _ I h => Constant_none ⟨.non, H, I, rfl, h⟩
theorem B3n {x j pos} : PE X (.Constant (.str x) j pos) (tC (.str x)) := fun _ _ _ H _ I h => Calls.Constant_str ⟨.str x, H, I.tok _, ⟨_, rfl⟩, h⟩
def Gl (X : Cx) (x : Str) : Prop := X.env.kindOf x = some .globalImplicit
theorem B3o {E : Value -> Shared -> Prop} {pins : List (Addr × Obj)} {s : Shared} {σ : St} {H : Hp} {x : Str} {u : Value} {pos : Pos} {Q : Value -> Shared -> Prop} (I : Inv X pins σ H s) (hg : Gl X x) (hm : X.mg x = some u) (h : Q u s)
  (hd : (x == ("__debug__" : Str)) = false := by decide) : wpAny (model X.prog X.w) X.A (eval (.Name x pos) X.env) Q E s :=
 Calls.Name_function_global I.ok.kind hg (Calls.loadGlobal_global (by rw [I.ok.glob]; exact I.mod.glob.keeps I.bk) hm h) hd
theorem A10 {E : Value -> Shared -> Prop} {pins : List (Addr × Obj)} {s : Shared} {σ : St} {H : Hp} {x : Str} {u : Value} {pos : Pos} {Q : Value -> Shared -> Prop} (I : Inv X pins σ H s) (hg : Gl X x) (hm : X.mg x = none) (hv : bootBuiltins x = some u) (h : Q u s)
  (hn : x ≠ "__name__" := by decide) (hd : (x == ("__debug__" : Str)) = false := by decide) : wpAny (model X.prog X.w) X.A (eval (.Name x pos) X.env) Q E s := by
 obtain ⟨mb, h1, h2⟩ := I.mod.blt
 exact Calls.Name_function_global I.ok.kind hg (Calls.loadGlobal_builtin (by rw [I.ok.glob]; exact I.mod.glob.keeps I.bk) hm (by rw [I.ok.blt]; exact h1.keeps I.bk) ((h2 x hn).trans hv) h) hd
theorem D8 {x : Str} {v : V} {u : Value} {pos : Pos} (hg : Gl X x) (hm : X.mg x = some u) (r : F5 v u) (hd : (x == ("__debug__" : Str)) = false := by decide) : PE X (.Name x pos) (tC v) :=
 fun _ _ _ H _ I h => B3o I hg hm ⟨v, H, I, r, h⟩ hd
theorem b5 {x : Str} {v : V} {u : Value} {pos : Pos} (hg : Gl X x) (hm : X.mg x = none) (hv : bootBuiltins x = some u) (r : F5 v u) (hn : x ≠ "__name__" := by decide) (hd : (x == ("__debug__" : Str)) = false := by decide) : PE X (.Name x pos) (tC v) :=
 fun _ _ _ H _ I h => A10 I hg hm hv ⟨v, H, I, r, h⟩ hn hd
variable {a b : Expr} {ta tb : TE} {pos : Pos}
def tB (t : TE) : TT := fun σ H Q => t σ H fun x H1 => ∃ c, x = .bl c /\ Q c H1
theorem B3p {e : Expr} {t : TE} (h : PE X e t) (he : ∀ whole, isTrue e X.env whole = (do let v <- whole; standAt e.pos; holding [v] (truthy v)) := by intro _; rfl) : PT X e (tB t) := by
 intro pins s σ H Q I hw
 refine isTrue_plain (thn (h pins s σ H _ I hw) fun v s1 zz7 => el5 zz7 fun x H1 I1 r1 q1 => ?_) (he _)
 obtain ⟨d, rfl, q⟩ := q1
 cases r1
 exact wpAny_truthy_bool ⟨H1, I1, q⟩
variable {tA tB' : TT} {P2 : List Expr}
def B83 (t u : TT) : TT := fun σ H Q => t σ H fun c H1 => if c = true then u σ H1 Q else Q false H1
def tOr (t u : TT) : TT := fun σ H Q => t σ H fun c H1 => if c = true then Q true H1 else u σ H1 Q
def B84 (t : TT) : TT := fun σ H Q => t σ H fun c H1 => Q (!c) H1
theorem B3q (ha : PT X a tA) : PW X (.BoolOp .And [a] pos) tA := by
 intro wh pins s σ H Q I h
 refine isTrue_and (thn (ha pins s σ H Q I h) fun c s1 e => ?_)
 cases c with
 | true => exact isTrue_and_nil e
 | false => exact e
theorem B85 (ha : PT X a tA) : PW X (.BoolOp .Or [a] pos) tA := by
 intro wh pins s σ H Q I h
 refine isTrue_or (thn (ha pins s σ H Q I h) fun c s1 e => ?_)
 cases c with
 | false => exact isTrue_or_nil e
 | true => exact e
theorem B3r (ha : PT X a tA) (hb : PW X (.BoolOp .And (b :: P2) pos) tB') : PW X (.BoolOp .And (a :: b :: P2) pos) (B83 tA tB') := by
 intro wh pins s σ H Q I h
 refine isTrue_and (thn (ha pins s σ H _ I h) fun c s1 zz8 => el2 zz8 fun H1 I1 q1 => ?_)
 cases c with
 | true => exact hb wh pins s1 σ H1 Q I1 q1
 | false => exact ⟨H1, I1, q1⟩
theorem B86 (ha : PT X a tA) (hb : PW X (.BoolOp .Or (b :: P2) pos) tB') : PW X (.BoolOp .Or (a :: b :: P2) pos) (tOr tA tB') := by
 intro wh pins s σ H Q I h
 refine isTrue_or (thn (ha pins s σ H _ I h) fun c s1 zz9 => el2 zz9 fun H1 I1 q1 => ?_)
 cases c with
 | true => exact ⟨H1, I1, q1⟩
 | false => exact hb wh pins s1 σ H1 Q I1 q1
theorem B87 (ha : PT X a tA) : PT X (.UnaryOp .Not a pos) (B84 tA) := by
 intro pins s σ H Q I h
 exact isTrue_not (ha pins s σ H (fun c H1 => Q (!c) H1) I h)
def B88 (ta tb : TE) : TE := fun σ H Q => ta σ H fun x H1 => ∃ c, x = .bl c /\ if c = true then tb σ H1 Q else Q (.bl false) H1
def B89 (ta tb : TE) : TE := fun σ H Q => ta σ H fun x H1 => ∃ c, x = .bl c /\ if c = true then Q (.bl true) H1 else tb σ H1 Q
def B9a (ta : TE) : TE := fun σ H Q => ta σ H fun x H1 => ∃ c, x = .bl c /\ Q (.bl (!c)) H1
theorem B9b {op} {t : TE} (h : PE X a t) : PE X (.BoolOp op [a] pos) t := fun pins s σ H Q I hw => BoolOp_one (h pins s σ H Q I hw)
theorem B9c (ha : PE X a ta) (hb : PE X (.BoolOp .And (b :: P2) pos) tb) : PE X (.BoolOp .And (a :: b :: P2) pos) (B88 ta tb) := by
 intro pins s σ H Q I h
 refine BoolOp_and (thn (ha pins s σ H _ I h) fun v s1 zz10 => el5 zz10 fun x H1 I1 r1 q1 => ?_)
 obtain ⟨c, rfl, q1⟩ := q1
 cases r1
 refine wpAny_truthy_bool ?_
 cases c with
 | true => exact hb pins s1 σ H1 Q I1 q1
 | false => exact ⟨.bl false, H1, I1, rfl, q1⟩
theorem B9d (ha : PE X a ta) (hb : PE X (.BoolOp .Or (b :: P2) pos) tb) : PE X (.BoolOp .Or (a :: b :: P2) pos) (B89 ta tb) := by
 intro pins s σ H Q I h
 refine BoolOp_or (thn (ha pins s σ H _ I h) fun v s1 zz11 => el5 zz11 fun x H1 I1 r1 q1 => ?_)
 obtain ⟨c, rfl, q1⟩ := q1
 cases r1
 refine wpAny_truthy_bool ?_
 cases c with
 | false => exact hb pins s1 σ H1 Q I1 q1
 | true => exact ⟨.bl true, H1, I1, rfl, q1⟩
theorem B9e (ha : PE X a ta) : PE X (.UnaryOp .Not a pos) (B9a ta) := by
 intro pins s σ H Q I h
 refine UnaryOp_ (thn (ha pins s σ H _ I h) fun v s1 zz12 => el5 zz12 fun x H1 I1 r1 q1 => ?_)
 obtain ⟨c, rfl, q1⟩ := q1
 cases r1
 exact not_of (wpAny_truthy_bool ⟨.bl (!c), H1, I1, rfl, q1⟩)
def tIf (t : TT) (ta tb : TE) : TE := fun σ H Q => t σ H fun c H1 => if c = true then ta σ H1 Q else tb σ H1 Q
theorem B3s {c : Expr} (hc : PT X c tA) (ha : PE X a ta) (hb : PE X b tb) : PE X (.IfExp c a b pos) (tIf tA ta tb) := by
 intro pins s σ H Q I h
 refine wpAny_IfExp (thn (hc pins s σ H _ I h) fun d s1 zz13 => el2 zz13 fun H1 I1 q1 => ?_)
 cases d with
 | true => exact ha pins s1 σ H1 Q I1 q1
 | false => exact hb pins s1 σ H1 Q I1 q1
end
end L2
namespace L2
open PySem PySem.Spec PyProof.Rows
def SqL (K : A3) (H : Hp) (a : Addr) (xs : List V) : Prop :=
 Rd H a (.lst xs) \/
  ∃ (o : Obj) (its : Array Value) (n : Nat), K.lookup a = some o /\ o.cls = .type "list" /\ o.dict = none /\ o.data = .seq its n /\ its.size <= sizeLine /\ D9 xs its.toList
def SqT (K : A3) (H : Hp) (a : Addr) (xs : List V) : Prop :=
 Rd H a (.tup xs) \/
  ∃ (o : Obj) (its : Array Value) (n : Nat), K.lookup a = some o /\ o.cls = .type "tuple" /\ o.data = .seq its n /\ its.size <= sizeLine /\ D9 xs its.toList
def B9f : Value -> Option V
 | .none => some .non
 | .bool b => some (.bl b)
 | .int i _ => some (.int i)
 | .str x _ => some (.str x)
 | .bytes b _ => some (.byt b)
 | .float b _ => some (.flt b)
 | .ref a => some (.ref a)
 | .type n => some (.ty n)
 | _ => none
theorem F5.abs {x : V} {u : Value} (r : F5 x u) : B9f u = some x := by
 cases x with
 | non => cases r; rfl
 | bl _ => cases r; rfl
 | int _ => obtain ⟨t, rfl⟩ := r; rfl
 | str _ => obtain ⟨t, rfl⟩ := r; rfl
 | byt _ => obtain ⟨t, rfl⟩ := r; rfl
 | flt _ => obtain ⟨t, rfl⟩ := r; rfl
 | ref _ => cases r; rfl
 | ty _ => cases r; rfl
theorem F5.inj {x y : V} {u : Value} (r : F5 x u) (q : F5 y u) : x = y := Option.some.inj (r.abs.symm.trans q.abs)
theorem D9.inj {xs ys : List V} {us : List Value} (h : D9 xs us) (k : D9 ys us) : xs = ys := by
 induction h generalizing ys with
 | nil => cases k; rfl
 | cons r t ih =>
  cases k with
  | cons r' t' => rw [r.inj r', ih t']
section
variable {X : Cx} {pins : List (Addr × Obj)} {σ : St} {H : Hp} {s : Shared} {a : Addr} {xs ys : List V}
theorem SqL.of {K : A3} (h : H a = some (.lst xs)) : SqL K H a xs := .inl (.inl h)
theorem SqT.of {K : A3} (h : H a = some (.tup xs)) : SqT K H a xs := .inl (.inl h)
theorem Inv.list (I : Inv X pins σ H s) (h : SqL X.K H a xs) : ∃ its : List Value, D9 xs its /\ PlainL s.heap a its.toArray /\ xs.length <= sizeLine := by
 rcases h with h | ⟨o, its, n, hk, hc, hd, hs, hz, r⟩
 ·obtain ⟨z, its, n, r, e⟩ := h.ok I.hok
  exact ⟨its, r, ⟨_, n, e, rfl, rfl, rfl⟩, z⟩
 ·refine ⟨its.toList, r, ⟨o, n, I.kIn a o hk, hc, hd, by simpa using hs⟩, ?_⟩
  have e := r.length
  simp only [A8l] at e
  lia
theorem Inv.tuple (I : Inv X pins σ H s) (h : SqT X.K H a xs) : ∃ its : List Value, D9 xs its /\ IsTup s.heap a its.toArray /\ xs.length <= sizeLine := by
 rcases h with h | ⟨o, its, n, hk, hc, hs, hz, r⟩
 ·obtain ⟨z, its, r, p⟩ := h.ok I.hok
  exact ⟨its, r, p, z⟩
 ·refine ⟨its.toList, r, ⟨o, I.kIn a o hk, hc, n, by simpa using hs⟩, ?_⟩
  have e := r.length
  simp only [A8l] at e
  lia
theorem Inv.list_inj (I : Inv X pins σ H s) (h : SqL X.K H a xs) (h' : SqL X.K H a ys) : xs = ys := by
 obtain ⟨its, r, ⟨o, n, e, _, _, d⟩, _⟩ := I.list h
 obtain ⟨its', r', ⟨o', n', e', _, _, d'⟩, _⟩ := I.list h'
 rw [e] at e'; cases e'
 rw [d] at d'
 injection d' with d1 _
 have : its = its' := by simpa using congrArg Array.toList d1
 subst this
 exact r.inj r'
end
abbrev Cx.wish (X : Cx) (E : Value -> Shared -> Prop) : Cx := { X with xe := E }
abbrev Cx.nox (X : Cx) : Cx := X.wish fun _ _ => False
theorem Cx.Ok.wish {X : Cx} (ok : X.Ok) (E : Value -> Shared -> Prop) : (X.wish E).Ok :=
 ⟨ok.mod, ok.kind, ok.glob, ok.blt, ok.above, ok.inj, ok.has, ok.cab, ok.hd, ok.frames, ok.stk, ok.exf, ok.bs, ok.bsz, ok.noex, ok.exfs, ok.funs, ok.frf⟩
theorem Cx.Ok.unwish {X : Cx} {E : Value -> Shared -> Prop} (ok : (X.wish E).Ok) : X.Ok :=
 ⟨ok.mod, ok.kind, ok.glob, ok.blt, ok.above, ok.inj, ok.has, ok.cab, ok.hd, ok.frames, ok.stk, ok.exf, ok.bs, ok.bsz, ok.noex, ok.exfs, ok.funs, ok.frf⟩
section
variable {X : Cx} {pins : List (Addr × Obj)} {σ : St} {H : Hp} {s : Shared} {E : Value -> Shared -> Prop}
theorem Inv.wish (I : Inv X pins σ H s) (E : Value -> Shared -> Prop) : Inv (X.wish E) pins σ H s := ⟨I.ok.wish E, I.os, I.bare, I.base, I.loc, I.cell, I.free, I.freeC, I.pin, I.hok, I.len⟩
theorem Inv.unwish (I : Inv (X.wish E) pins σ H s) : Inv X pins σ H s := ⟨I.ok.unwish, I.os, I.bare, I.base, I.loc, I.cell, I.free, I.freeC, I.pin, I.hok, I.len⟩
theorem SP.unwish {D : v5} {f : Flow} {s' : Shared} (h : SP (X.wish E) pins D f s') : SP X pins D f s' := by
 cases f with
 | next => obtain ⟨σ', H', I, q⟩ := h; exact ⟨σ', H', I.unwish, q⟩
 | brk => obtain ⟨σ', H', I, q⟩ := h; exact ⟨σ', H', I.unwish, q⟩
 | cont => obtain ⟨σ', H', I, q⟩ := h; exact ⟨σ', H', I.unwish, q⟩
 | ret u => obtain ⟨v, σ', H', I, r, q⟩ := h; exact ⟨v, σ', H', I.unwish, r, q⟩
theorem PSs.nox {st : List Stmt} {t : TS} (h : PSs X.nox st t) : PSs X st t := fun pins s σ H D I hw =>
 wpAny_mono (h pins s σ H D (I.wish _) hw) (fun _ _ q => q.unwish) fun _ _ z => False.elim z
end
section
variable {X : Cx} {st : Stmt} {P2 : List Stmt} {t u : TS} {e : Expr} {te : TE} {pos : Pos}
def B3t : TS := fun D σ H => D.nx σ H
def B9g (t u : TS) : TS := fun D σ H => t { D with nx := u D } σ H
theorem A43 : PSs X [] B3t := fun _ _ σ H _ I h => wpAny_execs_nil ⟨σ, H, I, h⟩
theorem K5 (h1 : PS X st t) (h2 : PSs X P2 u) : PSs X (st :: P2) (B9g t u) := by
 intro pins s σ H D I h
 refine wpAny_execs_cons (thn (h1 pins s σ H { D with nx := u D } I h) fun f s1 q => ?_)
 cases f with
 | next =>
  obtain ⟨σ', H', I', q⟩ := q
  exact h2 pins s1 σ' H' D I' q
 | ret v => exact q
 | brk => exact q
 | cont => exact q
theorem S3 (h1 : PS X st t) : PSs X [st] t := by
 intro pins s σ H D I h
 refine wpAny_execs_cons (thn (h1 pins s σ H D I h) fun f s1 q => ?_)
 cases f with
 | next => exact wpAny_execs_nil q
 | ret v => exact q
 | brk => exact q
 | cont => exact q
theorem Inv.quiet {pins : List (Addr × Obj)} {σ : St} {H : Hp} {s : Shared} (I : Inv X pins σ H s) : interactive X.env = false := by simp [interactive, I.ok.kind]
def A8r (te : TE) : TS := fun D σ H => te σ H fun _ H1 => D.nx σ H1
theorem X0 (he : PE X e te) (hs : swapsWith e none pos.line X.env = pure false := by rfl) : PS X (.Expr e pos) (A8r te) := by
 intro pins s σ H D I h
 exact wpAny_Expr_any (thn (he pins s σ H _ I h) fun v s1 zz20 => el5 zz20 fun x H1 I1 r1 q1 => ⟨σ, H1, I1, q1⟩) I.quiet hs
def B9h (te : TE) : TS := fun D σ H => te σ H D.rt
theorem v7 (he : PE X e te) : PS X (.Return (some e) pos) (B9h te) := by
 intro pins s σ H D I h
 exact wpAny_Return_some (thn (he pins s σ H _ I h) fun v s1 zz21 => el5 zz21 fun x H1 I1 r1 q1 => ⟨x, σ, H1, I1, r1, q1⟩)
def B3u (c : TT) (t u : TS) : TS := fun D σ H => c σ H fun b H1 => if b = true then t D σ H1 else u D σ H1
theorem A30 {c : Expr} {a b : List Stmt} {tc : TT} (hc : PT X c tc) (ha : PSs X a t) (hb : PSs X b u) : PS X (.If c a b pos) (B3u tc t u) := by
 intro pins s σ H D I h
 refine wpAny_If (thn (hc pins s σ H _ I h) fun d s1 zz22 => el2 zz22 fun H1 I1 q1 => ?_)
 cases d with
 | true => exact ha pins s1 σ H1 D I1 q1
 | false => exact hb pins s1 σ H1 D I1 q1
end
abbrev TG := V -> St -> Hp -> (St -> Hp -> Prop) -> Prop
abbrev TGs := List V -> St -> Hp -> (St -> Hp -> Prop) -> Prop
def PG (X : Cx) (target : Expr) (t : TG) : Prop :=
 ∀ (pins : List (Addr × Obj)) (s : Shared) (σ : St) (H : Hp) (v : V) (u : Value) (Q : St -> Hp -> Prop), Inv X pins σ H s -> F5 v u -> t v σ H Q ->
  wpAny (model X.prog X.w) X.A (assign target X.env u) (fun _ s' => ∃ σ' H', Inv X pins σ' H' s' /\ Q σ' H') X.xe s
def PGs (X : Cx) (ts : List Expr) (t : TGs) : Prop :=
 ∀ (pins : List (Addr × Obj)) (s : Shared) (σ : St) (H : Hp) (vs : List V) (us : List Value) (Q : St -> Hp -> Prop), Inv X pins σ H s -> D9 vs us -> t vs σ H Q ->
  wpAny (model X.prog X.w) X.A (assignInOrder ((assignEach ts X.env).map (·.2)) us) (fun _ s' => ∃ σ' H', Inv X pins σ' H' s' /\ Q σ' H') X.xe s
abbrev A7e := V -> V -> V -> Hp -> (Hp -> Prop) -> Prop
def B0v (X : Cx) (t : A7e) : Prop :=
 ∀ (pins : List (Addr × Obj)) (s : Shared) (σ : St) (H : Hp) (o i v : V) (ov iv u : Value) (Q : Hp -> Prop), Inv X pins σ H s -> F5 o ov -> F5 i iv -> F5 v u -> t o i v H Q ->
  wpAny (model X.prog X.w) X.A (setItem ov iv u) (fun _ s' => ∃ H', Inv X pins σ H' s' /\ Q H') X.xe s
abbrev TIp := V -> V -> Hp -> VK -> Prop
def PIp (X : Cx) (op : Operator) (t : TIp) : Prop :=
 ∀ (pins : List (Addr × Obj)) (s : Shared) (σ : St) (H : Hp) (x y : V) (v u : Value) (Q : VK), Inv X pins σ H s -> F5 x v -> F5 y u -> t x y H Q ->
  wpAny (model X.prog X.w) X.A (inplaceOp op v u) (EP X pins σ Q) X.xe s
section
variable {X : Cx} {pos : Pos}
def Q4 (i : Nat) : TG := fun v σ H Q => Q (σ.set i (some v)) H
theorem K6 {i : Nat} {x : Str} (hN : X.N.Nodup) (hi : X.N[i]? = some x) (hx : Loc X.env.scope x) (hf : X.fn x = true \/ X.env.scope.names.lookup x = some .local := by first | exact .inl rfl | exact .inr rfl | assumption) : PG X (.Name x pos) (Q4 i) := by
 intro pins s σ H v u Q I r h
 exact wpAny_assign_Name (A3z I hN hi hx r (fun s' I' => ⟨_, H, I', h⟩) hf)
def A7f : TGs := fun vs σ H Q => vs = [] /\ Q σ H
def Y5 (t : TG) (u : TGs) : TGs := fun vs σ H Q => ∃ v r, vs = v :: r /\ t v σ H fun σ' H' => u r σ' H' Q
theorem v8 : PGs X [] A7f := by
 intro pins s σ H vs us Q I r h
 obtain ⟨e, h⟩ := h
 subst e
 cases r
 exact assignInOrder_nil ⟨σ, H, I, h⟩
theorem O4 {e : Expr} {es : List Expr} {t : TG} {u : TGs} (h1 : PG X e t) (h2 : PGs X es u)
  (hs : (assignEach (e :: es) X.env).map (·.2) = assign e X.env :: (assignEach es X.env).map (·.2) := by rfl) : PGs X (e :: es) (Y5 t u) := by
 intro pins s σ H vs us Q I r h
 obtain ⟨v, vr, e1, h⟩ := h
 subst e1
 cases r with
 | cons r rr =>
  rw [hs]
  refine assignInOrder_cons (thn (h1 pins s σ H _ _ _ I r h) fun _ s1 zz23 => zz23.elim fun σ1 zz24 => zz24.elim fun H1 zz25 => zz25.elim fun I1 q1 => ?_)
  exact h2 pins s1 σ1 H1 _ _ Q I1 rr q1
def A8s (K : A3) (n : Nat) (t : TGs) : TG := fun v σ H Q => ∃ a xs, v = .ref a /\ SqT K H a xs /\ xs.length = n /\ t xs σ H Q
theorem A11 {es : List Expr} {k : Nat} {t : TGs} {n : Nat} (hc : X.calm = true) (h : PGs X es t)
  (hn : (assignEach es X.env).length = n := by rfl) (hst : (assignEach es X.env).findIdx? (·.1) = none := by rfl) : PG X (.Tuple es k pos) (A8s X.K n t) := by
 intro pins s σ H v u Q I r hw
 obtain ⟨a, xs, e1, hq, hl, hw⟩ := hw
 subst e1
 cases r
 obtain ⟨its, rv, ht, hz⟩ := I.tuple hq
 refine assign_Tuple_tuple (I.ok.hd hc) ht (by simp [hn, <- hl, rv.length]) hst fun h' hx => ?_
 have I1 : Inv X pins σ H { s with heap := h' } := I.kept (t' := s.toks) fun b o e => hx b o (R7 (K3 e)) e
 exact h pins _ σ H xs _ Q I1 (by simpa using rv) hw
def B3v (to ti : TE) (t : A7e) : TG := fun v σ H Q => to σ H fun o H1 => ti σ H1 fun i H2 => t o i v H2 fun H3 => Q σ H3
theorem Y6 {o i : Expr} {to ti : TE} {t : A7e} (ho : PE X o to) (hi : PE X i ti) (hs : B0v X t)
  (ha : ∀ v, assign (.Subscript o i pos) X.env v = (do
   let ov <- holding [v] (eval o X.env)
   let iv <- holding [v, ov] (eval i X.env)
   standAt pos
   holding [v, ov, iv] (setItem ov iv v)
   release [v, ov, iv] []) := by intro _; rfl) : PG X (.Subscript o i pos) (B3v to ti t) := by
 intro pins s σ H v u Q I r h
 rw [ha]
 refine wpAny_bind (wpAny_holding (thn (ho pins s σ H _ I h) fun ov s1 zz26 => el5 zz26 fun x H1 I1 r1 q1 => ?_))
 refine wpAny_bind (wpAny_holding (thn (hi pins s1 σ H1 _ I1 q1) fun iv s2 zz27 => el5 zz27 fun y H2 I2 r2 q2 => ?_))
 refine wpAny_bind (wpAny_standAt (wpAny_bind (wpAny_holding (thn (hs pins s2 σ H2 x y v ov iv u _ I2 r1 r2 r q2) fun _ s3 zz28 => el2 zz28 fun H3 I3 q3 => ?_))))
 exact wpAny_release ⟨σ, H3, I3, q3⟩
def A31 (te : TE) (g : TG) : TS := fun D σ H => te σ H fun x H1 => g x σ H1 D.nx
theorem Q5 {tg e : Expr} {te : TE} {g : TG} (he : PE X e te) (hg : PG X tg g) (hs : swapsWithSole [tg] e pos.line X.env = pure false := by rfl) (hw : swappedStores [tg] e X.env = pure none := by rfl)
  (h1 : (assignEach [tg] X.env).map (·.2) = [assign tg X.env] := by rfl) : PS X (.Assign [tg] e pos) (A31 te g) := by
 intro pins s σ H D I h
 refine wpAny_Assign_stores (thn (he pins s σ H _ I h) fun v s1 zz29 => el5 zz29 fun x H1 I1 r1 q1 => ?_) hs hw
 rw [h1]
 exact thn (hg pins s1 σ H1 x v _ I1 r1 q1) fun _ s2 q => q
theorem C1 {i : Nat} {x : Str} {e : Expr} {te : TE} {pos' : Pos} (hN : X.N.Nodup) (hi : X.N[i]? = some x) (hx : Loc X.env.scope x) (he : PE X e te) (hs : swapsWith e (some (.Name x pos')) pos.line X.env = pure false := by rfl) (hf : X.fn x = true \/ X.env.scope.names.lookup x = some .local := by first | exact .inl rfl | exact .inr rfl | assumption) :
  PS X (.Assign [.Name x pos'] e pos) (A31 te (Q4 i)) := by
 intro pins s σ H D I h
 refine wpAny_Assign_Name (thn (he pins s σ H _ I h) fun v s1 zz30 => el5 zz30 fun y H1 I1 r1 q1 => ?_) hs
 exact A3z I1 hN hi hx r1 (fun s2 I2 => ⟨_, H1, I2, q1⟩) hf
def B3w (i : Nat) (te : TE) (ti : TIp) : TS := fun D σ H => ∃ x, σ[i]? = some (some x) /\ te σ H fun y H1 => ti x y H1 fun z H2 => D.nx (σ.set i (some z)) H2
theorem B9i {i : Nat} {x : Str} {e : Expr} {te : TE} {op : Operator} {ti : TIp} {pos' : Pos} (hN : X.N.Nodup) (hi : X.N[i]? = some x) (hx : Loc X.env.scope x) (he : PE X e te) (ho : PIp X op ti) (hf : X.fn x = true \/ X.env.scope.names.lookup x = some .local := by first | exact .inl rfl | exact .inr rfl | assumption) :
  PS X (.AugAssign (.Name x pos') op e pos) (B3w i te ti) := by
 intro pins s σ H D I h
 obtain ⟨v, e1, h⟩ := h
 obtain ⟨m, hn, hl⟩ := I.loc
 have vis : Vis X.env.scope x := by rcases hx with k | k; exact .inl k; exact .inr (.inl k)
 obtain ⟨u, r, l⟩ := hl i x v hi e1 vis
 refine wpAny_AugAssign_Name ?_
 have go : wpAny (model X.prog X.w) X.A (eval e X.env) (fun w s₂ => wpAny (model X.prog X.w) X.A (inplaceOp op u w) (fun r s₃ => wpAny (model X.prog X.w) X.A (storeName X.env x r) (fun _ => SP X pins D .next) X.xe s₃) X.xe s₂) X.xe s := by
  refine thn (he pins s σ H _ I h) fun w s1 zz32 => el5 zz32 fun y H1 I1 r1 q1 => ?_
  refine thn (ho pins s1 σ H1 v y u w _ I1 r r1 q1) fun z s2 zz33 => el5 zz33 fun zv H2 I2 r2 q2 => ?_
  exact A3z I2 hN hi hx r2 (fun s3 I3 => ⟨_, H2, I3, q2⟩) hf
 rcases l with ⟨hk, hm⟩ | ⟨hk, c, hc, hcell⟩
 ·exact wpAny_loadName_local I.ok.kind hk hn hm go
 ·rcases hk with hk | hk
  ·exact wpAny_loadName_cell I.ok.kind hk hc hcell go
  ·rcases hx with k | k
   ·have : X.env.scope.names.lookup x = some .free := hk
    rw [k] at this; cases this
   ·have : X.env.scope.names.lookup x = some .free := hk
    rw [k] at this; cases this
def B9j (to ti te : TE) (tget : V -> V -> Hp -> VK -> Prop) (tip : TIp) (tset : A7e) : TS := fun D σ H => to σ H fun o H1 => ti σ H1 fun i H2 => tget o i H2 fun x H3 => te σ H3 fun y H4 => tip x y H4 fun z H5 => tset o i z H5 fun H6 => D.nx σ H6
def B3x (X : Cx) (t : V -> V -> Hp -> VK -> Prop) : Prop :=
 ∀ (pins : List (Addr × Obj)) (s : Shared) (σ : St) (H : Hp) (o i : V) (ov iv : Value) (Q : VK), Inv X pins σ H s -> F5 o ov -> F5 i iv -> t o i H Q ->
  wpAny (model X.prog X.w) X.A (getItem ov iv) (EP X pins σ Q) X.xe s
theorem B3y {o i e : Expr} {to ti te : TE} {tget : V -> V -> Hp -> VK -> Prop} {tip : TIp} {tset : A7e} {op : Operator} {tpos : Pos} (ho : PE X o to) (hi : PE X i ti) (hg : B3x X tget) (he : PE X e te) (hp : PIp X op tip) (hs : B0v X tset)
  (ha : ∀ ov iv new, augStore i ov iv new = (do holding [new, ov, iv] (setItem ov iv new); release [new, ov, iv] []; pure .next) := by intros; rfl) : PS X (.AugAssign (.Subscript o i tpos) op e pos) (B9j to ti te tget tip tset) := by
 intro pins s σ H D I h
 refine wpAny_AugAssign_SubscriptAny (thn (ho pins s σ H _ I h) fun ov s1 zz34 => el5 zz34 fun x1 H1 I1 r1 q1 => ?_) ha
 refine thn (hi pins s1 σ H1 _ I1 q1) fun iv s2 zz35 => el5 zz35 fun x2 H2 I2 r2 q2 => ?_
 refine thn (hg pins s2 σ H2 x1 x2 ov iv _ I2 r1 r2 q2) fun old s3 zz36 => el5 zz36 fun x3 H3 I3 r3 q3 => ?_
 refine thn (he pins s3 σ H3 _ I3 q3) fun v s4 zz37 => el5 zz37 fun x4 H4 I4 r4 q4 => ?_
 refine thn (hp pins s4 σ H4 x3 x4 old v _ I4 r3 r4 q4) fun new s5 zz38 => el5 zz38 fun x5 H5 I5 r5 q5 => ?_
 exact thn (hs pins s5 σ H5 x1 x2 x5 ov iv new _ I5 r1 r2 r5 q5) fun _ s6 zz39 => el2 zz39 fun H6 I6 q6 => ⟨σ, H6, I6, q6⟩
def ipI (f : Int -> Int -> Int) : TIp := fun x y H Q => ∃ i j, x = .int i /\ y = .int j /\ Q (.int (f i j)) H
theorem B3z : PIp X .Add (ipI fun i j => i + j) := by
 intro pins s σ H x y v u Q I r1 r2 h
 obtain ⟨i, j, e1, e2, q⟩ := h
 subst e1; subst e2
 obtain ⟨t, rfl⟩ := r1
 obtain ⟨t', rfl⟩ := r2
 exact iadd_int ⟨.int _, H, I.tok _, ⟨_, rfl⟩, q⟩
theorem B9k : PIp X .Sub (ipI fun i j => i - j) := by
 intro pins s σ H x y v u Q I r1 r2 h
 obtain ⟨i, j, e1, e2, q⟩ := h
 subst e1; subst e2
 obtain ⟨t, rfl⟩ := r1
 obtain ⟨t', rfl⟩ := r2
 exact isub_int ⟨.int _, H, I.tok _, ⟨_, rfl⟩, q⟩
end
section
variable {X : Cx} {pos : Pos}
def B0w (c : TT) (tb : TS) : TS := fun D σ H => ∃ W : Nat -> St -> Hp -> Prop, (∃ m, W m σ H) /\ ∀ m σ H, W m σ H ->
 c σ H fun b H1 => if b = true then ∃ N : St -> Hp -> Prop, (∀ σ' H', N σ' H' -> ∃ m', m' < m /\ W m' σ' H') /\ tb { D with nx := N, ct := N, bk := D.nx } σ H1 else D.nx σ H1
theorem A7g {c : Expr} {body : List Stmt} {tc : TT} {tb : TS} (hp : PassesOwn (model X.prog X.w) X.A X.env X.xe) (hc : PT X c tc) (hb : PSs X body tb) : PS X (.While c body [] pos) (B0w tc tb) := by
 intro pins s σ H D I h
 obtain ⟨W, ⟨m0, w0⟩, turn⟩ := h
 refine wpAny_While (codeAny_whileLoop (fun n s' => ∃ σ' H', Inv X pins σ' H' s' /\ W n σ' H') ?_ m0 ⟨σ, H, I, w0⟩)
 rintro n s1 ⟨σ1, H1, I1, w1⟩
 refine wpAny_passesOwn hp (thn (hc pins s1 σ1 H1 _ I1 (turn n σ1 H1 w1)) fun b s2 zz40 => el2 zz40 fun H2 I2 q2 => ?_)
 cases b with
 | true =>
  obtain ⟨N, hN, q2⟩ := q2
  rw [if_pos rfl]
  refine wpAny_passesOwn hp (thn (hb pins s2 σ1 H2 _ I2 q2) fun f s3 q3 => ?_)
  cases f with
  | next =>
   obtain ⟨σ3, H3, I3, n3⟩ := q3
   obtain ⟨m', hm, w3⟩ := hN σ3 H3 n3
   exact ⟨m', hm, σ3, H3, I3, w3⟩
  | cont =>
   obtain ⟨σ3, H3, I3, n3⟩ := q3
   obtain ⟨m', hm, w3⟩ := hN σ3 H3 n3
   exact ⟨m', hm, σ3, H3, I3, w3⟩
  | brk => exact q3
  | ret v => exact q3
 | false =>
  rw [if_neg Q2]
  exact wpAny_execs_nil ⟨σ1, H2, I2, q2⟩
end
structure It where
 go : Nat -> Hp -> Prop
 yld : Nat -> Hp -> V -> Hp -> Prop
 stop : Nat -> Hp -> Prop
def Y7 (X : Cx) (pins : List (Addr × Obj)) (H : Hp) (b : Addr) : Prop :=
 H b = none /\ b ≠ X.env.locals /\ b ∉ X.fs /\ (b ∈ X.ex \/ X.s₀.heap.objs.size <= b) /\ (∀ x c, X.env.cells.lookup x = some c -> c ≠ b) /\ ∀ p ∈ X.pn ++ pins, p.1 ≠ b
theorem Inv.fpOk {X : Cx} {pins : List (Addr × Obj)} {σ : St} {H H' : Hp} {s : Shared} {b : Addr} (I : Inv X pins σ H s) (hb : s.heap.objs.size <= b) (hn : H' b = none) : Y7 X pins H' b := by
 refine ⟨hn, B0j (S8 I.lt hb), I.nofs hb, .inr (t8 I.sz hb), fun x c e z => ?_, fun p hp z => ?_⟩
 ·obtain ⟨v, q⟩ := I.cell x c e
  exact absurd (S8 q.lt (by rw [z]; exact hb)) (h9 _)
 ·exact absurd (S8 (K3 (I.pin p hp).1) (by rw [z]; exact hb)) (h9 _)
structure A44 (P : Program) (w : World) (K : A3) (tg : Expr) (J : It) (fp : List Addr) (it : Addr) (tn : Nat -> Heap -> Prop) : Prop where
 mem : it ∈ fp
 obj : ∀ i h, tn i h -> ∀ b ∈ fp, ∃ o, h.get? b = some o /\ ∀ v, o.data ≠ .cell v
 keep : ∀ i h h', tn i h -> (∀ b ∈ fp, ∀ o, h.get? b = some o -> h'.get? b = some o) -> tn i h'
 item : ∀ (X : Cx), X.prog = P -> X.w = w -> X.K = K -> X.calm = true -> ∀ (i : Nat) (pins : List (Addr × Obj)) (s : Shared) (σ : St) (H : Hp) (E : Value -> Shared -> Prop), Inv X pins σ H s -> (∀ b ∈ fp, Y7 X pins H b) -> tn i s.heap -> J.go i H ->
  wpAny (model P w) X.A (pyNext (.ref it)) (fun r s1 => ∃ u, r = some u /\
   wpAny (model P w) X.A (letOwnedTupleGo tg (.ref it) u) (fun _ s2 => ∃ x H', Inv X pins σ H' s2 /\ F5 x u /\ J.yld i H x H' /\ tn (i + 1) s2.heap /\ ∀ b ∈ fp, H' b = none) E s1) E s
 done : ∀ (X : Cx), X.prog = P -> X.w = w -> X.K = K -> X.calm = true -> ∀ (i : Nat) (pins : List (Addr × Obj)) (s : Shared) (σ : St) (H : Hp) (E : Value -> Shared -> Prop), Inv X pins σ H s -> (∀ b ∈ fp, Y7 X pins H b) -> tn i s.heap -> J.stop i H ->
  wpAny (model P w) X.A (pyNext (.ref it)) (fun r s1 => r = none /\ Inv X pins σ H s1) E s
 self : ∀ (A : Around) (i : Nat) (s : Shared) (Q : Value -> Shared -> Prop) (E : Value -> Shared -> Prop), tn i s.heap -> Q (.ref it) s -> wpAny (model P w) A (pyIter (.ref it)) Q E s
abbrev TI := St -> Hp -> (It -> Hp -> Prop) -> Prop
def PIE (X : Cx) (pins : List (Addr × Obj)) (σ : St) (tg : Expr) (R : It -> Hp -> Prop) (itv : Value) (s2 : Shared) : Prop :=
 ∃ (it : Addr) (fp : List Addr) (tn : Nat -> Heap -> Prop) (J : It) (H' : Hp), itv = .ref it /\ Inv X pins σ H' s2 /\ A44 X.prog X.w X.K tg J fp it tn /\ tn 0 s2.heap /\ (∀ b ∈ fp, Y7 X pins H' b) /\ R J H'
def PI (X : Cx) (tg iter : Expr) (wi : TI) : Prop :=
 ∀ (pins : List (Addr × Obj)) (s : Shared) (σ : St) (H : Hp) (R : It -> Hp -> Prop), Inv X pins σ H s -> wi σ H R ->
  wpAny (model X.prog X.w) X.A (eval iter X.env) (fun v s1 => wpAny (model X.prog X.w) X.A (pyIter v) (PIE X pins σ tg R) X.xe s1) X.xe s
theorem B0x {M : Model} {A : Around} {E : Value -> Shared -> Prop} {s : Shared} {tg : Expr} {it : Addr} {u : Value} {o : Obj} {n : String} {vs : Array Value} {Q : Unit -> Shared -> Prop} (ho : s.heap.get? it = some o) (hc : o.cls = .type n) (hd : o.data = .fields vs)
  (hn : ["enumerate", "zip", "dict_itemiterator", "dict_reverseitemiterator", "odict_iterator", "itertools.zip_longest", "itertools.pairwise"].contains n = false) (hQ : Q () s) : wpAny M A (letOwnedTupleGo tg (.ref it) u) Q E s := by
 unfold letOwnedTupleGo
 cases tg <;> first
  | exact wpAny_pure hQ
  | (cases u <;> first
    | exact wpAny_pure hQ
    | (refine wpAny_bind (wpAny_load ho ?_)
       rw [hc, hd]
       show wpAny M A (if (["enumerate", "zip", "dict_itemiterator", "dict_reverseitemiterator", "odict_iterator", "itertools.zip_longest", "itertools.pairwise"].contains n && vs[0]? == some (rawInt _)) = true then _ else _) Q E s
       rw [if_neg (by intro h; rw [hn, Bool.false_and] at h; cases h)]
       exact wpAny_pure hQ))
def Itl (K : A3) (a : Addr) : It :=
 ⟨fun i H => ∃ xs x, SqL K H a xs /\ xs[i]? = some x, fun i H x H' => H' = H /\ ∀ xs, SqL K H a xs -> xs[i]? = some x, fun i H => ∃ xs, SqL K H a xs /\ xs.length <= i⟩
def Itr (lo : Int) (n : Nat) : It := ⟨fun i _ => i < n, fun i H x H' => H' = H /\ x = .int (lo + i), fun i _ => n <= i⟩
theorem B9l {P : Program} {w : World} {K : A3} {tg : Expr} (a it : Addr) : A44 P w K tg (Itl K a) [it] it (fun i h => h.IsListIter it a i) where
 mem := by simp
 obj := fun i h st b hb => by
  have e : b = it := by simpa using hb
  subst e
  obtain ⟨o, e, c, d⟩ := st
  exact ⟨o, e, fun v z => by rw [d] at z; cases z⟩
 keep := fun i h h' st k => st.at fun o e => k it (by simp) o e
 item := by
  intro X hP hw hK hc i pins s σ H E I hf st hg
  subst hP hw hK
  obtain ⟨xs, x, hq, hx⟩ := hg
  obtain ⟨its, rv, p, hz⟩ := I.list hq
  obtain ⟨u, hu, ru⟩ := rv.get hx
  obtain ⟨f0, f1, f2, f3, f4, f5⟩ := hf it (by simp)
  refine wpAny_pyNext_list_item st p.isList (x := u) (by simpa using hu) fun h' st' sb => ?_
  have I1 : Inv X pins σ H { s with heap := h' } := I.turned (t' := s.toks) (fun b o hb e => (sb.2 b hb).trans e) f0 f1 f3 f4 f5
  obtain ⟨o, e, c, d⟩ := id st'
  exact ⟨u, rfl, B0x (s := { s with heap := h' }) e c d (by decide) ⟨x, H, I1, ru, ⟨rfl, fun ys hy => by rw [I.list_inj hy hq]; exact hx⟩, st', fun b hb => (hf b hb).1⟩⟩
 done := by
  intro X hP hw hK hc i pins s σ H E I hf st hg
  subst hP hw hK
  obtain ⟨xs, hq, hx⟩ := hg
  obtain ⟨its, rv, p, hz⟩ := I.list hq
  obtain ⟨f0, f1, f2, f3, f4, f5⟩ := hf it (by simp)
  have hl := rv.length
  exact wpAny_pyNext_list_end (I.ok.hd hc) st p.isList (by simp; lia) fun h' eb => ⟨rfl, I.turned (t' := s.toks) (fun b o hb e => eb b o hb e) f0 f1 f3 f4 f5⟩
 self := fun _ _ _ _ _ st h => wpAny_pyIter_listiter st h
theorem B9m {P : Program} {w : World} {K : A3} {tg : Expr} (it : Addr) (lo : Int) (n : Nat) : A44 P w K tg (Itr lo n) [it] it (fun i h => IsRangeIter h it (lo + (i : Nat) * 1) ((n : Int) - (i : Nat)) 1) where
 mem := by simp
 obj := fun i h st b hb => by
  have e : b = it := by simpa using hb
  subst e
  exact ⟨_, st, fun v z => by
   have z' : Data.fields _ = Data.cell v := z
   cases z'⟩
 keep := fun i h h' st k => k it (by simp) _ st
 item := by
  intro X hP hw hK hc i pins s σ H E I hf st hg
  subst hP hw hK
  obtain ⟨f0, f1, f2, f3, f4, f5⟩ := hf it (by simp)
  have W := Walks.range (prog := X.prog) (w := X.w) (I.ok.hd hc) it lo 1 n
  refine W.item i s _ _ hg st fun v h' tk hv st' kk => ?_
  obtain ⟨t, rfl⟩ := hv
  have I1 : Inv X pins σ H { s with heap := h', toks := tk } := I.turned (fun b o hb e => kk b o (by simpa using hb) e) f0 f1 f3 f4 f5
  refine ⟨_, rfl, B0x (s := { s with heap := h', toks := tk }) (n := "range_iterator") st' rfl rfl (by decide) ⟨.int (lo + i), H, I1, ⟨t, ?_⟩, ⟨rfl, rfl⟩, st', fun b hb => (hf b hb).1⟩⟩
  rw [Int.mul_one]
 done := by
  intro X hP hw hK hc i pins s σ H E I hf st hg
  subst hP hw hK
  obtain ⟨f0, f1, f2, f3, f4, f5⟩ := hf it (by simp)
  exact wpAny_pyNext_range_end (I.ok.hd hc) st (by have : n <= i := hg; lia) fun h' eb => ⟨rfl, I.turned (t' := s.toks) (fun b o hb e => eb b o hb e) f0 f1 f3 f4 f5⟩
 self := fun _ _ _ _ _ st h => wpAny_pyIter_rangeiter st h
end L2
namespace L2
open PySem PySem.Spec PyProof.Rows
section
variable {X : Cx} {tg : Expr}
def B30 (K : A3) (tl : TE) : TI := fun σ H R => tl σ H fun x H1 => ∃ a, x = .ref a /\ (∃ xs, SqL K H1 a xs) /\ R (Itl K a) H1
theorem A8t {l : Expr} {tl : TE} (hl : PE X l tl) : PI X tg l (B30 X.K tl) := by
 intro pins s σ H R I h
 refine thn (hl pins s σ H _ I h) fun v s1 zz41 => el5 zz41 fun x H1 I1 r1 q1 => ?_
 obtain ⟨a, e, ⟨xs, hq⟩, q⟩ := q1
 subst e
 cases r1
 obtain ⟨its, rv, p, hz⟩ := I1.list hq
 refine wpAny_pyIter_list p.isList ?_
 refine ⟨s1.heap.objs.size, [s1.heap.objs.size], _, _, H1, rfl, I1.kept (t' := s1.toks) fun b o e => U6 _ e, B9l a _, ⟨_, i9 _ rfl, rfl, rfl⟩, fun b hb => ?_, q⟩
 have e : b = s1.heap.objs.size := by simpa using hb
 subst e
 exact I1.fpOk (J8 _) (I1.hok.fresh (J8 _))
theorem B9n {pins : List (Addr × Obj)} {σ : St} {H : Hp} {s : Shared} {R : It -> Hp -> Prop} {E : Value -> Shared -> Prop} {lo hi : Int} {t u v : Tok} {tk : Nat} (I : Inv X pins σ H s) (h1 : -(2 ^ 62) <= lo) (h2 : lo < 2 ^ 62) (h3 : -(2 ^ 62) <= hi) (h4 : hi < 2 ^ 62)
  (q : R (Itr lo (hi - lo).toNat) H) : wpAny (model X.prog X.w) X.A (pyIter (.ref s.heap.objs.size)) (PIE X pins σ tg R) E { s with heap := s.heap.push { cls := .type "range", data := .fields #[.int lo t, .int hi u, .int 1 v] }, toks := tk } := by
 refine wpAny_pyIter_range (IsRange.new ..) (small_one h1 h2 h3 h4) ?_
 have I1 : Inv X pins σ H { s with heap := s.heap.push { cls := .type "range", data := .fields #[.int lo t, .int hi u, .int 1 v] }, toks := tk } := I.kept fun b o e => U6 _ e
 refine ⟨(s.heap.push { cls := .type "range", data := .fields #[.int lo t, .int hi u, .int 1 v] }).objs.size, [(s.heap.push { cls := .type "range", data := .fields #[.int lo t, .int hi u, .int 1 v] }).objs.size], _, _, H, rfl,
  I1.kept (t' := tk) fun b o e => U6 _ e, B9m _ lo (hi - lo).toNat, ?_, fun b hb => ?_, q⟩
 ·have e1 : lo + ((0 : Nat) : Int) * 1 = lo := by simp
  have e2 : (((hi - lo).toNat : Nat) : Int) - ((0 : Nat) : Int) = Builtin.Range.rangeSize lo hi 1 := by rw [rangeSize_one]; split <;> lia
  show IsRangeIter _ _ (lo + ((0 : Nat) : Int) * 1) ((((hi - lo).toNat : Nat) : Int) - ((0 : Nat) : Int)) 1
  rw [e1, e2]
  exact i9 _ rfl
 ·have e : b = (s.heap.push { cls := .type "range", data := .fields #[.int lo t, .int hi u, .int 1 v] }).objs.size := by simpa using hb
  subst e
  exact I1.fpOk (J8 _) (I1.hok.fresh (J8 _))
def B31 (ta : TA) : TI := fun σ H R => ta σ H fun vs H1 => ∃ j : Int, vs = [.int j] /\ -(2 ^ 62) <= j /\ j < 2 ^ 62 /\ R (Itr 0 j.toNat) H1
theorem w4 {a : Expr} {ta : TA} {p pos : Pos} (hg : Gl X "range") (hm : X.mg "range" = none) (ha : PA X [a] ta) (hs : starEach [a] X.env = [(false, eval a X.env)] := by rfl) : PI X tg (.Call (.Name "range" p) [a] [] pos) (B31 ta) := by
 intro pins s σ H R I h
 refine Call_ (A10 I hg hm boot_range (PyProof.Rows.callWith_type1 (thn (ha pos pins s σ H _ I h) fun us s1 zz43 => el5 zz43 fun vs H1 I1 r1 q1 => ?_) hs rfl))
 obtain ⟨j, e, q1, q2, q⟩ := q1
 subst e
 cases r1 with
 | cons r rr =>
  cases rr
  obtain ⟨t, rfl⟩ := r
  exact call_range_1 (B9n I1 (by lia) (by lia) q1 q2 (by simpa using q))
def A8u (wi : TI) (g : TG) (tb : TS) : TS := fun D σ H => wi σ H fun J H1 => ∃ W : Nat -> Nat -> St -> Hp -> Prop, (∃ m, W 0 m σ H1) /\ ∀ i m σ H, W i m σ H ->
 (J.stop i H /\ D.nx σ H) \/ (J.go i H /\ ∃ N : St -> Hp -> Prop, (∀ σ' H', N σ' H' -> ∃ m', m' < m /\ W (i + 1) m' σ' H') /\ ∀ x H', J.yld i H x H' -> g x σ H' fun σ2 H2 => tb { D with nx := N, ct := N, bk := D.nx } σ2 H2)
def A7h (fp : List Addr) (h : Heap) : List (Addr × Obj) := fp.filterMap fun b => (h.get? b).map fun o => (b, o)
theorem A8v {fp : List Addr} {h : Heap} {b : Addr} {o : Obj} (hb : b ∈ fp) (e : h.get? b = some o) : (b, o) ∈ A7h fp h := List.mem_filterMap.mpr ⟨b, hb, by rw [e]; rfl⟩
theorem B9o {fp : List Addr} {h : Heap} {p : Addr × Obj} (hp : p ∈ A7h fp h) : p.1 ∈ fp /\ h.get? p.1 = some p.2 := by
 obtain ⟨b, hb, e⟩ := List.mem_filterMap.mp hp
 cases q : h.get? b with
 | none => rw [q] at e; cases e
 | some o =>
  rw [q] at e
  have e' : (b, o) = p := Option.some.inj e
  subst e'
  exact ⟨hb, q⟩
theorem Inv.pinned {pins : List (Addr × Obj)} {σ : St} {H : Hp} {s : Shared} {fp : List Addr} (I : Inv X pins σ H s) (hf : ∀ b ∈ fp, Y7 X pins H b) (ho : ∀ b ∈ fp, ∃ o, s.heap.get? b = some o /\ ∀ v, o.data ≠ .cell v) : Inv X (pins ++ A7h fp s.heap) σ H s :=
 I.pins_of fun p hp => (O8.mp hp).elim (fun z => I.pin p (Z9 _ z)) fun z => by
  obtain ⟨hb, e⟩ := B9o z
  obtain ⟨f0, f1, f2, _⟩ := hf p.1 hb
  obtain ⟨o, e', d⟩ := ho p.1 hb
  rw [e] at e'; cases e'
  exact ⟨e, f0, f1, f2, d⟩
theorem Inv.unpinned {pins pl : List (Addr × Obj)} {σ : St} {H : Hp} {s : Shared} (I : Inv X (pins ++ pl) σ H s) : Inv X pins σ H s := I.pins_of fun p hp => I.pin p (Z9 _ (B0i _ hp))
theorem U7 {iter : Expr} {body : List Stmt} {wi : TI} {g : TG} {tb : TS} {pos : Pos} (hp : PassesOwn (model X.prog X.w) X.A X.env X.xe) (hc : X.calm = true) (hi : PI X tg iter wi) (hg : PG X tg g) (hb : PSs X body tb)
  (hs : ∀ x, foldedSetIterable iter X.env x = pure x := by intro _; rfl) : PS X (.For tg iter body [] pos) (A8u wi g tb) := by
 intro pins s σ H D I h
 refine wpAny_For (thn (hi pins s σ H _ I h) fun v s1 h1 => thn h1 fun itv s2 h2 => ?_) hs
 obtain ⟨it, fp, tn, J, H2, e, I2, T, st2, f2, W, ⟨m0, w0⟩, turn⟩ := h2
 subst e
 have stat : ∀ {H' : Hp}, (∀ b ∈ fp, H' b = none) -> ∀ b ∈ fp, Y7 X pins H' b := fun hn b hb => ⟨hn b hb, (f2 b hb).2⟩
 refine codeAny_forLoop_any (fun n s' => ∃ i σ' H', Inv X pins σ' H' s' /\ tn i s'.heap /\ (∀ b ∈ fp, H' b = none) /\ W i n σ' H') ?_ m0 ⟨0, σ, H2, I2, st2, fun b hb => (f2 b hb).1, w0⟩
 rintro n s3 ⟨i, σ3, H3, I3, st3, fr3, w3⟩
 rcases turn i n σ3 H3 w3 with ⟨stop, qn⟩ | ⟨go, N, hN, step⟩
 ·refine wpAny_passesOwn hp (thn (T.done X rfl rfl rfl hc i pins s3 σ3 H3 X.xe I3 (stat fr3) st3 stop) fun r s4 zz45 => zz45.elim fun hr I4 => ?_)
  subst hr
  exact wpAny_execs_nil ⟨σ3, H3, I4, qn⟩
 ·refine wpAny_passesOwn hp (thn (T.item X rfl rfl rfl hc i pins s3 σ3 H3 X.xe I3 (stat fr3) st3 go) fun r s4 zz46 => el2 zz46 fun u hr h4 => ?_)
  subst hr
  refine wpAny_passesOwn hp (thn h4 fun _ s5 zz47 => zz47.elim fun x zz48 => zz48.elim fun H5 zz49 => zz49.elim fun I5 zz50 => zz50.elim fun r5 zz51 => zz51.elim fun y5 zz52 => zz52.elim fun st5 fr5 => ?_)
  have I5' := I5.pinned (stat fr5) (T.obj _ _ st5)
  refine wpAny_passesOwn hp (thn (hg _ s5 σ3 H5 x u _ I5' r5 (step x H5 y5)) fun _ s6 zz53 => zz53.elim fun σ6 zz54 => zz54.elim fun H6 zz55 => zz55.elim fun I6 q6 => ?_)
  refine wpAny_passesOwn hp (thn (hb _ s6 σ6 H6 _ I6 q6) fun f s7 q7 => ?_)
  have again : ∀ {σ7 : St} {H7 : Hp}, Inv X (pins ++ A7h fp s5.heap) σ7 H7 s7 -> N σ7 H7 -> ∃ m, m < n /\ ∃ i σ' H', Inv X pins σ' H' s7 /\ tn i s7.heap /\ (∀ b ∈ fp, H' b = none) /\ W i m σ' H' := fun {σ7 H7} I7 n7 => by
   obtain ⟨m', hm, w7⟩ := hN σ7 H7 n7
   refine ⟨m', hm, i + 1, σ7, H7, I7.unpinned, T.keep _ _ _ st5 fun b hb o e => (I7.pin (b, o) (Z9 _ (Z9 _ (A8v hb e)))).1, fun b hb => ?_, w7⟩
   obtain ⟨o, e, d⟩ := T.obj _ _ st5 b hb
   exact (I7.pin (b, o) (Z9 _ (Z9 _ (A8v hb e)))).2.1
  cases f with
  | next => obtain ⟨σ7, H7, I7, n7⟩ := q7; exact again I7 n7
  | cont => obtain ⟨σ7, H7, I7, n7⟩ := q7; exact again I7 n7
  | brk => obtain ⟨σ7, H7, I7, q7⟩ := q7; exact ⟨σ7, H7, I7.unpinned, q7⟩
  | ret v => obtain ⟨x7, σ7, H7, I7, r7, q7⟩ := q7; exact ⟨x7, σ7, H7, I7.unpinned, r7, q7⟩
end
theorem B9p {K : A3} {a : Addr} {xs : List V} {g : TG} {tb : TS} {D : v5} {σ : St} {H : Hp} (Pv : Nat -> St -> Hp -> Prop) (h0 : Pv 0 σ H) (hl : ∀ i σ H, i <= xs.length -> Pv i σ H -> SqL K H a xs)
  (hs : ∀ i x σ H, xs[i]? = some x -> Pv i σ H -> g x σ H fun σ2 H2 => tb { D with nx := Pv (i + 1), ct := Pv (i + 1), bk := D.nx } σ2 H2) (hd : ∀ σ H, Pv xs.length σ H -> D.nx σ H) :
  ∃ W : Nat -> Nat -> St -> Hp -> Prop, (∃ m, W 0 m σ H) /\ ∀ i m σ H, W i m σ H ->
   ((Itl K a).stop i H /\ D.nx σ H) \/ ((Itl K a).go i H /\ ∃ N : St -> Hp -> Prop, (∀ σ' H', N σ' H' -> ∃ m', m' < m /\ W (i + 1) m' σ' H') /\ ∀ x H', (Itl K a).yld i H x H' -> g x σ H' fun σ2 H2 => tb { D with nx := N, ct := N, bk := D.nx } σ2 H2) := by
 refine ⟨fun i m σ H => m = xs.length - i /\ i <= xs.length /\ Pv i σ H, ⟨xs.length, by simp, M9 _, h0⟩, ?_⟩
 rintro i m σ H ⟨rfl, hi, p⟩
 have q := hl i σ H hi p
 by_cases hlt : i < xs.length
 ·refine .inr ⟨⟨xs, xs[i], q, by simp [hlt]⟩, Pv (i + 1), fun σ' H' p' => ⟨xs.length - (i + 1), by lia, rfl, hlt, p'⟩, fun x H' y => ?_⟩
  obtain ⟨e, y⟩ := y
  subst e
  exact hs i x σ _ (y xs q) p
 ·have e : i = xs.length := by lia
  subst e
  exact .inl ⟨⟨xs, q, J8 _⟩, hd σ H p⟩
theorem B9q {c : TT} {tb : TS} {D : v5} {σ : St} {H : Hp} (Pv : St -> Hp -> Prop) (μ : St -> Hp -> Nat) (h0 : Pv σ H)
  (hs : ∀ σ H, Pv σ H -> c σ H fun b H1 => if b = true then tb { D with nx := fun σ' H' => Pv σ' H' /\ μ σ' H' < μ σ H, ct := fun σ' H' => Pv σ' H' /\ μ σ' H' < μ σ H, bk := D.nx } σ H1 else D.nx σ H1)
  (mono : ∀ σ H Q Q', (∀ b H1, Q b H1 -> Q' b H1) -> c σ H Q -> c σ H Q') : B0w c tb D σ H := by
 refine ⟨fun m σ H => m = μ σ H /\ Pv σ H, ⟨_, rfl, h0⟩, ?_⟩
 rintro m σ H ⟨rfl, p⟩
 refine mono σ H _ _ (fun b H1 q => ?_) (hs σ H p)
 cases b with
 | true => exact ⟨_, fun σ' H' zz56 => zz56.elim fun p' l => ⟨_, l, rfl, p'⟩, q⟩
 | false => exact q
end L2
namespace L2
open PySem PySem.Spec PyProof.Rows
abbrev R2 := V -> V -> Hp -> VK -> Prop
def OpR (X : Cx) (f : Value -> Value -> Sem Value) (r : R2) : Prop :=
 ∀ (pins : List (Addr × Obj)) (s : Shared) (σ : St) (H : Hp) (x y : V) (v u : Value) (Q : VK), Inv X pins σ H s -> F5 x v -> F5 y u -> r x y H Q ->
  wpAny (model X.prog X.w) X.A (f v u) (EP X pins σ Q) X.xe s
def UnR (X : Cx) (f : Value -> Sem Value) (r : V -> Hp -> VK -> Prop) : Prop :=
 ∀ (pins : List (Addr × Obj)) (s : Shared) (σ : St) (H : Hp) (x : V) (v : Value) (Q : VK), Inv X pins σ H s -> F5 x v -> r x H Q ->
  wpAny (model X.prog X.w) X.A (f v) (EP X pins σ Q) X.xe s
def w5 (X : Cx) (f : Value) (r : List V -> Hp -> VK -> Prop) : Prop :=
 ∀ (pins : List (Addr × Obj)) (s : Shared) (σ : St) (H : Hp) (xs : List V) (us : List Value) (Q : VK), Inv X pins σ H s -> D9 xs us -> r xs H Q ->
  wpAny (model X.prog X.w) X.A (call f us) (EP X pins σ Q) X.xe s
def tOp (r : R2) (ta tb : TE) : TE := fun σ H Q => ta σ H fun x H1 => tb σ H1 fun y H2 => r x y H2 Q
def tUn (r : V -> Hp -> VK -> Prop) (ta : TE) : TE := fun σ H Q => ta σ H fun x H1 => r x H1 Q
def rI (C : Int -> Int -> Prop) (g : Int -> Int -> V) : R2 := fun x y H Q => ∃ i j, x = .int i /\ y = .int j /\ C i j /\ Q (g i j) H
def rI0 (g : Int -> Int -> V) : R2 := fun x y H Q => ∃ i j, x = .int i /\ y = .int j /\ Q (g i j) H
def rU (g : Int -> V) : V -> Hp -> VK -> Prop := fun x H Q => ∃ i, x = .int i /\ Q (g i) H
section
variable {X : Cx} {a b c : Expr} {ta tb tc : TE} {pos : Pos}
theorem B0y (ha : PE X a ta) (hb : PE X b tb) {pins : List (Addr × Obj)} {s : Shared} {σ : St} {H : Hp} {R : V -> V -> Hp -> Prop} (I : Inv X pins σ H s)
  (h : ta σ H fun x H1 => tb σ H1 fun y H2 => R x y H2) {Q : Value -> Shared -> Prop} {f : Value -> Value -> Sem Value}
  (hf : ∀ v u s2 x y H2, Inv X pins σ H2 s2 -> F5 x v -> F5 y u -> R x y H2 -> wpAny (model X.prog X.w) X.A (f v u) Q X.xe s2) :
  wpAny (model X.prog X.w) X.A (eval a X.env) (fun v s₁ => wpAny (model X.prog X.w) X.A (eval b X.env) (fun u s₂ => wpAny (model X.prog X.w) X.A (f v u) Q X.xe s₂) X.xe s₁) X.xe s := by
 refine thn (ha pins s σ H _ I h) fun v s1 zz57 => el5 zz57 fun x H1 I1 r1 q1 => ?_
 refine thn (hb pins s1 σ H1 _ I1 q1) fun u s2 zz58 => el5 zz58 fun y H2 I2 r2 q2 => ?_
 exact hf v u s2 x y H2 I2 r1 r2 q2
theorem M4 {op : Operator} {r : R2} (ho : OpR X (binaryOp op) r) (ha : PE X a ta) (hb : PE X b tb) : PE X (.BinOp a op b pos) (tOp r ta tb) := by
 intro pins s σ H Q I h
 exact wpAny_BinOp (B0y ha hb I h fun v u s2 x y H2 I2 rx ry q => ho pins s2 σ H2 x y v u Q I2 rx ry q)
theorem B32 {op : UnaryOp} {r : V -> Hp -> VK -> Prop} (ho : UnR X (unaryOp op) r) (ha : PE X a ta) : PE X (.UnaryOp op a pos) (tUn r ta) := by
 intro pins s σ H Q I h
 exact UnaryOp_ (thn (ha pins s σ H _ I h) fun v s1 zz59 => el5 zz59 fun x H1 I1 r1 q1 => ho pins s1 σ H1 x v Q I1 r1 q1)
theorem opI {f : Value -> Value -> Sem Value} {C : Int -> Int -> Prop} {g : Int -> Int -> Int}
  (rule : ∀ (i j : Int) (t u : Tok) (s : Shared) (Q : Value -> Shared -> Prop) (E : Value -> Shared -> Prop), C i j -> Q (.int (g i j) s.toks) { s with toks := s.toks + 1 } -> wpAny (model X.prog X.w) X.A (f (.int i t) (.int j u)) Q E s) :
  OpR X f (rI C fun i j => .int (g i j)) := by
 intro pins s σ H x y v u Q I rx ry h
 obtain ⟨i, j, rfl, rfl, hc, q⟩ := h
 obtain ⟨t, rfl⟩ := rx
 obtain ⟨t', rfl⟩ := ry
 exact rule i j t t' s _ _ hc ⟨.int (g i j), H, I.tok _, ⟨_, rfl⟩, q⟩
theorem B0z {f : Value -> Value -> Sem Value} {g : Int -> Int -> Int}
  (rule : ∀ (i j : Int) (t u : Tok) (s : Shared) (Q : Value -> Shared -> Prop) (E : Value -> Shared -> Prop), Q (.int (g i j) s.toks) { s with toks := s.toks + 1 } -> wpAny (model X.prog X.w) X.A (f (.int i t) (.int j u)) Q E s) :
  OpR X f (rI0 fun i j => .int (g i j)) := by
 intro pins s σ H x y v u Q I rx ry h
 obtain ⟨i, j, rfl, rfl, q⟩ := h
 obtain ⟨t, rfl⟩ := rx
 obtain ⟨t', rfl⟩ := ry
 exact rule i j t t' s _ _ ⟨.int (g i j), H, I.tok _, ⟨_, rfl⟩, q⟩
theorem A8w {f : Value -> Value -> Sem Value} {g : Int -> Int -> Bool}
  (rule : ∀ (i j : Int) (t u : Tok) (s : Shared) (Q : Value -> Shared -> Prop) (E : Value -> Shared -> Prop), Q (.bool (g i j)) s -> wpAny (model X.prog X.w) X.A (f (.int i t) (.int j u)) Q E s) :
  OpR X f (rI0 fun i j => .bl (g i j)) := by
 intro pins s σ H x y v u Q I rx ry h
 obtain ⟨i, j, rfl, rfl, q⟩ := h
 obtain ⟨t, rfl⟩ := rx
 obtain ⟨t', rfl⟩ := ry
 exact rule i j t t' s _ _ ⟨.bl (g i j), H, I, rfl, q⟩
def A45 (i j : Int) : Prop := 0 <= j /\ j <= 1000000 /\ i.natAbs < 2 ^ 64
def A46 (i j : Int) : Prop := (-(2 ^ 64) < i /\ i < 2 ^ 64) \/ (-(2 ^ 64) < j /\ j < 2 ^ 64)
theorem A46.ok {i j : Int} (h : A46 i j) : IntMulOk i j := by
 rcases h with ⟨h1, h2⟩ | ⟨h1, h2⟩
 ·exact .of_left (intBits_le_64 h1 h2)
 ·exact .of_right (intBits_le_64 h1 h2)
theorem L8 : OpR X (binaryOp .Add) (rI0 fun i j => .int (i + j)) := B0z fun _ _ _ _ _ _ _ q => add_int q
theorem j8 : OpR X (binaryOp .Sub) (rI0 fun i j => .int (i - j)) := B0z fun _ _ _ _ _ _ _ q => sub_int q
theorem X1 : OpR X (binaryOp .Mult) (rI A46 fun i j => .int (i * j)) := opI fun _ _ _ _ _ _ _ hc q => mul_int q hc.ok
theorem j9 : OpR X (binaryOp .Mod) (rI (fun _ j => 0 < j) fun i j => .int (i % j)) := opI fun i j _ _ _ _ _ hc q => by
 have h1 : (0 : Int) < j := hc
 exact mod_int' (by lia) (by rw [Int.fmod_eq_emod_of_nonneg i (by lia)]; exact q)
theorem m5 : OpR X (binaryOp .Pow) (rI A45 fun i j => .int (i ^ j.toNat)) := opI fun _ _ _ _ _ _ _ hc q => pow_int_small hc.1 hc.2.1 hc.2.2 q
theorem A7i : OpR X (binaryOp .LShift) (rI A45 fun i j => .int (i * 2 ^ j.toNat)) := opI fun _ _ _ _ _ _ _ hc q => lshift_int_small hc.1 hc.2.1 hc.2.2 q
theorem B9r : OpR X (binaryOp .BitAnd) (rI0 fun i j => .int (Builtin.bitAnd i j)) := B0z fun _ _ _ _ _ _ _ q => and_int q
theorem unI {f : Value -> Sem Value} {g : Int -> Int}
  (rule : ∀ (i : Int) (t : Tok) (s : Shared) (Q : Value -> Shared -> Prop) (E : Value -> Shared -> Prop), Q (.int (g i) s.toks) { s with toks := s.toks + 1 } -> wpAny (model X.prog X.w) X.A (f (.int i t)) Q E s) :
  UnR X f (rU fun i => .int (g i)) := by
 intro pins s σ H x v Q I rx h
 obtain ⟨i, rfl, q⟩ := h
 obtain ⟨t, rfl⟩ := rx
 exact rule i t s _ _ ⟨.int (g i), H, I.tok _, ⟨_, rfl⟩, q⟩
theorem B33 : UnR X (unaryOp .USub) (rU fun i => .int (-i)) := unI fun _ _ _ _ _ q => neg_int q
end
def B9s : V -> V -> Bool
 | .non, .non => true | .non, .int _ => true | .int _, .non => true | .non, .bl _ => true | .bl _, .non => true | .non, .str _ => true | .str _, .non => true
 | .int _, .int _ => true | .bl _, .bl _ => true | .str _, .str _ => true | .byt _, .byt _ => true
 | .int _, .str _ => true | .str _, .int _ => true | .bl _, .str _ => true | .str _, .bl _ => true
 | _, _ => false
def rEq : R2 := fun x y H Q => B9s x y = true /\ Q (.bl (decide (x = y))) H
theorem B9t {i j : Int} : decide (V.int i = V.int j) = (i == j) := by
 rw [B29]
 simp
theorem B9u {i j : Bool} : decide (V.bl i = V.bl j) = (i == j) := by
 rw [B29]
 simp
theorem B9v {i j : Str} : decide (V.str i = V.str j) = (i == j) := by
 rw [B29]
 simp
theorem B9w {i j : Array UInt8} : decide (V.byt i = V.byt j) = (i.toList == j.toList) := by
 rw [B29]
 cases i
 cases j
 simp
section
variable {X : Cx} {a b c : Expr} {ta tb tc : TE} {pos : Pos}
theorem S9 {pins : List (Addr × Obj)} {σ : St} {H : Hp} {s : Shared} {Q : VK} {k k' : Bool} (I : Inv X pins σ H s) (q : Q (.bl k) H) (e : k = k') : EP X pins σ Q (.bool k') s := by
 subst e
 exact ⟨.bl k, H, I, rfl, q⟩
theorem B34 : OpR X (compareOp .Eq) rEq := by
 intro pins s σ H x y v u Q I rx ry h
 obtain ⟨hs, q⟩ := h
 cases x with
 | non =>
  cases rx
  cases y with
  | non => cases ry; exact PySem.EqNone.eq_none_none (S9 I q (by simp))
  | bl j => cases ry; exact PySem.EqNone.eq_none_bool (S9 I q (by simp))
  | int j => obtain ⟨t', rfl⟩ := ry; exact PySem.EqNone.eq_none_int (S9 I q (by simp))
  | str j => obtain ⟨t', rfl⟩ := ry; exact PySem.EqNone.eq_none_str (S9 I q (by simp))
  | _ => exact absurd (show false = true from hs) Q2
 | bl i =>
  cases rx
  cases y with
  | non => cases ry; exact PySem.EqNone.eq_bool_none (S9 I q (by simp))
  | bl j => cases ry; exact eq_bool (S9 I q B9u)
  | str j => obtain ⟨t', rfl⟩ := ry; exact PySem.EqMixed.eq_bool_str (S9 I q (by simp))
  | _ => exact absurd (show false = true from hs) Q2
 | int i =>
  obtain ⟨t, rfl⟩ := rx
  cases y with
  | non => cases ry; exact PySem.EqNone.eq_int_none (S9 I q (by simp))
  | int j => obtain ⟨t', rfl⟩ := ry; exact eq_int (S9 I q B9t)
  | str j => obtain ⟨t', rfl⟩ := ry; exact PySem.EqMixed.eq_int_str (S9 I q (by simp))
  | _ => exact absurd (show false = true from hs) Q2
 | str i =>
  obtain ⟨t, rfl⟩ := rx
  cases y with
  | non => cases ry; exact PySem.EqNone.eq_str_none (S9 I q (by simp))
  | bl j => cases ry; exact PySem.EqMixed.eq_str_bool (S9 I q (by simp))
  | int j => obtain ⟨t', rfl⟩ := ry; exact PySem.EqMixed.eq_str_int (S9 I q (by simp))
  | str j => obtain ⟨t', rfl⟩ := ry; exact eq_str (S9 I q B9v)
  | _ => exact absurd (show false = true from hs) Q2
 | byt i =>
  obtain ⟨t, rfl⟩ := rx
  cases y with
  | byt j => obtain ⟨t', rfl⟩ := ry; exact PySem.W.eq_bytes (S9 I q B9w)
  | _ => exact absurd (show false = true from hs) Q2
 | _ => cases y <;> exact absurd (show false = true from hs) Q2
theorem T0 : OpR X (compareOp .Lt) (rI0 fun i j => .bl (decide (i < j))) := A8w fun _ _ _ _ _ _ _ q => lt_int q
theorem A47 : OpR X (compareOp .LtE) (rI0 fun i j => .bl (decide (i <= j))) := A8w fun _ _ _ _ _ _ _ q => le_int q
theorem b6 : OpR X (compareOp .Gt) (rI0 fun i j => .bl (decide (j < i))) := A8w fun _ _ _ _ _ _ _ q => gt_int q
theorem B35 : OpR X (compareOp .GtE) (rI0 fun i j => .bl (decide (j <= i))) := A8w fun _ _ _ _ _ _ _ q => ge_int q
theorem T1 : OpR X (compareOp .Is) (fun x y H Q => y = .non /\ Q (.bl (decide (x = .non))) H) := by
 intro pins s σ H x y v u Q I rx ry h
 obtain ⟨rfl, q⟩ := h
 cases ry
 refine is_none_gen (S9 I q ?_)
 cases x <;> first
  | (cases rx; rfl)
  | (obtain ⟨t, rfl⟩ := rx; rfl)
theorem A8x : OpR X (compareOp .IsNot) (fun x y H Q => y = .non /\ Q (.bl (!decide (x = .non))) H) := by
 intro pins s σ H x y v u Q I rx ry h
 obtain ⟨rfl, q⟩ := h
 cases ry
 refine isnot_none_gen (S9 I q ?_)
 cases x <;> first
  | (cases rx; rfl)
  | (obtain ⟨t, rfl⟩ := rx; rfl)
theorem D5 (b : Expr) {op : CmpOp} (h : op ≠ .In := by decide) (h2 : op ≠ .NotIn := by decide) : behindInMarks op b = false := by
 have e1 : (op == CmpOp.In) = false := by cases op <;> first | rfl | exact absurd rfl h
 have e2 : (op == CmpOp.NotIn) = false := by cases op <;> first | rfl | exact absurd rfl h2
 cases b <;> simp [behindInMarks, e1, e2]
theorem B9x {op : CmpOp} {r : R2} (ho : OpR X (compareOp op) r) (ha : PE X a ta) (hb : PE X b tb) (hm : behindInMarks op b = false) : PE X (.Compare a [op] [b] pos) (tOp r ta tb) := by
 intro pins s σ H Q I h
 exact wpAny_Compare1 (B0y ha hb I h fun v u s2 x y H2 I2 rx ry q => ho pins s2 σ H2 x y v u Q I2 rx ry q) hm
def B36 (t : TE) : TT := fun σ H Q => t σ H fun x H' => ∃ k, x = .bl k /\ Q k H'
theorem b7 {op : CmpOp} {r : R2} (ho : OpR X (compareOp op) r) (ha : PE X a ta) (hb : PE X b tb) (hm : behindInMarks op b = false) : PT X (.Compare a [op] [b] pos) (B36 (tOp r ta tb)) := by
 intro pins s σ H Q I h
 refine wpAny_isTrue_Compare1 (thn (ha pins s σ H _ I h) fun v s1 zz60 => el5 zz60 fun x H1 I1 r1 q1 => thn (hb pins s1 σ H1 _ I1 q1) fun u s2 zz61 => el5 zz61 fun y H2 I2 r2 q2 =>
  thn (ho pins s2 σ H2 x y v u _ I2 r1 r2 q2) fun c s3 zz62 => zz62.elim fun z zz63 => zz63.elim fun H3 zz64 => zz64.elim fun I3 zz65 => zz65.elim fun r3 zz66 => zz66.elim fun k zz67 => zz67.elim fun e q3 => ?_) hm
 subst e
 cases r3
 exact wpAny_truthy_bool ⟨H3, I3, q3⟩
def B00 (r r' : R2) (ta tb tc : TE) : TE := fun σ H Q => ta σ H fun x H1 => tb σ H1 fun y H2 => r x y H2 fun z H3 => ∃ k, z = .bl k /\
 (if k = true then tc σ H3 fun w' H4 => r' y w' H4 Q else Q (.bl false) H3)
theorem B9y {op op' : CmpOp} {r r' : R2} (ho : OpR X (compareOp op) r) (ho' : OpR X (compareOp op') r') (ha : PE X a ta) (hb : PE X b tb) (hc : PE X c tc)
  (hm : lastMarks [op, op'] [b, c] = false := by with_unfolding_all rfl) : PE X (.Compare a [op, op'] [b, c] pos) (B00 r r' ta tb tc) := by
 intro pins s σ H Q I h
 refine Compare_chain (thn (ha pins s σ H _ I h) fun v s1 zz68 => el5 zz68 fun x H1 I1 r1 q1 => chain_link (thn (hb pins s1 σ H1 _ I1 q1) fun u s2 zz69 => el5 zz69 fun y H2 I2 r2 q2 =>
  thn (ho pins s2 σ H2 x y v u _ I2 r1 r2 q2) fun d s3 zz70 => zz70.elim fun z zz71 => zz71.elim fun H3 zz72 => zz72.elim fun I3 zz73 => zz73.elim fun r3 zz74 => zz74.elim fun k zz75 => zz75.elim fun e q3 => ?_)) hm
 subst e
 cases r3
 refine wpAny_truthy_bool ?_
 cases k with
 | false => exact ite_ff ⟨.bl false, H3, I3, rfl, q3⟩
 | true => exact ite_tt (chain_last (thn (hc pins s3 σ H3 _ I3 q3) fun w' s4 zz76 => el5 zz76 fun z' H4 I4 r4 q4 => ho' pins s4 σ H4 y z' u w' Q I4 r2 r4 q4))
theorem B9z {op op' : CmpOp} {r r' : R2} (ho : OpR X (compareOp op) r) (ho' : OpR X (compareOp op') r') (ha : PE X a ta) (hb : PE X b tb) (hc : PE X c tc)
  (hm : lastMarks [op, op'] [b, c] = false := by with_unfolding_all rfl) : PT X (.Compare a [op, op'] [b, c] pos) (B36 (B00 r r' ta tb tc)) := by
 intro pins s σ H Q I h
 refine isTrue_chain (thn (ha pins s σ H _ I h) fun v s1 zz77 => el5 zz77 fun x H1 I1 r1 q1 => test_link (thn (hb pins s1 σ H1 _ I1 q1) fun u s2 zz78 => el5 zz78 fun y H2 I2 r2 q2 =>
  thn (ho pins s2 σ H2 x y v u _ I2 r1 r2 q2) fun d s3 zz79 => zz79.elim fun z zz80 => zz80.elim fun H3 zz81 => zz81.elim fun I3 zz82 => zz82.elim fun r3 zz83 => zz83.elim fun k zz84 => zz84.elim fun e q3 => ?_)) hm
 subst e
 cases r3
 refine wpAny_truthy_bool ?_
 cases k with
 | false =>
  obtain ⟨k', e', q'⟩ := q3
  cases e'
  exact ite_ff ⟨H3, I3, q'⟩
 | true =>
  refine ite_tt (test_last (thn (hc pins s3 σ H3 _ I3 q3) fun w' s4 zz85 => el5 zz85 fun z' H4 I4 r4 q4 => thn (ho' pins s4 σ H4 y z' u w' _ I4 r2 r4 q4) fun d' s5 zz86 => zz86.elim fun z2 zz87 => zz87.elim fun H5 zz88 => zz88.elim fun I5 zz89 => zz89.elim fun r5 zz90 => zz90.elim fun k2 zz91 => zz91.elim fun e2 q5 => ?_))
  subst e2
  cases r5
  exact wpAny_truthy_bool ⟨H5, I5, q5⟩
theorem A48 : (sizeLine : Nat) < 2 ^ 63 := by rw [sizeLine_eq]; decide
theorem w6 {x : V} {us : List Value} (r : D9 [x] us) : ∃ u, us = [u] /\ F5 x u := by
 cases r with
 | cons r1 r2 => cases r2; exact ⟨_, rfl, r1⟩
theorem B01 {x y : V} {us : List Value} (r : D9 [x, y] us) : ∃ u w', us = [u, w'] /\ F5 x u /\ F5 y w' := by
 cases r with
 | cons r1 r2 =>
  cases r2 with
  | cons r3 r4 => cases r4; exact ⟨_, _, rfl, r1, r3⟩
theorem B90 : w5 X (.builtin "abs") (fun xs H Q => ∃ i, xs = [.int i] /\ Q (.int (if i < 0 then -i else i)) H) := by
 intro pins s σ H xs us Q I r h
 obtain ⟨i, rfl, q⟩ := h
 obtain ⟨u, rfl, t, rfl⟩ := w6 r
 exact call_abs_int fun u tk => ⟨.int (if i < 0 then -i else i), H, I.tok _, ⟨_, rfl⟩, q⟩
theorem B02 (hc : X.calm = true) : w5 X (.builtin "max") (fun xs H Q => ∃ i j, xs = [.int i, .int j] /\ Q (.int (if j > i then j else i)) H) := by
 intro pins s σ H xs us Q I r h
 obtain ⟨i, j, rfl, q⟩ := h
 obtain ⟨u, w', rfl, ⟨t, rfl⟩, ⟨t', rfl⟩⟩ := B01 r
 refine max_two_ints (I.ok.hd hc) fun h' tk k => ⟨_, H, I.kept k, ?_, q⟩
 by_cases hj : j > i
 ·rw [if_pos hj, if_pos hj]; exact ⟨_, rfl⟩
 ·rw [if_neg hj, if_neg hj]; exact ⟨_, rfl⟩
theorem b8 (hc : X.calm = true) : w5 X (.builtin "min") (fun xs H Q => ∃ i j, xs = [.int i, .int j] /\ Q (.int (if j < i then j else i)) H) := by
 intro pins s σ H xs us Q I r h
 obtain ⟨i, j, rfl, q⟩ := h
 obtain ⟨u, w', rfl, ⟨t, rfl⟩, ⟨t', rfl⟩⟩ := B01 r
 refine min_two_ints (I.ok.hd hc) fun h' tk k => ⟨_, H, I.kept k, ?_, q⟩
 by_cases hj : j < i
 ·rw [if_pos hj, if_pos hj]; exact ⟨_, rfl⟩
 ·rw [if_neg hj, if_neg hj]; exact ⟨_, rfl⟩
theorem B03 : w5 X (.type "int") (fun xs H Q => (∃ i, xs = [.int i] /\ Q (.int i) H) \/ ∃ k, xs = [.bl k] /\ Q (.int (if k then 1 else 0)) H) := by
 intro pins s σ H xs us Q I r h
 rcases h with ⟨i, rfl, q⟩ | ⟨k, rfl, q⟩
 ·obtain ⟨u, rfl, t, rfl⟩ := w6 r
  exact call_int_int ⟨.int i, H, I, ⟨_, rfl⟩, q⟩
 ·obtain ⟨u, rfl, r1⟩ := w6 r
  cases r1
  exact call_int_bool ⟨.int (if k then 1 else 0), H, I.tok _, ⟨_, rfl⟩, q⟩
end
end L2
namespace L2
open PySem PySem.Spec PyProof.Rows
structure B04 (h : Heap) (x dx C : Addr) (mA : Str -> Option Value) : Prop where
 obj : h.get? x = some (PySem.W.instObj C dx)
 ns : h.Ns1 dx mA
 ne : dx ≠ x
theorem B91 {h : Heap} {dx : Addr} {mA : Str -> Option Value} (n : h.Ns1 dx mA) : ∃ od, h.get? dx = some od /\ ∀ name, PySem.W.lookIn name od = some (mA name) := by
 obtain ⟨o, es, ep, ho, hd, hk, _, hm⟩ := n
 refine ⟨o, ho, fun name => ?_⟩
 have e := hm name
 unfold nsFind findBy at e
 rw [<- Array.find?_toList] at e
 unfold PySem.W.lookIn
 rw [hd]
 dsimp only
 split
 ·rename_i y q
  rw [q] at e
  exact congrArg some e
 ·rename_i q
  rw [q] at e
  have a : es.toList.any (·.refKey) = false := by
   rw [List.any_eq_false]
   intro y hy
   obtain ⟨z, t, hkey⟩ := hk y (Array.mem_toList_iff.mp hy)
   simp [DictEntry.refKey, hkey]
  have a' : ¬ es.toList.any (·.refKey) = true := by rw [a]; exact Q2
  rw [if_neg a']
  exact congrArg some e
theorem B04.look {h : Heap} {x dx C : Addr} {mA : Str -> Option Value} (I : B04 h x dx C mA) : ∃ od, PySem.W.InstAt h x (PySem.W.instObj C dx) C (some od) /\ ∀ name, PySem.W.lookIn name od = some (mA name) :=
 let ⟨od, ho, hl⟩ := B91 I.ns
 ⟨od, ⟨I.obj, rfl, rfl, ho⟩, hl⟩
section
variable {prog : Program} {w : World} {A : Around} {E : Value -> Shared -> Prop} {s : Shared} {K : A3} {x dx C f : Addr} {mA : Str -> Option Value} {name : Str} {v : Value}
end
section
variable {P : Program} {w : World} {H H' : Hp} {h h' : Heap} {a C dx : Addr} {fs fs' : List (Str × V)}
theorem B92 (hok : HOk P w H h) (e : H a = some (.ins C dx fs)) : ∃ mA, B04 h a dx C mA /\ (∀ f, B0u (fs.lookup f) (mA f)) /\ PySem.Within mA (fs.map (·.1)) /\ fs.length <= 1000 /\ H dx = some (.own a) := by
 obtain ⟨d, z, ne, ob, mA, n, r, q⟩ := (show P0 P w H h a (.ins C dx fs) from hok a _ e)
 exact ⟨mA, ⟨ob, n, ne⟩, r, q, z, d⟩
end
structure Cls (K : A3) (C : Addr) : Prop where
 pg : PySem.W.plainGet K C Str.empty = true
 hd : PySem.W.hasDictIn K C = true
 po : PySem.W.plainOver K C = true
 sa : PySem.W.findIn K (.ref C) "__setattr__" = some (some (.builtin "object.__setattr__"))
theorem Cls.get {K : A3} {C : Addr} (c : Cls K C) (f : Str) : PySem.W.plainGet K C f = true := c.pg
section
variable {X : Cx} {pins : List (Addr × Obj)} {σ : St} {H : Hp} {s : Shared} {a C dx : Addr} {fs : List (Str × V)} {f : Str} {v : V} {A : Around} {E : Value -> Shared -> Prop}
end
section
variable {X : Cx} {o e value : Expr} {f : Str} {pos pos' tpos : Pos} {ta tv : TE}
end
section
variable {X : Cx} {pins : List (Addr × Obj)} {σ : St} {H : Hp} {s : Shared} {A : Around} {E : Value -> Shared -> Prop} {Q : Value -> Shared -> Prop} {c : Value} {b : Bool}
inductive X2 (K : A3) (H : Hp) : V -> Value -> Prop where
 | non : X2 K H .non (.type "NoneType")
 | bl (x : Bool) : X2 K H (.bl x) (.type "bool")
 | int (i : Int) : X2 K H (.int i) (.type "int")
 | str (x : Str) : X2 K H (.str x) (.type "str")
 | flt (x : UInt64) : X2 K H (.flt x) (.type "float")
 | lst {a : Addr} {xs : List V} (e : H a = some (.lst xs)) : X2 K H (.ref a) (.type "list")
 | frz {a : Addr} {o : Obj} {xs : List V} (e : H a = some (.frz o (.lst xs))) : X2 K H (.ref a) (.type "list")
 | tup {a : Addr} {xs : List V} (e : H a = some (.tup xs)) : X2 K H (.ref a) (.type "tuple")
 | dK {a : Addr} {kvs : List (Key × V)} (e : H a = some (.dK kvs)) : X2 K H (.ref a) (.type "dict")
 | dT {a : Addr} {kvs : List (List Key × V)} (e : H a = some (.dT kvs)) : X2 K H (.ref a) (.type "dict")
 | ins {a C dx : Addr} {fs : List (Str × V)} (e : H a = some (.ins C dx fs)) (cl : Cls K C) (ha : PySem.W.findIn K (.ref C) "__class__" = some (some (.builtin "object.__class__")))
   (hn : PySem.W.specialIn K (.builtin "object.__class__") "__get__" = some (some (.builtin "getset_descriptor.__get__"))) (htk : PySem.W.takesIn K (.builtin "object.__class__") = some true)
   (hm : PySem.W.mroIn K C (.type "object") = some true) : X2 K H (.ref a) (.ref C)
theorem B93 {x : V} {u t : Value} (I : Inv X pins σ H s) (rx : F5 x u) (ty : X2 X.K H x t) (e : A4p X.K t c = some b) (h : ∀ tk, Q (.bool b) { s with toks := tk }) :
  wpAny (model X.prog X.w) A (call (.builtin "isinstance") [u, c]) Q E s := by
 cases ty with
 | non => cases (show u = Value.none from rx); exact j0 PySem.W.kitx_none I.kIn True.intro e (fun z => nomatch z) h
 | bl y => cases (show u = Value.bool y from rx); exact j0 PySem.W.kitx_bool I.kIn True.intro e (fun z => nomatch z) h
 | int i => obtain ⟨t, q⟩ := (show ∃ t, u = Value.int i t from rx); cases q; exact j0 PySem.W.kitx_int I.kIn True.intro e (fun z => nomatch z) h
 | str y => obtain ⟨t, q⟩ := (show ∃ t, u = Value.str y t from rx); cases q; exact j0 PySem.W.kitx_str I.kIn True.intro e (fun z => nomatch z) h
 | flt y => obtain ⟨t, q⟩ := (show ∃ t, u = Value.float y t from rx); cases q; exact j0 PySem.W.kitx_float I.kIn True.intro e (fun z => nomatch z) h
 | @lst a xs ea =>
  cases (show u = Value.ref a from rx)
  obtain ⟨_, _, n, _, h1⟩ := (show P0 X.prog X.w H s.heap a (.lst xs) from I.hok a _ ea)
  exact j0 PySem.W.kitx_list I.kIn ⟨_, h1, rfl⟩ e (fun z => nomatch z) h
 | @frz a ob xs ea =>
  cases (show u = Value.ref a from rx)
  obtain ⟨_, _, _, n, _, h1⟩ := (show P0 X.prog X.w H s.heap a (.frz ob (.lst xs)) from I.hok a _ ea)
  exact j0 PySem.W.kitx_list I.kIn ⟨_, h1, rfl⟩ e (fun z => nomatch z) h
 | @tup a xs ea =>
  cases (show u = Value.ref a from rx)
  obtain ⟨_, _, _, p⟩ := (show P0 X.prog X.w H s.heap a (.tup xs) from I.hok a _ ea)
  obtain ⟨o, h1, h2, _⟩ := p
  exact j0 PySem.W.kitx_tuple I.kIn ⟨o, h1, h2⟩ e (fun z => nomatch z) h
 | @dK a kvs ea =>
  cases (show u = Value.ref a from rx)
  obtain ⟨_, _, vs, _, p⟩ := (show P0 X.prog X.w H s.heap a (.dK kvs) from I.hok a _ ea)
  obtain ⟨o, es, ep, h1, h2, _⟩ := p
  exact j0 PySem.W.kitx_dict I.kIn ⟨o, h1, h2.1⟩ e (fun z => nomatch z) h
 | @dT a kvs ea =>
  cases (show u = Value.ref a from rx)
  obtain ⟨_, _, xs, _, o, es, ep, h1, h2, _⟩ := (show P0 X.prog X.w H s.heap a (.dT kvs) from I.hok a _ ea)
  exact j0 PySem.W.kitx_dict I.kIn ⟨o, h1, h2.1⟩ e (fun z => nomatch z) h
 | @ins a C dx fs ea cl ha hn htk hm =>
  cases (show u = Value.ref a from rx)
  obtain ⟨mA, O, _⟩ := B92 I.hok ea
  obtain ⟨od, J, _⟩ := O.look
  exact j0 (PySem.W.kitx_own (cl.get _) cl.hd ha hn htk hm) I.kIn J e (fun z => nomatch z) h
end
end L2
namespace L2
open PySem PySem.Spec PyProof.Rows
structure Q6 (k : Nat) (A : Around) : Prop where
 hd : A.handled = none
 dp : A.depth + 3 * k + 5 < recursionLimit
 un : A.units + 16 * k + 200 < cLine
 gd : A.guards = some []
theorem Q6.mono {j k : Nat} {A : Around} (r : Q6 k A) (h : j <= k) : Q6 j A := ⟨r.hd, by have := r.dp; lia, by have := r.un; lia, r.gd⟩
theorem Q6.deeper {k : Nat} {A : Around} (r : Q6 (k + 1) A) (env : Env) : Q6 k (A.deeper env) :=
 ⟨r.hd, by have := r.dp; show A.depth + 1 + 3 * k + 5 < _; lia, by have := r.un; show A.units + 3 + 16 * k + 200 < _; lia, r.gd⟩
theorem Q6.depth {k : Nat} {A : Around} (r : Q6 k A) : A.depth < recursionLimit := by have := r.dp; lia
theorem Q6.units {k : Nat} {A : Around} (r : Q6 k A) : A.units + 64 < cLine := by have := r.un; lia
def T8 : TA := fun _ H Q => Q [] H
def P3 (ta : TE) (tr : TA) : TA := fun σ H Q => ta σ H fun x H1 => tr σ H1 fun xs H2 => Q (x :: xs) H2
section
variable {X : Cx} {e : Expr} {es : List Expr} {te : TE} {t : TA} {pos : Pos}
theorem D3 : PA X [] T8 := fun _ _ _ _ H Q I h => Calls.spliced_nil ⟨[], H, I, .nil, h⟩
theorem A9 (ha : PE X e te) (hr : PA X es t) (hs : starEach (e :: es) X.env = (false, eval e X.env) :: starEach es X.env := by rfl) : PA X (e :: es) (P3 te t) := by
 intro pos pins s σ H Q I h
 rw [hs]
 show wpAny _ _ (spliced ((false, eval e X.env) :: backTo pos (starEach es X.env))) _ _ s
 refine Calls.spliced_cons (thn (ha pins s σ H _ I h) fun u s1 zz173 => el5 zz173 fun x H1 I1 r1 q1 => ?_)
 exact thn (hr pos pins s1 σ H1 _ I1 q1) fun us s2 zz174 => el5 zz174 fun xs H2 I2 r2 q2 => ⟨x :: xs, H2, I2, .cons r1 r2, q2⟩
def B37 (t : TA) : TE := fun σ H Q => t σ H fun xs H1 => xs.length <= sizeLine /\ ∀ p, H1 p = none -> Q (.ref p) (upd H1 p (.tup xs))
def B94 (t : TA) : TE := fun σ H Q => t σ H fun xs H1 => xs.length <= sizeLine /\ ∀ p, H1 p = none -> Q (.ref p) (upd H1 p (.lst xs))
theorem A49 {x1} (h : PA X es t) : PE X (.Tuple es x1 pos) (B37 t) := by
 intro pins s σ H Q I hq
 refine wpAny_Tuple_spliced (thn (h pos pins s σ H _ I hq) fun us s1 zz175 => zz175.elim fun xs zz176 => zz176.elim fun H1 zz177 => zz177.elim fun I1 zz178 => zz178.elim fun r zz179 => zz179.elim fun z q => ⟨by rw [<- r.length]; exact z, ?_⟩)
 have hf : H1 s1.heap.objs.size = none := I1.hok.fresh (J8 _)
 refine ⟨.ref s1.heap.objs.size, upd H1 s1.heap.objs.size (.tup xs), I1.laid (t' := s1.toks) (fun b u e => U6 _ e) (J8 _) ?_, rfl, q _ hf⟩
 exact ⟨z, us, r, ⟨_, i9 _ rfl, rfl, _, rfl⟩⟩
theorem B05 (h : PA X es t) : PE X (.List es pos) (B94 t) := by
 intro pins s σ H Q I hq
 refine wpAny_List_spliced (thn (h pos pins s σ H _ I hq) fun us s1 zz180 => zz180.elim fun xs zz181 => zz181.elim fun H1 zz182 => zz182.elim fun I1 zz183 => zz183.elim fun r zz184 => zz184.elim fun z q => ⟨by rw [<- r.length]; exact z, ?_⟩)
 have hf : H1 s1.heap.objs.size = none := I1.hok.fresh (J8 _)
 refine ⟨.ref s1.heap.objs.size, upd H1 s1.heap.objs.size (.lst xs), I1.laid (t' := s1.toks) (fun b u e => U6 _ e) (J8 _) ?_, rfl, q _ hf⟩
 exact ⟨z, us, 0, r, i9 _ rfl⟩
end
abbrev Sp := List V -> Hp -> VK -> XK -> Prop
abbrev CXT := List Env -> Hp -> Shared -> XK -> Value -> Shared -> Prop
structure A8y (P : Program) (w : World) (K : A3) (mg : Str -> Option Value) (base : Heap) (A : Around) (outer : List Env) (s : Shared) (H : Hp) : Prop where
 frames : A.frames = some outer
 mod : Mod K mg base
 bs : ∀ b o, base.get? b = some o -> s.heap.get? b = some o /\ H b = none
 bsz : base.objs.size <= s.heap.objs.size
 funs : s.heap.FunFrames base outer
 frf : ∀ b ∈ frs outer, H b = none
 hok : HOk P w H s.heap
 bare : AllBare s.gens
def CE (outer : List Env) (P : Program) (w : World) (H : Hp) (s : Shared) (Q : VK) (u : Value) (s' : Shared) : Prop :=
 ∃ v H', s'.os = s.os /\ AllBare s'.gens /\ Un (frs outer) [] H H' s.heap s'.heap /\ HOk P w H' s'.heap /\ F5 v u /\ Q v H'
def CR (CX : CXT) (outer : List Env) (P : Program) (w : World) (H : Hp) (s : Shared) (Q : VK) (E : XK) (r : Result) (s' : Shared) : Prop :=
 match r with
 | .ok (.ret u) => CE outer P w H s Q u s'
 | .ok _ => False
 | .error e => CX outer H s E e s'
structure D4 (P : Program) (w : World) (K : A3) (mg : Str -> Option Value) (base : Heap) (CX : CXT) (k : Nat) (f : Addr) (fd : FuncData) (ps : List Str) (sp : Sp) : Prop where
 len : ∀ vs H Q E, sp vs H Q E -> vs.length = ps.length
 run : ∀ (A : Around) (outer : List Env) (s : Shared) (H : Hp) (args : Args) (us : List Value) (vs : List V) (Q : VK) (E : XK), Q6 k A -> A8y P w K mg base A outer s H -> BindsTo s fd args (ps.zip us) -> D9 vs us -> sp vs H Q E ->
  codeAny (model P w) A (.call (.ref f) args) (CR CX outer P w H s Q E) s
theorem D4.imp {P : Program} {w : World} {K : A3} {mg : Str -> Option Value} {base : Heap} {CX : CXT} {k : Nat} {f : Addr} {fd : FuncData} {ps : List Str} {sp sp' : Sp} (F : D4 P w K mg base CX k f fd ps sp)
  (h : ∀ vs H Q E, sp' vs H Q E -> sp vs H Q E) : D4 P w K mg base CX k f fd ps sp' :=
 ⟨fun vs H Q E q => F.len vs H Q E (h _ _ _ _ q), fun A outer s H args us vs Q E hr he hb hv hs => F.run A outer s H args us vs Q E hr he hb hv (h _ _ _ _ hs)⟩
section
variable {X : Cx} {pins : List (Addr × Obj)} {σ : St} {H : Hp} {s s' : Shared}
theorem Inv.env0 (I : Inv X pins σ H s) : A8y X.prog X.w X.K X.mg X.base X.A X.stack s H :=
 ⟨I.ok.frames, I.ok.mod, I.bs, t8 I.ok.bsz I.sz, I.stack, I.stkFree, I.hok, I.bare⟩
theorem Inv.after {Q : VK} {u : Value} (I : Inv X pins σ H s) (h : CE X.stack X.prog X.w H s Q u s') : EP X pins σ Q u s' := by
 obtain ⟨v, H', os, bare, un, hok, r, q⟩ := h
 obtain ⟨hh, g, d, t, os'⟩ := s'
 obtain rfl : os' = s.os := os
 exact ⟨v, H', I.call (h' := hh) (g' := g) (d' := d) (t' := t) (ch := []) un hok bare (fun b z => absurd z (by simp)), r, q⟩
end
def A8z (sp : Sp) (dvs : List V) (E : XK) (t : TA) : TE := fun σ H Q => t σ H fun vs H1 => sp (vs ++ dvs) H1 Q E
def E8 (K : A3) (fd : FuncData) (ps : List Str) (ds : List Value) : Prop :=
 ∀ (s : Shared) (us : List Value), K.In s.heap -> (us ++ ds).length = ps.length -> BindsTo s fd ⟨us, []⟩ (ps.zip (us ++ ds))
theorem E8.all {K : A3} {fd : FuncData} {ps : List Str} (h : ∀ us : List Value, us.length = ps.length -> bindArgs fd ⟨us, []⟩ = pure (ps.zip us)) : E8 K fd ps [] := fun s us _ hl => by
 rw [Y3] at hl ⊢
 exact .of_eq (h us hl)
def B06 (CX : CXT) (X : Cx) (E : XK) : Prop := ∀ (pins : List (Addr × Obj)) (σ : St) (H : Hp) (s : Shared) (e : Value) (s' : Shared), Inv X pins σ H s -> CX X.stack H s E e s' -> X.xe e s'
section
variable {X : Cx} {CX : CXT} {k : Nat} {f C : Addr} {fd : FuncData} {ps : List Str} {sp : Sp} {dvs : List V} {ds : List Value} {E : XK} {x m : Str} {p pos apos : Pos} {e o : Expr} {es : List Expr} {ta : TE} {t : TA}
theorem B95 {pins : List (Addr × Obj)} {σ : St} {H : Hp} {s : Shared} {Q : VK} {us : List Value} {vs : List V} (F : D4 X.prog X.w X.K X.mg X.base CX k f fd ps sp) (hr : Q6 k X.A) (hb : E8 X.K fd ps ds) (hd : D9 dvs ds) (hx : B06 CX X E)
  (I : Inv X pins σ H s) (r : D9 vs us) (h : sp (vs ++ dvs) H Q E) : wpAny (model X.prog X.w) X.A (call (.ref f) us) (EP X pins σ Q) X.xe s := by
 have r2 : D9 (vs ++ dvs) (us ++ ds) := r.append hd
 have hl : (us ++ ds).length = ps.length := by rw [<- r2.length]; exact F.len _ _ _ _ h
 refine wpAny_call (codeAny_mono (F.run X.A X.stack s H ⟨us, []⟩ (us ++ ds) (vs ++ dvs) Q E hr I.env0 (hb s us I.kIn hl) r2 h) fun r s' hq => ?_)
 cases r with
 | error e => exact hx pins σ H s e s' I hq
 | ok fl =>
  cases fl with
  | ret u => exact I.after hq
  | next => exact False.elim hq
  | brk => exact False.elim hq
  | cont => exact False.elim hq
theorem B7 (F : D4 X.prog X.w X.K X.mg X.base CX k f fd ps sp) (hr : Q6 k X.A) (hg : Gl X x) (hm : X.mg x = some (.ref f)) (hk : B5 X.K (.ref f) = true) (hb : E8 X.K fd ps ds) (hd : D9 dvs ds) (hx : B06 CX X E)
  (ha : PA X (e :: es) t) (hdb : (x == ("__debug__" : Str)) = false := by decide) (he : starEach (e :: es) X.env = (false, eval e X.env) :: starEach es X.env := by rfl) (hpl : (backTo pos (starEach es X.env)).any (·.1) = false := by rfl) :
  PE X (.Call (.Name x p) (e :: es) [] pos) (A8z sp dvs E t) := by
 intro pins s σ H Q I h
 refine wpAny_Call_Name_kw (B3o I hg hm ?_ hdb)
 refine PySem.W.callWith_K (h₀ := X.base) I.ok.mod.kin hk (thn (ha pos pins s σ H _ I h) fun us s1 zz185 => el5 zz185 fun vs H1 I1 r q => ⟨I1.kIn, ?_⟩) he hpl
 exact B95 F hr hb hd hx I1 r q
end
section
variable {X : Cx} {CX : CXT} {k : Nat} {f C : Addr} {fd : FuncData} {ps ks : List Str} {sp : Sp} {E : XK} {x m : Str} {p pos apos kpos : Pos} {e o : Expr} {es : List Expr} {kws : List Keyword} {te ta : TE} {t tk : TA} {nm : Option Str}
variable {g : List Value -> List Value -> List Value} {gV : List V -> List V -> List V}
end
structure F1 (N P : List Str) (sc : Scope) : Prop where
 kind : sc.kind = .function
 co : sc.isCoroutine = false
 gen : sc.isGenerator = false
 nd : N.Nodup
 pre : N.take P.length = P
 par : ∀ x ∈ P, sc.names.lookup x = some .local \/ sc.names.lookup x = some .cell
 nofree : ∀ y ∈ sc.names, y.2 ≠ .free
theorem B38 {kindOf : Str -> Option NameKind} {x : Str} : ∀ {binds : List (Str × Value)} {m : Str -> Option Value}, (∀ v, (x, v) ∉ binds) -> bindL kindOf binds m x = m x
 | [], _, _ => rfl
 | (n, v) :: r, m, h => by
  unfold bindL
  rw [B38 fun w hw => h w (C3 _ hw)]
  split
  ·have : x ≠ n := by rintro rfl; exact h v C6
   simp [this]
  ·rfl
theorem B39 {kindOf : Str -> Option NameKind} {x : Str} : ∀ {binds : List (Str × Value)} {m : Str -> Option Value}, (∀ v, (x, v) ∉ binds) -> bindC kindOf binds m x = m x
 | [], _, _ => rfl
 | (n, v) :: r, m, h => by
  unfold bindC
  rw [B39 fun w hw => h w (C3 _ hw)]
  split
  ·rfl
  ·have : x ≠ n := by rintro rfl; exact h v C6
   simp [this]
theorem B4a {kindOf : Str -> Option NameKind} {x : Str} {v : Value} : ∀ {P : List Str} {vs : List Value} {i : Nat} {m : Str -> Option Value}, P.Nodup -> P[i]? = some x -> vs[i]? = some v -> kindOf x = some .local ->
  bindL kindOf (P.zip vs) m x = some v
 | [], _, _, _, _, h, _, _ => by simp at h
 | _ :: _, [], _, _, _, _, h, _ => by simp at h
 | p :: P, w :: vs, 0, m, nd, h1, h2, hk => by
  simp at h1 h2; subst h1; subst h2
  show bindL kindOf ((p, w) :: P.zip vs) m p = _
  unfold bindL
  rw [B38 fun v hv => (t9.mp nd).1 (List.of_mem_zip hv).1, if_pos hk]
  simp
 | p :: P, w :: vs, i + 1, m, nd, h1, h2, hk => by
  show bindL kindOf ((p, w) :: P.zip vs) m x = _
  unfold bindL
  exact B4a (i := i) (t9.mp nd).2 (by simpa using h1) (by simpa using h2) hk
theorem B4b {kindOf : Str -> Option NameKind} {x : Str} {v : Value} : ∀ {P : List Str} {vs : List Value} {i : Nat} {m : Str -> Option Value}, P.Nodup -> P[i]? = some x -> vs[i]? = some v -> kindOf x ≠ some .local ->
  bindC kindOf (P.zip vs) m x = some v
 | [], _, _, _, _, h, _, _ => by simp at h
 | _ :: _, [], _, _, _, _, h, _ => by simp at h
 | p :: P, w :: vs, 0, m, nd, h1, h2, hk => by
  simp at h1 h2; subst h1; subst h2
  show bindC kindOf ((p, w) :: P.zip vs) m p = _
  unfold bindC
  rw [B39 fun v hv => (t9.mp nd).1 (List.of_mem_zip hv).1, if_neg hk]
  simp
 | p :: P, w :: vs, i + 1, m, nd, h1, h2, hk => by
  show bindC kindOf ((p, w) :: P.zip vs) m x = _
  unfold bindC
  exact B4b (i := i) (t9.mp nd).2 (by simpa using h1) (by simpa using h2) hk
def start (N : List Str) (vs : List V) : St := vs.map some ++ G8 (N.length - vs.length) none
def A32 (CX : CXT) (P : Program) (w : World) (K : A3) (mg : Str -> Option Value) (base : Heap) (N : List Str) (qual : Str) (scope : Scope) (f : Addr) (cd : Value) (A : Around) (outer : List Env) (s : Shared) (H : Hp) (E : XK) : Cx where
 prog := P
 w := w
 K := K
 mg := mg
 base := base
 A := A.deeper (envOfC qual scope s.heap.objs.size f cd)
 N := N
 s₀ := s
 H₀ := H
 env := envOfC qual scope s.heap.objs.size f cd
 outer := outer
 stack := envOfC qual scope s.heap.objs.size f cd :: outer
 ex := []
 calm := true
 fn := fun _ => true
 pn := []
 xe := fun e s' => wpAny (model P w) (A.deeper (envOfC qual scope s.heap.objs.size f cd)) (leaving (envOfC qual scope s.heap.objs.size f cd) e) (fun _ s'' => CX outer H s E e s'') (fun e' s'' => CX outer H s E e' s'') s'
theorem B4c {sc : Scope} {n : Nat} {x : Str} (h : sc.names.lookup x = some .cell) : ∃ c, (cellsFrom n sc.names []).lookup x = some c := by
 have q := PySem.W.cellsFrom_some sc.names n [] (.inl h)
 exact Option.isSome_iff_exists.mp q
theorem B96 {CX : CXT} {P : Program} {w : World} {K : A3} {mg : Str -> Option Value} {base : Heap} {N ps : List Str} {qual : Str} {scope : Scope} {f : Addr} {cd : Value} {A : Around} {outer : List Env} {s s1 : Shared} {H : Hp} {E : XK} {us : List Value} {vs : List V}
  (S : F1 N ps scope) (hd : A.handled = none) (e0 : A8y P w K mg base A outer s H) (hl : vs.length = ps.length) (r : D9 vs us)
  (x : InCallC s s.heap.objs.size (bindL (envOfC qual scope s.heap.objs.size f cd).kindOf (ps.zip us) fun _ => none) (cellsFrom (s.heap.objs.size + 1) scope.names []) (bindC (envOfC qual scope s.heap.objs.size f cd).kindOf (ps.zip us) fun _ => none) s1) :
  Inv (A32 CX P w K mg base N qual scope f cd A outer s H E) [] (start N vs) H s1 := by
 have hpl : ps.length <= N.length := by have := congrArg A3q S.pre; rw [A4q] at this; lia
 obtain ⟨h1, tk, rfl, hk⟩ := x.done
 have noA : ∀ b : Addr, b ∉ (A32 CX P w K mg base N qual scope f cd A outer s H E).ex := fun b z => absurd (show b ∈ ([] : List Addr) from z) (by simp)
 refine ⟨⟨e0.mod, S.kind, rfl, rfl, J8 _, fun y z c h1 h2 => ?_, fun y hy => ?_, fun y c _ h => ?_, fun _ => hd, Around.frames_deeper e0.frames, .inr ⟨rfl, rfl⟩, fun b z => absurd z (noA b), e0.bs, e0.bsz, fun b _ _ => noA b, fun b z => absurd z (noA b), e0.funs, e0.frf⟩,
  rfl, e0.bare, Un.kept hk, ⟨_, x.toInCall.ns, fun i y v h1 h2 h3 => ?_⟩, fun y c h => ⟨_, x.cell y c h⟩, e0.hok.fresh (J8 _), fun y c h => ?_, fun p hp => absurd (show p ∈ ([] : List (Addr × Obj)) from hp) (by simp), e0.hok.kept hk, ?_⟩
 ·exact name_of_addr x.apart (B0k h1) (B0k h2)
 ·have hy : scope.names.lookup y = some .cell \/ scope.names.lookup y = some .free := hy
  rcases hy with hy | hy
  ·exact B4c hy
  ·exact absurd rfl (S.nofree _ (B0k hy))
 ·exact A8k (x.above y c (B0k h))
 ·have hi : i < vs.length := by
   unfold start at h2
   by_cases hi : i < vs.length
   ·exact hi
   ·rw [A7a (by simpa using hi)] at h2
    rw [B3a] at h2
    split at h2 <;> cases h2
  have ha : vs[i]? = some v := by
   unfold start at h2
   rw [A3r (by simpa using hi), R8] at h2
   cases e : vs[i]? with
   | none => rw [e] at h2; cases h2
   | some a => rw [e] at h2; cases h2; rfl
  obtain ⟨u, hu, rv⟩ := r.get ha
  have hp : ps[i]? = some y := by
   rw [<- S.pre, List.getElem?_take_of_lt (by lia)]; exact h1
  have ndP : ps.Nodup := by rw [<- S.pre]; exact S.nd.sublist (List.take_sublist _ _)
  refine ⟨u, rv, ?_⟩
  rcases S.par y (R9 hp) with k | k
  ·exact .inl ⟨k, B4a ndP hp hu k⟩
  ·obtain ⟨c, e⟩ := B4c (n := s.heap.objs.size + 1) k
   refine .inr ⟨.inl k, c, e, ?_⟩
   have q := x.cell y c e
   rw [B4b ndP hp hu (by show scope.names.lookup y ≠ _; rw [k]; decide)] at q
   exact q
 ·exact e0.hok.fresh (A8k (x.above y c (B0k h)))
 ·unfold start
  show _ = N.length
  rw [O3, F6, B0l]
  lia
theorem B97 {CX : CXT} {P : Program} {w : World} {K : A3} {mg : Str -> Option Value} {base : Heap} {k : Nat} {f : Addr} {name qual : Str} {params : Arguments} {body : List Stmt} {scope : Scope} {dV kV doc pm cdv ct oc : Value} {an od : Option Addr}
  {osl : Array (Option Value)} {N ps : List Str} {sp : Sp} (lk : K.lookup f = some ⟨oc, od, .func (E7 name qual params body scope dV kV doc pm an cdv ct), osl⟩) (hcd : F7 K cdv qual = true) (S : F1 N ps scope)
  (len : ∀ vs H Q E, sp vs H Q E -> vs.length = ps.length)
  (hbody : ∀ (A : Around) (outer : List Env) (s : Shared) (H : Hp) (vs : List V) (Q : VK) (E : XK), Q6 k (A.deeper (envOfC qual scope s.heap.objs.size f cdv)) -> sp vs H Q E ->
   ∃ t, PSs (A32 CX P w K mg base N qual scope f cdv A outer s H E) body t /\ t { nx := fun _ H' => Q .non H', rt := Q } (start N vs) H) :
  D4 P w K mg base CX (k + 1) f (E7 name qual params body scope dV kV doc pm an cdv ct) ps sp := by
 refine ⟨len, fun A outer s H args us vs Q E hr e0 hb r hsp => ?_⟩
 have hl := len _ _ _ _ hsp
 have KX : K.In s.heap := e0.mod.kin.keeps fun b o e => (e0.bs b o e).1
 have lim : s.heap.NoLimit := e0.mod.nolimit.keeps fun b o e => (e0.bs b o e).1
 have hkind : ∀ y ∈ ps.zip us, scope.names.lookup y.1 = some .local \/ (scope.names.lookup y.1 = some .cell /\ ((cellsFrom (s.heap.objs.size + 1) scope.names []).lookup y.1).isSome = true) := fun ⟨n, v⟩ hy => by
  rcases S.par n (List.of_mem_zip hy).1 with q | q
  ·exact .inl q
  ·exact .inr ⟨q, PySem.W.cellsFrom_some _ _ _ (.inl q)⟩
 refine codeAny_call_function hr.depth (KX _ _ lk) rfl S.co S.gen rfl (PySem.W.codeRec_of KX hcd) (hb _ _ _ _ ?_)
 refine wpAny_newFunctionEnv_cells S.kind hkind fun env he s1 x => ?_
 subst he
 refine ⟨lim.keeps x.toInCall.keep, codeAny_func ?_⟩
 obtain ⟨t, ht, hq⟩ := hbody A outer s H vs Q E (hr.deeper _) hsp
 have I : Inv (A32 CX P w K mg base N qual scope f cdv A outer s H E) [] (start N vs) H s1 := B96 S hr.hd e0 hl r x
 refine wpAny_mono (ht [] s1 (start N vs) H _ I hq) (fun fl s' hs => ?_) fun e s' hs => hs
 have fin : ∀ {σ' : St} {H' : Hp} {v : V} {u : Value}, Inv (A32 CX P w K mg base N qual scope f cdv A outer s H E) [] σ' H' s' -> F5 v u -> Q v H' -> CE outer P w H s Q u s' :=
  fun {σ' H' v u} J rv q => ⟨v, H', J.os, J.bare, J.base, J.hok, rv, q⟩
 cases fl with
 | ret u =>
  obtain ⟨v, σ', H', J, rv, q⟩ := hs
  exact fin J rv q
 | next =>
  obtain ⟨σ', H', J, q⟩ := hs
  exact fin (v := V.non) (u := Value.none) J rfl q
 | brk =>
  obtain ⟨_, _, _, q⟩ := hs
  exact False.elim q
 | cont =>
  obtain ⟨_, _, _, q⟩ := hs
  exact False.elim q
end L2
namespace L2
open PySem PySem.Spec PyProof.Rows
section
variable {X : Cx} {x : Str} {p pos : Pos} {e : Expr} {es : List Expr} {t : TA} {id T : String} {r : List V -> Hp -> VK -> Prop}
def tCB (r : List V -> Hp -> VK -> Prop) (t : TA) : TE := fun σ H Q => t σ H fun vs H1 => r vs H1 Q
theorem J6 (hc : w5 X (.builtin id) r) (hg : Gl X x) (hm : X.mg x = none) (hv : bootBuiltins x = some (.builtin id)) (ha : PA X (e :: es) t) (hn : x ≠ "__name__" := by decide) (hdb : (x == ("__debug__" : Str)) = false := by decide)
  (he : starEach (e :: es) X.env = (false, eval e X.env) :: starEach es X.env := by rfl) (hpl : (backTo pos (starEach es X.env)).any (·.1) = false := by rfl) : PE X (.Call (.Name x p) (e :: es) [] pos) (tCB r t) := by
 intro pins s σ H Q I h
 refine wpAny_Call_Name_kw (A10 I hg hm hv ?_ hn hdb)
 exact PyProof.Rows.callWith_builtin1 (thn (ha pos pins s σ H _ I h) fun us s1 zz213 => el5 zz213 fun vs H1 I1 r1 q1 => hc pins s1 σ H1 vs us Q I1 r1 q1) he hpl
theorem b9 (hc : w5 X (.type T) r) (hg : Gl X x) (hm : X.mg x = none) (hv : bootBuiltins x = some (.type T)) (ha : PA X (e :: es) t) (hn : x ≠ "__name__" := by decide) (hdb : (x == ("__debug__" : Str)) = false := by decide)
  (he : starEach (e :: es) X.env = (false, eval e X.env) :: starEach es X.env := by rfl) (hpl : (backTo pos (starEach es X.env)).any (·.1) = false := by rfl) : PE X (.Call (.Name x p) (e :: es) [] pos) (tCB r t) := by
 intro pins s σ H Q I h
 refine wpAny_Call_Name_kw (A10 I hg hm hv ?_ hn hdb)
 exact PyProof.Rows.callWith_type1 (thn (ha pos pins s σ H _ I h) fun us s1 zz214 => el5 zz214 fun vs H1 I1 r1 q1 => hc pins s1 σ H1 vs us Q I1 r1 q1) he hpl
end
end L2
namespace HT
open PySem PyProof.Rows
section
open PySem.SeqAt
open PySem.AutoSeq1 (wpAny_loadPart')
open PySem.MeetsSeq PySem.MeetsSeq2 PySem.MeetsSeq3
end
section
variable {prog : Program} {w : World} {A : Around} {E : Value -> Shared -> Prop} {s : Shared}
def sIx (n d : Nat) : Option Int -> Nat
 | none => d
 | some v => if v < 0 then (v + (n : Int)).toNat else min v.toNat n
theorem sIx_none (n d : Nat) : sIx n d none = d := rfl
theorem sIx_nat (n d k : Nat) : sIx n d (some (k : Int)) = min k n := by
 show (if (k : Int) < 0 then ((k : Int) + (n : Int)).toNat else min (k : Int).toNat n) = min k n
 rw [if_neg (by lia), A7b]
end
end HT
namespace L2
open PySem PySem.Spec PyProof.Rows
abbrev TO := St -> Hp -> (Option Int -> Hp -> Prop) -> Prop
def PO (X : Cx) (e : Option Expr) (t : TO) : Prop :=
 ∀ (pins : List (Addr × Obj)) (s : Shared) (σ : St) (H : Hp) (Q : Option Int -> Hp -> Prop), Inv X pins σ H s -> t σ H Q ->
  wpAny (model X.prog X.w) X.A (evalPart e X.env) (fun u s' => ∃ o H', Inv X pins σ H' s' /\ IsPart u o /\ Q o H') X.xe s
def B98 : TO := fun _ H Q => Q none H
def B99 (t : TE) : TO := fun σ H Q => t σ H fun x H1 => ∃ i, x = .int i /\ Q (some i) H1
theorem C0a {ns : List Int} : ∀ {us : List Value}, D9 (ns.map V.int) us -> IntsAre us ns := by
 induction ns with
 | nil => intro us r; rw [List.map_nil] at r; cases r; exact .nil
 | cons n ns ih =>
  intro us r
  rw [j1] at r
  cases r with
  | cons r1 r2 =>
   obtain ⟨t, e⟩ := r1
   subst e
   exact .cons n t (ih r2)
section
variable {X : Cx} {e : Expr} {te : TE} {lo hi : Option Expr} {tl th : TO} {pos p2 : Pos}
theorem B4d : PO X none B98 := by
 intro pins s σ H Q I h
 rw [evalPart_none]
 exact wpAny_pure ⟨none, H, I, .none, h⟩
theorem B4e (h : PE X e te) : PO X (some e) (B99 te) := by
 intro pins s σ H Q I hw
 rw [evalPart_some]
 refine thn (h pins s σ H _ I hw) fun u s1 zz215 => el5 zz215 fun x H1 I1 r1 q1 => ?_
 obtain ⟨i, rfl, q⟩ := q1
 obtain ⟨t, rfl⟩ := r1
 exact ⟨some i, H1, I1, .int i t, q⟩
def SlR (X : Cx) (r : V -> Option Int -> Option Int -> Hp -> VK -> Prop) : Prop :=
 ∀ (pins : List (Addr × Obj)) (s : Shared) (σ : St) (H : Hp) (x : V) (v vl vu : Value) (lo hi : Option Int) (sl : Addr) (Q : VK), Inv X pins σ H s -> F5 x v -> s.heap.IsSliceOf sl vl vu .none -> IsPart vl lo -> IsPart vu hi -> r x lo hi H Q ->
  ∃ T id, typeLookup (.type T) "__getitem__" = pure (some (.builtin id)) /\ s.TypeIs v T /\ wpAny (model X.prog X.w) X.A (getItem v (.ref sl)) (EP X pins σ Q) X.xe s
def tSl (r : V -> Option Int -> Option Int -> Hp -> VK -> Prop) (te : TE) (tl th : TO) : TE := fun σ H Q => te σ H fun x H1 => tl σ H1 fun l H2 => th σ H2 fun u H3 => r x l u H3 Q
theorem B07 {r : V -> Option Int -> Option Int -> Hp -> VK -> Prop} (hr : SlR X r) (he : PE X e te) (hl : PO X lo tl) (hu : PO X hi th) : PE X (.Subscript e (.Slice lo hi none p2) pos) (tSl r te tl th) := by
 intro pins s σ H Q I h
 refine Subscript_ (thn (he pins s σ H _ I h) fun v s1 zz216 => el5 zz216 fun x H1 I1 r1 q1 => ?_)
 refine wpAny_Slice (thn (hl pins s1 σ H1 _ I1 q1) fun vl s2 zz217 => el5 zz217 fun l H2 I2 pl q2 => thn (hu pins s2 σ H2 _ I2 q2) fun vu s3 zz218 => el5 zz218 fun u H3 I3 pu q3 => ?_)
 rw [evalPart_none]
 refine wpAny_pure ?_
 have I4 : Inv X pins σ H3 { s3 with heap := s3.heap.push { cls := .type "slice", data := .fields #[vl, vu, .none] } } := I3.kept (t' := s3.toks) fun b ob q => U6 _ q
 obtain ⟨T, id, hT, ht, hg⟩ := hr pins { s3 with heap := s3.heap.push { cls := .type "slice", data := .fields #[vl, vu, .none] } } σ H3 x v vl vu l u s3.heap.objs.size Q I4 r1 (Heap.IsSliceOf.new ..) pl pu q3
 show wpAny (model X.prog X.w) X.A (subscriptTail e (.Slice lo hi none p2) v (.ref s3.heap.objs.size)) (EP X pins σ Q) X.xe { s3 with heap := s3.heap.push { cls := .type "slice", data := .fields #[vl, vu, .none] } }
 exact tail_any (ops := [.ref s3.heap.objs.size, v]) ht hT hg (by with_unfolding_all rfl)
def A33 (xs : List V) (lo hi : Option Int) : List V := (xs.drop (HT.sIx xs.length 0 lo)).take (HT.sIx xs.length xs.length hi - HT.sIx xs.length 0 lo)
theorem C0b (xs : List V) (lo hi : Option Int) : (A33 xs lo hi).length <= xs.length := by
 unfold A33
 rw [A4q, List.length_drop]
 lia
end
end L2
namespace L2
open PySem PySem.Spec PyProof.Rows
def ixN (n : Nat) (i : Int) : Option Nat := if 0 <= i then (if i < n then some i.toNat else none) else if -(n : Int) <= i then some (i + n).toNat else none
def atI {α : Type} (xs : List α) (i : Int) : Option α := (ixN xs.length i).bind fun j => xs[j]?
theorem B4f {n : Nat} {i : Int} {j : Nat} (h : ixN n i = some j) : seqIndex? i n = some j /\ j < n /\ -(n : Int) <= i /\ i < n := by
 unfold ixN at h
 by_cases h0 : 0 <= i
 ·rw [if_pos h0] at h
  by_cases h1 : i < n
  ·rw [if_pos h1] at h
   have e : i.toNat = j := Option.some.inj h
   exact ⟨by rw [seqIndex_of h0 h1, e], by lia, by lia, h1⟩
  ·rw [if_neg h1] at h; cases h
 ·rw [if_neg h0] at h
  by_cases h1 : -(n : Int) <= i
  ·rw [if_pos h1] at h
   have e : (i + n).toNat = j := Option.some.inj h
   exact ⟨by rw [seqIndex_neg (by lia) h1, e], by lia, h1, by lia⟩
  ·rw [if_neg h1] at h; cases h
theorem A80 {α : Type} {xs : List α} {i : Int} {v : α} (h : atI xs i = some v) : ∃ j, seqIndex? i xs.length = some j /\ xs[j]? = some v /\ j < xs.length /\ -(xs.length : Int) <= i /\ i < xs.length := by
 unfold atI at h
 cases e : ixN xs.length i with
 | none => rw [e] at h; cases h
 | some j =>
  rw [e] at h
  obtain ⟨h1, h2, h3, h4⟩ := B4f e
  exact ⟨j, h1, h, h2, h3, h4⟩
theorem Y8 {α : Type} {xs : List α} {j : Nat} {v : α} (h : xs[j]? = some v) : atI xs (j : Int) = some v := by
 have hj : j < xs.length := (i8.mp h).1
 have e : ixN xs.length (j : Int) = some j := by
  unfold ixN
  rw [if_pos (by lia), if_pos (by lia)]; simp
 unfold atI; rw [e]; exact h
theorem B4g {α : Type} (xs : List α) (v : α) : atI (xs ++ [v]) (-1) = some v := by
 have hl : (xs ++ [v]).length = xs.length + 1 := by simp
 have e : ixN (xs ++ [v]).length (-1) = some xs.length := by
  unfold ixN
  rw [hl, if_neg (by decide), if_pos (by lia)]
  congr 1
  lia
 unfold atI
 rw [e]
 show (xs ++ [v])[xs.length]? = some v
 simp
def A81 (b : Expr) : Prop := ∀ o i, subscripted b false o i = operate [o, i] (getItem o i)
def IxR (X : Cx) (r : R2) : Prop :=
 ∀ (value slice : Expr) (pins : List (Addr × Obj)) (s : Shared) (σ : St) (H : Hp) (x y : V) (v u : Value) (Q : VK), Inv X pins σ H s -> F5 x v -> F5 y u -> r x y H Q ->
  subscripted slice false v u = operate [v, u] (getItem v u) -> wpAny (model X.prog X.w) X.A (subscriptTail value slice v u) (EP X pins σ Q) X.xe s
def MtR (X : Cx) (id : String) (r : V -> List V -> Hp -> VK -> Prop) : Prop :=
 ∀ (pins : List (Addr × Obj)) (s : Shared) (σ : St) (H : Hp) (x : V) (xs : List V) (v : Value) (us : List Value) (Q : VK), Inv X pins σ H s -> F5 x v -> D9 xs us -> r x xs H Q ->
  wpAny (model X.prog X.w) X.A (call (.builtin id) (v :: us)) (EP X pins σ Q) X.xe s
section
variable {X : Cx} {a b : Expr} {ta tb : TE} {pos : Pos}
theorem IxR.or {r r' : R2} (h : IxR X r) (h' : IxR X r') : IxR X (fun x y H Q => r x y H Q \/ r' x y H Q) := by
 intro value slice pins s σ H x y v u Q I rx ry q hs
 rcases q with q | q
 ·exact h value slice pins s σ H x y v u Q I rx ry q hs
 ·exact h' value slice pins s σ H x y v u Q I rx ry q hs
theorem J0 {r : R2} (hr : IxR X r) (ha : PE X a ta) (hb : PE X b tb) (hs : A81 b) : PE X (.Subscript a b pos) (tOp r ta tb) := by
 intro pins s σ H Q I h
 exact Subscript_ (B0y ha hb I h fun v u s2 x y H2 I2 rx ry q => hr a b pins s2 σ H2 x y v u Q I2 rx ry q (hs _ _))
def B4h (K : A3) : R2 := fun x y H Q => ∃ p xs i v, x = .ref p /\ y = .int i /\ SqL K H p xs /\ atI xs i = some v /\ Q v H
def B4i (K : A3) : R2 := fun x y H Q => ∃ p xs i v, x = .ref p /\ y = .int i /\ SqT K H p xs /\ atI xs i = some v /\ Q v H
def B4j : R2 := fun x y H Q => ∃ z i c, x = .str z /\ y = .int i /\ z.length <= sizeLine /\ atI z.cps.toList i = some c /\ Q (.str ⟨#[c]⟩) H
theorem T9 : IxR X (B4h X.K) := by
 intro value slice pins s σ H x y v u Q I rx ry h hs
 obtain ⟨p, xs, i, z, rfl, rfl, hq, he, q⟩ := h
 cases rx
 obtain ⟨t, rfl⟩ := ry
 obtain ⟨its, r, pl, hz⟩ := I.list hq
 obtain ⟨j, h1, h2, h3, h4, h5⟩ := A80 he
 obtain ⟨w, ew, rw'⟩ := r.get h2
 have hl := r.length
 have hn := A48
 have fin : EP X pins σ Q w s := ⟨z, H, I, rw', q⟩
 by_cases h0 : 0 <= i
 ·have hj : i.toNat = j := by
   rw [seqIndex_of h0 h5] at h1
   exact Option.some.inj h1
  exact item_listR pl.isList h0 (by lia) (by rw [hj]; simpa using ew) fin hs
 ·have hj : (i + (its.toArray.size : Int)).toNat = j := by
   rw [seqIndex_neg (by lia) h4] at h1
   rw [P8, <- hl]
   exact Option.some.inj h1
  exact subscriptTail_builtinR (x := w) pl.isList.typeIs slot_list_getitem.lookup
   (wpAny_getItem_list_neg (Q := fun r s' => r = w /\ EP X pins σ Q r s') pl.isList (by lia) (by rw [P8] <;> lia) (by lia) (by rw [hj]; simpa using ew) ⟨rfl, fin⟩) hs
theorem C0c : IxR X (B4i X.K) := by
 intro value slice pins s σ H x y v u Q I rx ry h hs
 obtain ⟨p, xs, i, z, rfl, rfl, hq, he, q⟩ := h
 cases rx
 obtain ⟨t, rfl⟩ := ry
 obtain ⟨its, r, pl, hz⟩ := I.tuple hq
 obtain ⟨j, h1, h2, h3, h4, h5⟩ := A80 he
 obtain ⟨w, ew, rw'⟩ := r.get h2
 have hl := r.length
 have hn := A48
 have fin : EP X pins σ Q w s := ⟨z, H, I, rw', q⟩
 exact subscriptTail_builtinR (x := w) pl.typeIs slot_tuple_getitem.lookup
  (getItem_tuple (j := j) (Q := fun r s' => r = w /\ EP X pins σ Q r s') pl (by lia) (by lia) (by rw [P8, <- hl]; exact h1) (by simpa using ew) ⟨rfl, fin⟩) hs
theorem C0d : IxR X B4j := by
 intro value slice pins s σ H x y v u Q I rx ry h hs
 obtain ⟨z, i, c, rfl, rfl, hz, he, q⟩ := h
 obtain ⟨t, rfl⟩ := rx
 obtain ⟨t', rfl⟩ := ry
 obtain ⟨j, h1, h2, h3, h4, h5⟩ := A80 he
 have hl : z.cps.toList.length = z.length := by simp [Str.length]
 rw [hl] at h1 h4 h5
 have hn := A48
 exact tail_any (typeIs_str s z t) slot_str_getitem.lookup (getItem_str (c := c) (by
  have e1 : decide (i < -(2 ^ 63 : Int)) = false := decide_eq_false (by lia)
  have e2 : decide (i ≥ 2 ^ 63) = false := decide_eq_false (by lia)
  rw [e1, e2, Bool.or_false]) (by rw [h1]; simpa using h2) ⟨.str ⟨#[c]⟩, H, I.tok _, ⟨_, rfl⟩, q⟩) hs
def rIx (K : A3) : R2 := fun x y H Q => B4h K x y H Q \/ B4i K x y H Q \/ B4j x y H Q
theorem L9 : IxR X (rIx X.K) := T9.or (C0c.or C0d)
theorem C0e (its : List Value) (n j : Nat) (u : Value) : A4r (·.setIfInBounds j u) { cls := .type "list", data := .seq its.toArray n } = { cls := .type "list", data := .seq (its.set j u).toArray n } := by
 simp [A4r]
theorem Inv.lst {pins : List (Addr × Obj)} {σ : St} {H : Hp} {s : Shared} {p : Addr} {xs : List V} (I : Inv X pins σ H s) (h : H p = some (.lst xs)) :
  ∃ (its : List Value) (n : Nat), D9 xs its /\ s.heap.get? p = some { cls := .type "list", data := .seq its.toArray n } /\ xs.length <= sizeLine := by
 obtain ⟨z, its, n, r, e⟩ := I.hok p _ h
 exact ⟨its, n, r, e, z⟩
theorem Inv.lstUpd {pins : List (Addr × Obj)} {σ : St} {H : Hp} {s : Shared} {p : Addr} {xs ys : List V} {its its' : List Value} {n n' : Nat} {f : Obj -> Obj} (I : Inv X pins σ H s) (h : H p = some (.lst xs))
  (ho : s.heap.get? p = some { cls := .type "list", data := .seq its.toArray n }) (hf : f { cls := .type "list", data := .seq its.toArray n } = { cls := .type "list", data := .seq its'.toArray n' }) (r : D9 ys its') (hz : ys.length <= sizeLine) (t : Nat) :
  Inv X pins σ (upd H p (.lst ys)) { s with heap := s.heap.update p f, toks := t } := by
 have e : (s.heap.update p f).get? p = some { cls := .type "list", data := .seq its'.toArray n' } := by
  rw [Heap.get?_update_self f ho (by rw [hf] <;> rfl), hf]
 refine I.write (x := p) (e := p) (by rw [h]; trivial) (.inl rfl) (fun b u hb q => (B8n _ _ (Ne.symm hb)).trans q) ⟨_, e⟩ ?_
 exact ⟨hz, its', n', r, e⟩
def B4k : V -> V -> V -> Hp -> (Hp -> Prop) -> Prop := fun o i v H Q => ∃ p xs k j, o = .ref p /\ i = .int k /\ H p = some (.lst xs) /\ ixN xs.length k = some j /\ Q (upd H p (.lst (xs.set j v)))
theorem W4 : B0v X B4k := by
 intro pins s σ H o i v ov iv u Q I ro ri rv h
 obtain ⟨p, xs, k, j, rfl, rfl, hp, hj, q⟩ := h
 cases ro
 obtain ⟨t, rfl⟩ := ri
 obtain ⟨its, n, r, ho, hz⟩ := I.lst hp
 obtain ⟨h1, h2, h3, h4⟩ := B4f hj
 have hl := r.length
 have hn := A48
 have I' : Inv X pins σ (upd H p (.lst (xs.set j v))) { s with heap := s.heap.update p (A4r (·.setIfInBounds j u)) } :=
  I.lstUpd hp ho (C0e its n j u) (r.set rv j) (by rw [N3]; exact hz) s.toks
 by_cases h0 : 0 <= k
 ·have hk : k.toNat = j := by
   rw [seqIndex_of h0 h4] at h1
   exact Option.some.inj h1
  exact PySem.W.ki_setAt ho h0 (by lia) (by rw [P8, <- hl]; exact h4) (by rw [hk]; exact ⟨_, I', q⟩)
 ·have hk : (k + (its.toArray.size : Int)).toNat = j := by
   rw [seqIndex_neg (by lia) h3] at h1
   rw [P8, <- hl]
   exact Option.some.inj h1
  exact PySem.W.ki_setBack ho (by lia) (by rw [P8, <- hl]; exact h3) (by lia) (by rw [hk]; exact ⟨_, I', q⟩)
theorem C0f (lo hi : Option Int) (n : Nat) : (sliceBounds lo hi none n).1 = ((HT.sIx n 0 lo : Nat) : Int) /\ (sliceBounds lo hi none n).2.1 = ((HT.sIx n n hi : Nat) : Int) /\ (sliceBounds lo hi none n).2.2 = 1 := by
 refine ⟨?_, ?_, rfl⟩
 ·cases lo with
  | none => simp [sliceBounds, HT.sIx]
  | some i =>
   simp only [sliceBounds, HT.sIx, Option.getD_none, show (1 : Int) > 0 by decide, if_true]
   by_cases h : i < 0
   ·simp only [h, if_true] <;> lia
   ·simp only [h, if_false] <;> lia
 ·cases hi with
  | none => simp [sliceBounds, HT.sIx]
  | some i =>
   simp only [sliceBounds, HT.sIx, Option.getD_none, show (1 : Int) > 0 by decide, if_true]
   by_cases h : i < 0
   ·simp only [h, if_true] <;> lia
   ·simp only [h, if_false] <;> lia
theorem C0g (its : List Value) (lo hi : Option Int) : slicePick its.toArray lo hi none = ((its.drop (HT.sIx its.length 0 lo)).take (HT.sIx its.length its.length hi - HT.sIx its.length 0 lo)).toArray := by
 obtain ⟨h1, h2, h3⟩ := C0f lo hi its.toArray.size
 unfold slicePick
 rw [h1, h2, h3]
 simp only [sliceRange_one, pick_run, P8] <;> rfl
def C0h (K : A3) : V -> Option Int -> Option Int -> Hp -> VK -> Prop := fun x lo hi H Q => ∃ a xs, x = .ref a /\ SqL K H a xs /\ ∀ p, H p = none -> Q (.ref p) (upd H p (.lst (A33 xs lo hi)))
theorem B08 : SlR X (C0h X.K) := by
 intro pins s σ H x v vl vu lo hi sl Q I rx hs pl pu h
 obtain ⟨a, xs, rfl, hx, q⟩ := h
 cases rx
 obtain ⟨its, r, ht, hz⟩ := I.list hx
 have hlen := r.length
 refine ⟨"list", _, slot_list_getitem.lookup, ht.isList.typeIs, ?_⟩
 refine wpAny_getItem_list_slice ht.isList hs pl pu .none (by simp) ?_ (by rw [P8] <;> lia)
 rw [C0g, <- hlen]
 refine ⟨.ref s.heap.objs.size, _, I.laid (t' := s.toks) (o := .lst (A33 xs lo hi)) (fun b ob q => U6 _ q) (J8 _) ?_, rfl, q _ (I.hok.fresh (J8 _))⟩
 exact ⟨t8 (C0b xs lo hi) hz, _, 0, (r.drop (HT.sIx xs.length 0 lo)).take (HT.sIx xs.length xs.length hi - HT.sIx xs.length 0 lo), i9 _ rfl⟩
def x6 : V -> Bool
 | .non => true
 | .bl _ => true
 | .int _ => true
 | .str _ => true
 | _ => false
def eqV : V -> V -> Bool
 | .non, .non => true
 | .bl a, .bl b => a == b
 | .bl a, .int b => (if a then 1 else 0) == b
 | .int a, .bl b => a == (if b then 1 else 0)
 | .int a, .int b => a == b
 | .str a, .str b => a == b
 | _, _ => false
theorem C0i {A : Around} {s : Shared} {y x : V} {u v : Value} (ry : F5 y u) (rx : F5 x v) (fy : x6 y = true) (fx : x6 x = true) : SeqAt.EqAt A s u v (eqV y x) := by
 cases y with
 | non =>
  cases ry
  cases x with
  | non => cases rx; exact SeqAt.EqAt.same _
  | bl b => cases rx; exact SeqAt.EqAt.none_bool b
  | int b => obtain ⟨t, rfl⟩ := rx; exact SeqAt.EqAt.none_int b t
  | str b => obtain ⟨t, rfl⟩ := rx; exact SeqAt.EqAt.none_str b t
  | _ => exact absurd (show false = true from fx) Q2
 | bl a =>
  cases ry
  cases x with
  | non => cases rx; exact SeqAt.EqAt.bool_none a
  | bl b => cases rx; exact SeqAt.EqAt.bool_bool a b
  | int b => obtain ⟨t, rfl⟩ := rx; exact SeqAt.EqAt.bool_int a b t
  | str b => obtain ⟨t, rfl⟩ := rx; exact SeqAt.EqAt.bool_str a b t
  | _ => exact absurd (show false = true from fx) Q2
 | int a =>
  obtain ⟨t', rfl⟩ := ry
  cases x with
  | non => cases rx; exact SeqAt.EqAt.int_none a t'
  | bl b => cases rx; exact SeqAt.EqAt.int_bool a t' b
  | int b => obtain ⟨t, rfl⟩ := rx; exact SeqAt.EqAt.int_int a t' b t
  | str b => obtain ⟨t, rfl⟩ := rx; exact SeqAt.EqAt.int_str a t' b t
  | _ => exact absurd (show false = true from fx) Q2
 | str a =>
  obtain ⟨t', rfl⟩ := ry
  cases x with
  | non => cases rx; exact SeqAt.EqAt.str_none a t'
  | bl b => cases rx; exact SeqAt.EqAt.str_bool a t' b
  | int b => obtain ⟨t, rfl⟩ := rx; exact SeqAt.EqAt.str_int a t' b t
  | str b => obtain ⟨t, rfl⟩ := rx; exact SeqAt.EqAt.str_str a t' b t
  | _ => exact absurd (show false = true from fx) Q2
 | _ => exact absurd (show false = true from fy) Q2
def eqU (x : V) (u : Value) : Bool := match u with
 | .none => eqV .non x
 | .bool b => eqV (.bl b) x
 | .int i _ => eqV (.int i) x
 | .str z _ => eqV (.str z) x
 | _ => false
theorem B4l {x y : V} {u : Value} (r : F5 y u) (f : x6 y = true) : eqU x u = eqV y x := by
 cases y with
 | non => cases r; rfl
 | bl b => cases r; rfl
 | int i => obtain ⟨t, rfl⟩ := r; rfl
 | str z => obtain ⟨t, rfl⟩ := r; rfl
 | _ => exact absurd (show false = true from f) Q2
theorem B09 {x : V} : ∀ {xs : List V} {us : List Value}, D9 xs us -> xs.all x6 = true -> us.any (eqU x) = xs.any fun y => eqV y x
 | _, _, .nil, _ => rfl
 | y :: xs, u :: us, .cons r t, f => by
  rw [List.all_cons, j2] at f
  rw [List.any_cons, List.any_cons, B4l r f.1, B09 t f.2]
theorem B1a {A : Around} {s : Shared} {x : V} {v : Value} (rx : F5 x v) (fx : x6 x = true) : ∀ {xs : List V} {us : List Value}, D9 xs us -> xs.all x6 = true -> ∀ u ∈ us, SeqAt.EqAt A s u v (eqU x u)
 | _, _, .nil, _ => fun u hu => by cases hu
 | y :: xs, u :: us, .cons r t, f => fun u' hu => by
  rw [List.all_cons, j2] at f
  rcases O7.mp hu with rfl | hu
  ·rw [B4l r f.1]; exact C0i r rx f.1 fx
  ·exact B1a rx fx t f.2 u' hu
def inV (x : V) (xs : List V) : Bool := xs.any fun y => eqV y x
def rIn (K : A3) (neg : Bool) : R2 := fun x y H Q => ∃ p xs, y = .ref p /\ (SqL K H p xs \/ SqT K H p xs) /\ x6 x = true /\ xs.all x6 = true /\ Q (.bl (if neg then !inV x xs else inV x xs)) H
theorem C0j : OpR X (compareOp .NotIn) (rIn X.K true) := by
 intro pins s σ H x y v u Q I rx ry h
 obtain ⟨p, xs, rfl, hq, fx, fs, q⟩ := h
 cases ry
 rcases hq with hq | hq
 ·obtain ⟨its, r, pl, hz⟩ := I.list hq
  refine SeqAt.notIn_listAt (eqU x) pl.isList (fun w hw => B1a rx fx r fs w (by simpa using hw)) ⟨.bl _, H, I, rfl, ?_⟩
  rw [show its.toArray.any (eqU x) = its.any (eqU x) by simp, B09 r fs]
  exact q
 ·obtain ⟨its, r, pl, hz⟩ := I.tuple hq
  refine SeqAt.notIn_tupleAt (eqU x) pl (fun w hw => B1a rx fx r fs w (by simpa using hw)) ⟨.bl _, H, I, rfl, ?_⟩
  rw [show its.toArray.any (eqU x) = its.any (eqU x) by simp, B09 r fs]
  exact q
theorem U0 : w5 X (.builtin "len") (fun xs H Q => ∃ p ys, xs = [.ref p] /\ (SqL X.K H p ys \/ SqT X.K H p ys) /\ Q (.int ys.length) H) := by
 intro pins s σ H xs us Q I r h
 obtain ⟨p, ys, rfl, hq, q⟩ := h
 obtain ⟨u, rfl, rx⟩ := w6 r
 cases rx
 have hn := A48
 rcases hq with hq | hq
 ·obtain ⟨its, r', pl, hz⟩ := I.list hq
  have hlen := r'.length
  exact Calls.call_len_list pl.isList (by simp only [P8] <;> lia) ⟨.int ys.length, H, I.tok _, ⟨s.toks + 1, by rw [P8, hlen]⟩, q⟩
 ·obtain ⟨its, r', pl, hz⟩ := I.tuple hq
  have hlen := r'.length
  exact len_tuple pl (by simp only [P8] <;> lia) ⟨.int ys.length, H, I.tok _, ⟨s.toks + 1, by rw [P8, hlen]⟩, q⟩
theorem A12 : w5 X (.type "list") (fun xs H Q => ∃ p ys, xs = [.ref p] /\ (SqL X.K H p ys \/ SqT X.K H p ys) /\ ∀ l, H l = none -> Q (.ref l) (upd H l (.lst ys))) := by
 intro pins s σ H xs us Q I r h
 obtain ⟨p, ys, rfl, hq, q⟩ := h
 obtain ⟨u, rfl, rx⟩ := w6 r
 cases rx
 have fin : ∀ (its : List Value), D9 ys its -> ys.length <= sizeLine -> ∀ (h' : Heap) (c' : Nat), (∀ b o', s.heap.get? b = some o' -> h'.get? b = some o') ->
   h'.get? s.heap.objs.size = some { cls := .type "list", dict := none, data := .seq its.toArray c', slots := #[] } -> EP X pins σ Q (.ref s.heap.objs.size) { s with heap := h' } := fun its r' hz h' c' kp e =>
  ⟨.ref s.heap.objs.size, _, I.laid (t' := s.toks) kp (J8 _) (show P0 X.prog X.w _ h' _ (.lst ys) from ⟨hz, its, c', r', e⟩), rfl, q _ (I.hok.fresh (J8 _))⟩
 rcases hq with hq | hq
 ·obtain ⟨its, r', pl, hz⟩ := I.list hq
  have hlen := r'.length
  obtain ⟨o, ho, hc, n, hd⟩ := pl.isList
  exact call_list_seq p (.inl rfl) ho hc hd (fun h' c' kp e => fin its r' hz h' c' kp e) (by simp only [P8] <;> lia)
 ·obtain ⟨its, r', pl, hz⟩ := I.tuple hq
  have hlen := r'.length
  obtain ⟨o, ho, hc, n, hd⟩ := pl
  exact call_list_seq p (.inr rfl) ho hc hd (fun h' c' kp e => fin its r' hz h' c' kp e) (by simp only [P8] <;> lia)
def tyV (K : A3) (T : String) (x : V) (H : Hp) : Prop := match x with
 | .str _ => T = "str"
 | .int _ => T = "int"
 | .ref p => (T = "list" /\ ∃ xs, SqL K H p xs) \/ (T = "tuple" /\ ∃ o, K.lookup p = some o /\ o.cls = .type "tuple" /\ o.dict = none) \/
   (T = "dict" /\ ((∃ kvs, H p = some (.dK kvs)) \/ ∃ kvs, H p = some (.dT kvs))) \/ (T = "set" /\ ∃ S n, H p = some (.set S n))
 | _ => False
theorem C0k {pins : List (Addr × Obj)} {σ : St} {H : Hp} {s : Shared} {T : String} {x : V} {v : Value} (I : Inv X pins σ H s) (r : F5 x v) (ty : tyV X.K T x H) :
  s.TypeIs v T /\ ∀ a, v = .ref a -> ∃ ob, s.heap.get? a = some ob /\ ob.dict = none := by
 cases x with
 | str z =>
  obtain ⟨t, rfl⟩ := r
  cases (show T = "str" from ty)
  exact ⟨typeIs_str s z t, fun _ e => nomatch e⟩
 | int i =>
  obtain ⟨t, rfl⟩ := r
  cases (show T = "int" from ty)
  exact ⟨typeIs_int s i t, fun _ e => nomatch e⟩
 | ref p =>
  cases r
  rcases ty with ⟨rfl, xs, hq⟩ | ⟨rfl, o, hk, hc, hd⟩ | ⟨rfl, hk⟩ | ⟨rfl, S, n, hk⟩
  ·obtain ⟨its, _, pl, _⟩ := I.list hq
   refine ⟨pl.isList.typeIs, fun a e => ?_⟩
   cases e
   obtain ⟨o, n, e, c, hd, _⟩ := pl
   exact ⟨o, e, hd⟩
  ·refine ⟨⟨o, I.kIn p o hk, hc⟩, fun a e => ?_⟩
   cases e
   exact ⟨o, I.kIn _ o hk, hd⟩
  ·have z : ∃ o, s.heap.get? p = some o /\ o.ExactDict := by
    rcases hk with ⟨kvs, hk⟩ | ⟨kvs, hk⟩
    ·obtain ⟨_, _, _, _, o, _, _, e, ex, _⟩ := I.hok p _ hk
     exact ⟨o, e, ex⟩
    ·obtain ⟨_, _, _, _, o, _, _, e, ex, _⟩ := I.hok p _ hk
     exact ⟨o, e, ex⟩
   obtain ⟨o, e, ex⟩ := z
   refine ⟨⟨o, e, ex.1⟩, fun a e2 => ?_⟩
   cases e2
   exact ⟨o, e, ex.2.1⟩
  ·obtain ⟨o, _, _, _, e, ex, _⟩ := I.hok p _ hk
   refine ⟨⟨o, e, ex.1⟩, fun a e2 => ?_⟩
   cases e2
   exact ⟨o, e, ex.2.1⟩
 | _ => exact False.elim ty
def tBM (K : A3) (T : String) (r : V -> List V -> Hp -> VK -> Prop) (to : TE) (t : TA) : TE := fun σ H Q => to σ H fun x H1 => tyV K T x H1 /\ t σ H1 fun xs H2 => r x xs H2 Q
variable {o e : Expr} {es : List Expr} {to : TE} {t : TA} {name : Str} {apos cpos : Pos} {T id : String} {r : V -> List V -> Hp -> VK -> Prop}
theorem Y9 (pa : PlainAttrs T) (slot : Slot T name id) (hty : typeOf (.builtin id) = pure (.type "method_descriptor")) (hm : MtR X id r) (ho : PE X o to) (ha : PA X (e :: es) t)
  (hbase : attributeBase o name X.env (eval o X.env) = eval o X.env := by rfl)
  (hfew : ((backTo cpos (starEach (e :: es) X.env)).all (fun x => !x.1) && (backToKw cpos (keywordEach [] X.env)).all (fun x => x.1.isSome)
   && decide ((e :: es).length + ([] : List Keyword).length + (if ([] : List Keyword).isEmpty then 0 else 1) < 30)) = true := by rfl)
  (hline : (apos.endLine == cpos.line) = true := by rfl) (hs : starEach (e :: es) X.env = (false, eval e X.env) :: starEach es X.env := by rfl) (hplain : (backTo cpos (starEach es X.env)).any (·.1) = false := by rfl) :
  PE X (.Call (.Attribute o name apos) (e :: es) [] cpos) (tBM X.K T r to t) := by
 intro pins s σ H Q I h
 refine wpAny_Call_method_late hbase hfew hline rfl (thn (ho pins s σ H _ I h) fun v s1 zz224 => zz224.elim fun x zz225 => zz225.elim fun H1 zz226 => zz226.elim fun I1 zz227 => zz227.elim fun r1 zz228 => zz228.elim fun ty q1 => ?_)
 obtain ⟨h1, h2⟩ := C0k I1 r1 ty
 refine ⟨T, id, pa, slot, hty, h1, h2, ?_⟩
 have hA := ha cpos pins s1 σ H1 _ I1 q1
 rw [hs] at hA ⊢
 refine Calls.callWith_builtin (by show (false || (backTo cpos (starEach es X.env)).any (·.1)) = false; rw [hplain] <;> rfl) (Calls.evalArgs_plain ?_)
 exact thn hA fun us s2 zz229 => el5 zz229 fun vs H2 I2 r2 q2 => hm pins s2 σ H2 x vs v us Q I2 r1 r2 q2
end
end L2
namespace L2
open PySem PySem.Spec PyProof.Rows
def MtM (X : Cx) (id : String) (r : V -> List V -> Hp -> VK -> Prop) : Prop :=
 ∀ (pins : List (Addr × Obj)) (s : Shared) (σ : St) (H : Hp) (x : V) (xs : List V) (v : Value) (us : List Value) (Q : VK), Inv X pins σ H s -> F5 x v -> D9 xs us -> r x xs H Q ->
  wpAny (model X.prog X.w) X.A (call (.builtin id) (v :: us)) (EP X pins σ Q) X.xe s
theorem D9.one {x : V} {us : List Value} (h : D9 [x] us) : ∃ u, us = [u] /\ F5 x u := by
 cases h with
 | cons r t => cases t; exact ⟨_, rfl, r⟩
theorem D9.rep {xs : List V} {us : List Value} (h : D9 xs us) : ∀ k : Nat, D9 (G8 k xs).flatten (G8 k us).flatten
 | 0 => .nil
 | k + 1 => by
  rw [j3, j3, A4s, A4s]
  exact D9.append h (D9.rep h k)
theorem B4m (its : List Value) : ∀ (k : Nat) (acc : List Value),
  List.foldl (fun x1 x2 => x1 ++ x2) acc.toArray (G8 k its.toArray) = (acc ++ (G8 k its).flatten).toArray
 | 0, acc => by simp
 | k + 1, acc => by
  have e : acc.toArray ++ its.toArray = (acc ++ its).toArray := by simp
  have e2 : (acc ++ its) ++ (G8 k its).flatten = acc ++ (G8 (k + 1) its).flatten := by
   rw [j3, A4s, A3s]
  rw [<- e2, <- B4m its k (acc ++ its), <- e, j3, List.foldl_cons]
section
variable {X : Cx} {pins : List (Addr × Obj)} {σ : St} {H : Hp} {s : Shared} {l b : Addr} {xs ys zs : List V}
theorem Inv.lset {its its' : List Value} {n : Nat} {f : Array Value -> Array Value} {t' : Nat} (I : Inv X pins σ H s) (hH : H l = some (.lst xs))
  (e : s.heap.get? l = some { cls := .type "list", data := .seq its.toArray n }) (hf : f its.toArray = its'.toArray) (hv : D9 ys its') (hz : ys.length <= sizeLine) :
  Inv X pins σ (upd H l (.lst ys)) { s with heap := s.heap.update l (A4r f), toks := t' } := by
 have q := PySem.IsL.update e f
 rw [hf] at q
 refine I.write (x := l) (e := l) (by rw [hH]; exact trivial) (.inl rfl) (fun b' u hb hu => (B8n s.heap (A4r f) (Ne.symm hb)).trans hu) ⟨_, q⟩ ?_
 exact ⟨hz, its', _, hv, q⟩
theorem Inv.lnew {its : List Value} {t' : Nat} (I : Inv X pins σ H s) (hv : D9 ys its) (hz : ys.length <= sizeLine) :
  Inv X pins σ (upd H s.heap.objs.size (.lst ys)) { s with heap := s.heap.push { cls := .type "list", data := .seq its.toArray }, toks := t' } :=
 I.laid (fun _ _ q => U6 _ q) (J8 _) ⟨hz, its, 0, hv, i9 _ rfl⟩
theorem Inv.fresh (I : Inv X pins σ H s) : H s.heap.objs.size = none := I.hok.fresh (J8 _)
theorem Inv.lstM (I : Inv X pins σ H s) (hH : H l = some (.lst xs)) : xs.length <= sizeLine /\ ∃ (its : List Value) (n : Nat), D9 xs its /\ xs.length = its.length /\ s.heap.get? l = some { cls := .type "list", data := .seq its.toArray n } := by
 obtain ⟨z, its, n, r, e⟩ := I.hok l _ hH
 exact ⟨z, its, n, r, r.length, e⟩
theorem C0l {n : Nat} (h : n <= sizeLine) : Builtin.List.listTooLong n = false := by
 unfold Builtin.List.listTooLong
 exact decide_eq_false (by lia)
end
section
variable {X : Cx}
def A82 : V -> List V -> Hp -> VK -> Prop := fun x vs H Q => ∃ l xs y, x = .ref l /\ vs = [y] /\ H l = some (.lst xs) /\ xs.length < sizeLine /\ Q .non (upd H l (.lst (xs ++ [y])))
theorem m6 : MtM X "list.append" A82 := by
 intro pins s σ H x vs v us Q I rx rv h
 obtain ⟨l, xs, y, rfl, rfl, hH, hz, q⟩ := h
 cases rx
 obtain ⟨u, rfl, ru⟩ := rv.one
 obtain ⟨z, its, n, r, hl, e⟩ := I.lstM hH
 refine call_meets F.slot_list_append ⟨_, e, rfl⟩ F.entry_list_append (F.args_list_append_2 _ _) (PySem.list_append l its.toArray n u (by rw [P8]; lia)) ⟨e, ?_⟩
 refine ⟨.non, _, I.lset (its' := its ++ [u]) hH e (by simp) (r.append (.cons ru .nil)) ?_, rfl, q⟩
 rw [O3, B3b]
 lia
def C0m : R2 := fun x y H Q => ∃ l b xs zs, x = .ref l /\ y = .ref b /\ H l = some (.lst xs) /\ H b = some (.lst zs) /\ xs.length + zs.length <= sizeLine /\ ∀ p, H p = none -> Q (.ref p) (upd H p (.lst (xs ++ zs)))
theorem A83 : OpR X (binaryOp .Add) C0m := by
 intro pins s σ H x y v u Q I rx ry h
 obtain ⟨l, b, xs, zs, rfl, rfl, hH, hB, hz, q⟩ := h
 cases rx
 cases ry
 obtain ⟨z, its, n, r, hl, e⟩ := I.lstM hH
 obtain ⟨z2, its2, n2, r2, hl2, e2⟩ := I.lstM hB
 refine PySem.P.add_list e e2 ?_ (by rw [P8, P8]; lia)
 have ea : its.toArray ++ its2.toArray = (its ++ its2).toArray := by simp
 rw [ea]
 exact ⟨.ref _, _, I.lnew (t' := s.toks) (r.append r2) (by rw [O3]; lia), rfl, q _ I.fresh⟩
def C0n : R2 := fun x y H Q => ∃ l k xs, x = .ref l /\ y = .int k /\ H l = some (.lst xs) /\ -(2 ^ 63) <= k /\ k < 2 ^ 63 /\ xs.length * k.toNat <= sizeLine /\
 ∀ p, H p = none -> Q (.ref p) (upd H p (.lst (G8 k.toNat xs).flatten))
theorem C0o {α : Type} (xs : List α) (k : Nat) : (G8 k xs).flatten.length = k * xs.length := by
 induction k with
 | zero => simp
 | succ k ih => rw [j3, A4s, O3, ih, Nat.succ_mul, Nat.add_comm]
theorem C0p : OpR X (binaryOp .Mult) C0n := by
 intro pins s σ H x y v u Q I rx ry h
 obtain ⟨l, k, xs, rfl, rfl, hH, h1, h2, hz, q⟩ := h
 cases rx
 obtain ⟨t, rfl⟩ := ry
 obtain ⟨z, its, n, r, hl, e⟩ := I.lstM hH
 have hlen : its.toArray.size * k.toNat <= sizeLine := by rw [P8, <- hl]; exact hz
 have hcap : ¬ its.toArray.size * k.toNat > (2 ^ 63 - 1) / 8 := by
  have : (sizeLine : Nat) <= (2 ^ 63 - 1) / 8 := by decide
  lia
 have hfit : ¬ (!Builtin.List.listFitsIndex k) = true := by
  rw [fitsIndex_both h1 h2]
  exact Q2
 have hlong : ¬ Builtin.List.listTooLong (its.toArray.size * k.toNat) = true := by
  rw [C0l hlen]
  exact Q2
 have hnew : List.foldl (fun x1 x2 => x1 ++ x2) #[] (G8 (if its.toArray.isEmpty = true then 0 else k.toNat) its.toArray) = (G8 k.toNat its).flatten.toArray := by
  have f0 : ∀ m : Nat, List.foldl (fun x1 x2 => x1 ++ x2) #[] (G8 m its.toArray) = (G8 m its).flatten.toArray := fun m => by
   have := B4m its m []
   rw [W3] at this
   exact this
  rw [f0]
  cases its with
  | nil => simp
  | cons a r' => rw [if_neg (by simp)]
 refine wpAny_binaryOp_repeat_ref (T := "list") (U := "int") (by decide) ⟨_, e, rfl⟩ (fun s' => typeIs_int s' k t) noFill_list_mul F.fills_int_mul F.slot_int_rmul repeat_list F.slot_int_index.lookup
  (call_meets F.slot_int_rmul (typeIs_int s k t) F.entry_int_rmul (F.args_int_rmul_2 _ _) (int___rmul___int_list k t l its.toArray n)
   ⟨e, rfl, ⟨_, e, rfl⟩, call_meets F.slot_list_mul ⟨_, e, rfl⟩ F.entry_list_mul (F.args_list_mul_2 _ _) (AutoListH.list___mul___list_int_3 l its.toArray n k t hfit hcap hlong) ⟨e, ?_⟩⟩)
 rw [hnew]
 exact ⟨.ref _, _, I.lnew (t' := s.toks) (r.rep k.toNat) (by rw [C0o, Nat.mul_comm]; exact hz), rfl, q _ I.fresh⟩
end
section
variable {prog : Program} {w : World} {A : Around} {E : Value -> Shared -> Prop} {s : Shared}
set_option maxRecDepth 100000 in
end
section
variable {X : Cx}
end
end L2
namespace Att
open PySem PySem.W PySem.Calls PyProof.Rows
theorem C0q {P : Params} {h : Heap} : ∀ (ns : List Int) (vs : List Value), WellAll P h vs (ns.map WData.int) -> IntsAre vs ns := by
 intro ns
 induction ns with
 | nil =>
  intro vs w
  rw [List.map_nil] at w
  cases w
  exact .nil
 | cons n ns ih =>
  intro vs w
  rw [j1] at w
  cases w with
  | cons a b =>
   cases a
   exact .cons _ _ (ih _ b)
theorem C0r {l : OpenLaw} {n : Nat} (hn : l.most = some n) {P : Params} {h : Heap} {args : List WData} {vals : List Value}
  (hpre : l.row.toRowW.claim.pre args = true) (hwl : WellAll P h vals args) :
  ∃ a vs ns, vals = [Value.ref a] /\ args = [WData.list (ns.map WData.int)] /\ h.get? a = some { cls := .type "list", data := .seq vs.toArray } /\ IntsAre vs ns /\ ns.length <= n := by
 have hsh : WShape.hasAll [] args [.list .int] = true := (pre_splitW hpre).1
 have hc : l.pre.holds [] { args := args } = true := (pre_splitW hpre).2
 obtain ⟨d, r, rfl, h1, h2⟩ := hasAllW_cons hsh
 obtain rfl := hasAllW_nil h2
 obtain ⟨xs, rfl, h3⟩ := hasW_list h1
 obtain ⟨ns, rfl⟩ := items_int h3
 have hlen : ns.length <= n := by
  unfold OpenLaw.pre at hc
  have h4 : (WTm.not (.lt (.lit (.int (n : Int))) (.len (.arg 0)))).holds [] { args := [.list (ns.map .int)] } = true := by
   have h4 := (holds_andW hc).1
   rw [hn] at h4
   exact h4
  have h5 := condW_of h4 (w_not (w_lt w_lit (w_len_list (w_arg rfl))))
  rw [F6] at h5
  refine Nat.le_of_not_lt fun q => ?_
  have q' : (n : Int) < ((ns.length : Nat) : Int) := by lia
  first
   | (rw [decide_eq_true q'] at h5; exact absurd h5 (by decide))
   | (simp at h5; lia)
 cases hwl with
 | cons w1 w2 =>
  cases w2
  cases w1 with
  | list ho hall => exact ⟨_, _, ns, rfl, rfl, ho, C0q ns _ hall, hlen⟩
theorem C0s (l : OpenLaw) (args : List WData) : l.row.toRowW.claim.post args (.bool true) args = true :=
 postW_of (r := l.row.toRowW) (X := (true == true))
  (show WShape.has [] (.bool true) .bool = true by first | rfl | decide | simp [WShape.has, WShape.arms, WShape.armsAll])
  (show (WTm.eq .res (.lit (.bool true))).value [] { args := args, res := some (.bool true), after := args } = some (.bool (true == true)) from w_eq_bool (w_res rfl) w_lit) rfl
theorem attach_call {l : OpenLaw} {n : Nat} {q : Program} {loose : List Str} {XP : (Str -> Option Value) -> Heap -> Prop} {YP : World -> Heap -> Prop} {d : DefRec}
  (hn : l.most = some n) (hdf : d.params.defaults = [])
  (call : ∀ (w : World) (s₀ s₁ : Shared) (mg mb : Str -> Option Value) (fa : Addr) (o : Obj) (pm cd doc : Value) (a : Addr) (vs : List Value) (ns : List Int),
   Ground q loose [] XP w s₀ mg mb s₁.heap -> YP w s₁.heap ->
   s₁.heap.get? fa = some o -> o.data = .func (docDef d.name d.params d.body d.scope pm cd doc) -> s₁.heap.CodeRec cd d.name -> mg d.name = some (.ref fa) ->
   s₁.heap.get? a = some { cls := .type "list", data := .seq vs.toArray } -> IntsAre vs ns -> ns.length <= n -> s₁.gens = #[] ->
   codeAny (model l.prog w) callerA (.call (.ref fa) ⟨[.ref a], []⟩) (fun r s' => r = .ok (.ret (.bool true)) /\ OldK s₁.heap s'.heap /\ s'.os = s₁.os /\ AllBare s'.gens) s₁) :
  WalkO q loose XP YP l.row.toRowW d [] (fun f vs => PySem.call f vs) := by
 intro w s₀ s₁ mg mb G Y fa o pm cd doc dV kV ho hd hcd hD hmg hg args vals as hpre hlay hrd hwl hlo
 obtain rfl : dV = .none := Dflts.none hD hdf
 obtain rfl : kV = .none := Dflts.noKw hD
 obtain ⟨a, vs, ns, rfl, rfl, hobj, hints, hlen⟩ := C0r hn hpre hwl
 refine enter_call (codeAny_mono (call w s₀ s₁ mg mb fa o pm cd doc a vs ns G Y ho (fd_plain hd) hcd hmg hobj hints hlen hg) fun r s' hq => ?_)
 obtain ⟨rfl, h2, h3, h4⟩ := hq
 exact ⟨.inl ⟨.bool true, .bool true, [], rfl, fun _ => rfl, .bool true, C0s l _, fun _ => ⟨List.Pairwise.nil, fun _ hm => (nomatch hm)⟩⟩, h2, h3, h4⟩
section
variable {prog : Program} {w : World} {A : Around} {E : Value -> Shared -> Prop} {s : Shared} {K : Frag}
def C8g (h : Heap) (L d : Addr) : List (Addr × Obj) := (N5 h.objs.size).filterMap fun a => if a = L \/ a = d then none else (h.get? a).map fun o => (a, o)
end
end Att
namespace L2
open PySem PySem.Spec PyProof.Rows
theorem B4n : ∀ {vs : List Value} {ns : List Int}, IntsAre vs ns -> D9 (ns.map V.int) vs
 | _, _, .nil => .nil
 | _, _, .cons n t h => .cons ⟨t, rfl⟩ (B4n h)
def B1b (H : Hp) : Prop := ∀ b, H b = none \/ ∃ o xs, H b = some (.frz o (.lst xs))
theorem C0t {P : Program} {w : World} {K : A3} {mg mb : Str -> Option Value} {CX : CXT} {k : Nat} {fa a : Addr} {fd : FuncData} {x : Str} {sp : Sp} {s₁ : Shared} {vs : List Value} {ns : List Int}
  (KX : K.In s₁.heap) (hns : s₁.heap.Ns mainGlobals mg) (hb : s₁.heap.Ns builtinsNs mb) (hbb : ∀ x : Str, x ≠ "__name__" -> mb x = bootBuiltins x) (hlim : s₁.heap.NoLimit) (hg : s₁.gens = #[])
  (ha : s₁.heap.get? a = some { cls := .type "list", data := .seq vs.toArray }) (hi : IntsAre vs ns) (hl : ns.length <= sizeLine) (hr : Q6 k callerA)
  (F : ∀ base : Heap, K.In base -> base.Ns mainGlobals mg -> D4 P w K mg base CX k fa fd [x] sp) (hbind : ∀ (s : Shared) (u : Value), BindsTo s fd ⟨[u], []⟩ [(x, u)])
  (hsp : ∀ H : Hp, B1b H -> SqL K H a (ns.map V.int) -> sp [.ref a] H (fun v _ => v = .bl true) fun _ _ _ => False)
  (hCX : ∀ H e s', CX [] H s₁ (fun _ _ _ => False) e s' -> False) :
  codeAny (model P w) callerA (.call (.ref fa) ⟨[.ref a], []⟩) (fun r s' => r = .ok (.ret (.bool true)) /\ OldK s₁.heap s'.heap /\ s'.os = s₁.os /\ AllBare s'.gens) s₁ := by
 have rv := B4n hi
 have lenV := hi.length
 have core : ∀ H : Hp, B1b H -> SqL K H a (ns.map V.int) -> HOk P w H s₁.heap -> (∀ b, H b ≠ none -> b = a) -> (H a ≠ none -> K.lookup a = none) ->
   codeAny (model P w) callerA (.call (.ref fa) ⟨[.ref a], []⟩) (fun r s' => r = .ok (.ret (.bool true)) /\ OldK s₁.heap s'.heap /\ s'.os = s₁.os /\ AllBare s'.gens) s₁ := by
  intro H hO hS hok hA hK
  have base_of : ∀ {b : Addr} {o : Obj}, s₁.heap.get? b = some o -> H b = none -> (v4 s₁.heap H).get? b = some o := fun e n => B8y e n
  have noA : ∀ {b : Addr} {o : Obj} {es : Array DictEntry} {ep : Nat}, s₁.heap.get? b = some o -> o.data = .dict es ep -> H b = none := fun {b o es ep} e d => by
   cases q : H b with
   | none => rfl
   | some u =>
    have e' : b = a := hA b (by rw [q]; simp)
    subst e'
    rw [ha] at e; cases e
    have d' : Data.seq vs.toArray _ = Data.dict es ep := d
    cases d'
  have nsK : ∀ {b : Addr} {m : Str -> Option Value}, s₁.heap.Ns b m -> (v4 s₁.heap H).Ns b m := fun {b m} ⟨o, es, ep, e, d, r⟩ => ⟨o, es, ep, base_of e (noA e d), d, r⟩
  have hKb : K.In (v4 s₁.heap H) := fun b o e => base_of (KX b o e) (by
   cases q : H b with
   | none => rfl
   | some u =>
    have e' : b = a := hA b (by rw [q]; simp)
    subst e'
    rw [hK (by rw [q]; simp)] at e; cases e)
  have hM : Mod K mg (v4 s₁.heap H) := ⟨hKb, nsK hns, ⟨mb, nsK hb, hbb⟩, let ⟨mc, h1, h2⟩ := hlim; ⟨mc, nsK h1, h2⟩⟩
  have e0 : A8y P w K mg (v4 s₁.heap H) callerA [] s₁ H := ⟨rfl, hM, fun b o e => B8z e, Nat.le_of_eq (B8x _ _), trivial, fun b hb => absurd (show b ∈ ([] : List Addr) from hb) (by simp), hok, .of_eq hg⟩
  refine codeAny_mono ((F _ hKb (nsK hns)).run callerA [] s₁ H ⟨[.ref a], []⟩ [.ref a] [.ref a] _ _ hr e0 (hbind s₁ (.ref a)) (.cons rfl .nil) (hsp H hO hS)) fun r s' h => ?_
  cases r with
  | error e => exact (hCX H e s' h).elim
  | ok fl =>
   cases fl with
   | next => exact False.elim h
   | brk => exact False.elim h
   | cont => exact False.elim h
   | ret u =>
    obtain ⟨v, H', os, bare, un, hok', r', q⟩ := h
    have q' : v = .bl true := q
    subst q'
    obtain rfl : u = Value.bool true := r'
    refine ⟨rfl, OldK.of_keep fun b o e => ?_, os, bare⟩
    cases q : H b with
    | none => exact un.keep b o e q (by intro z; exact absurd (show b ∈ ([] : List Addr) from z) (by simp)) (by simp)
    | some u =>
     rcases hO b with z | ⟨ob, xs, z⟩
     ·rw [q] at z; cases z
     ·have z2 := un.frzs b ob _ z
      obtain ⟨e1, _⟩ := hok b _ z
      obtain ⟨e2, _⟩ := hok' b _ z2
      rw [e] at e1; cases e1
      exact e2
 cases hk : K.lookup a with
 | some o =>
  have e := KX a o hk
  rw [ha] at e
  cases e
  refine core (fun _ => none) (fun _ => .inl rfl) (.inr ⟨_, vs.toArray, _, hk, rfl, rfl, rfl, by rw [P8, lenV]; exact hl, by simpa using rv⟩) (fun b u z => by have z' : (none : Option HO) = some u := z; cases z') (fun b z => absurd rfl z) fun z => absurd rfl z
 | none =>
  refine core (fun b => if b = a then some (.frz { cls := .type "list", data := .seq vs.toArray } (.lst (ns.map V.int))) else none) (fun b => ?_) (.inl (.inr ⟨{ cls := .type "list", data := .seq vs.toArray }, if_pos rfl⟩)) (fun b u z => ?_) (fun b z => ?_) fun _ => hk
  ·by_cases hb : b = a
   ·exact .inr ⟨_, _, if_pos hb⟩
   ·exact .inl (if_neg hb)
  ·by_cases hb : b = a
   ·have z' := (if_pos hb).symm.trans z
    cases z'
    subst hb
    exact ⟨ha, by rw [F6]; exact hl, vs, _, rv, ha⟩
   ·have z' := (if_neg hb).symm.trans z
    cases z'
  ·by_cases hb : b = a
   ·exact hb
   ·exact absurd (if_neg hb) z
end L2
namespace L2
open PySem PySem.Spec PyProof.Rows
theorem walk_of {l : PySem.W.OpenLaw} {n k : Nat} {q : Program} {loose : List Str} {XP : (Str -> Option Value) -> Heap -> Prop} {YP : World -> Heap -> Prop} {d : DefRec} {K : Params -> A3} {CX : World -> CXT} {sp : World -> Sp} {x : Str}
  (hn : l.most = some n) (hn2 : n <= sizeLine) (hdf : d.params.defaults = []) (hr : Q6 k callerA)
  (hY : ∀ (w : World) (h : Heap), YP w h -> (K w.params).In h)
  (F : ∀ (w : World) (mg : Str -> Option Value) (fa : Addr) (h : Heap), (K w.params).In h -> h.Ns mainGlobals mg -> mg d.name = some (.ref fa) ->
   ∃ fd : FuncData, (∀ (s : Shared) (u : Value), BindsTo s fd ⟨[u], []⟩ [(x, u)]) /\
    ∀ base : Heap, (K w.params).In base -> base.Ns mainGlobals mg -> D4 l.prog w (K w.params) mg base (CX w) k fa fd [x] (sp w))
  (hsp : ∀ (w : World) (H : Hp) (a : Addr) (ns : List Int), ns.length <= n -> B1b H -> SqL (K w.params) H a (ns.map V.int) -> sp w [.ref a] H (fun v _ => v = .bl true) fun _ _ _ => False)
  (hCX : ∀ (w : World) (H : Hp) (s : Shared) (e : Value) (s' : Shared), CX w [] H s (fun _ _ _ => False) e s' -> False) :
  PySem.W.WalkO q loose XP YP l.row.toRowW d [] (fun f vs => PySem.call f vs) := by
 refine Att.attach_call hn hdf fun w s₀ s₁ mg mb fa o pm cd doc a vs ns G Y ho hd hcd hmg hobj hints hlen hg => ?_
 have KX := hY w _ Y
 obtain ⟨fd, hb, hF⟩ := F w mg fa _ KX G.T.g hmg
 exact C0t KX G.T.g G.T.b G.T.builtins G.T.nolimit hg hobj hints (t8 hlen hn2) hr hF hb (fun H hO hS => hsp w H a ns hlen hO hS) fun H e s' => hCX w H s₁ e s'
end L2
namespace L2
open PySem PySem.Spec PyProof.Rows
def E9 (s : Stmt) : Arguments := match s with
 | .FunctionDef _ a _ _ _ _ _ _ _ _ => a
 | _ => { posonlyargs := [], args := [], vararg := none, kwonlyargs := [], kw_defaults := [], kwarg := none, defaults := [] }
def E4 (s : Stmt) : List Stmt := match s with
 | .FunctionDef _ _ b _ _ _ _ _ _ _ => b
 | _ => []
def B0 (s : Stmt) : Scope := match s with
 | .FunctionDef _ _ _ _ _ _ sc _ _ _ => sc
 | _ => { kind := .function, names := [], isGenerator := false, isCoroutine := false }
abbrev CX0 : CXT := fun _ _ _ _ _ _ => False
abbrev E0 : XK := fun _ _ _ => False
theorem B8 {X : Cx} : B06 CX0 X E0 := fun _ _ _ _ _ _ _ h => h.elim
structure Fun (K : A3) (x qual : Str) (st : Stmt) (f : Addr) (fd : FuncData) : Prop where
 ex : ∃ (oc : Value) (od : Option Addr) (kV doc pm : Value) (an : Option Addr) (cdv ct : Value) (osl : Array (Option Value)),
  fd = E7 x qual (E9 st) (E4 st) (B0 st) .none kV doc pm an cdv ct /\ K.lookup f = some ⟨oc, od, .func fd, osl⟩ /\ F7 K cdv qual = true
 kp : B5 K (.ref f) = true
section
variable {P : Program} {w : World} {K : A3} {mg : Str -> Option Value} {base : Heap}
theorem Fun.ok {x qual : Str} {st : Stmt} {f : Addr} {fd : FuncData} {N ps : List Str} {k : Nat} {sp : Sp} (F : Fun K x qual st f fd) (S : F1 N ps (B0 st)) (len : ∀ vs H Q E, sp vs H Q E -> vs.length = ps.length)
  (hbody : ∀ (cdv : Value) (A : Around) (outer : List Env) (s : Shared) (H : Hp) (vs : List V) (Q : VK) (E : XK), Q6 k (A.deeper (envOfC qual (B0 st) s.heap.objs.size f cdv)) -> sp vs H Q E ->
   ∃ t, PSs (A32 CX0 P w K mg base N qual (B0 st) f cdv A outer s H E).nox (E4 st) t /\ t { nx := fun _ H' => Q .non H', rt := Q } (start N vs) H) : D4 P w K mg base CX0 (k + 1) f fd ps sp := by
 obtain ⟨oc, od, kV, doc, pm, an, cdv, ct, osl, rfl, lk, hcd⟩ := F.ex
 refine B97 lk hcd S len fun A outer s H vs Q E hr hsp => ?_
 obtain ⟨t, h, q⟩ := hbody cdv A outer s H vs Q E hr hsp
 exact ⟨t, h.nox, q⟩
theorem Fun.binds {x qual : Str} {st : Stmt} {f : Addr} {fd : FuncData} {ps : List Str} (F : Fun K x qual st f fd)
  (h : ∀ (kV doc pm : Value) (an : Option Addr) (cdv ct : Value) (us : List Value), us.length = ps.length -> bindArgs (E7 x qual (E9 st) (E4 st) (B0 st) .none kV doc pm an cdv ct) ⟨us, []⟩ = pure (ps.zip us)) : E8 K fd ps [] := by
 obtain ⟨oc, od, kV, doc, pm, an, cdv, ct, osl, rfl, lk, hcd⟩ := F.ex
 exact .all (h kV doc pm an cdv ct)
theorem F9 {x qual : Str} {st : Stmt} {f : Addr} {oc : Value} {od an : Option Addr} {osl : Array (Option Value)} {kV doc pm cdv ct : Value} (l : K.lookup f = some ⟨oc, od, .func (E7 x qual (E9 st) (E4 st) (B0 st) .none kV doc pm an cdv ct), osl⟩)
  (c : F7 K cdv qual = true) (k : B5 K (.ref f) = true) : Fun K x qual st f (E7 x qual (E9 st) (E4 st) (B0 st) .none kV doc pm an cdv ct) := ⟨⟨oc, od, kV, doc, pm, an, cdv, ct, osl, rfl, l, c⟩, k⟩
end
theorem A84 {n : Nat} (h : n <= 1000) : n < sizeLine := Nat.lt_of_le_of_lt h (by decide)
section
variable {X : Cx}
theorem pv (i : Nat) {x : Str} {pos : Pos} (hN : X.N[i]? = some x := by rfl) (hv : Vis X.env.scope x := by first | exact A8 rfl | exact Or.inr (A8 rfl) | exact Or.inr (Or.inr rfl)) (hd : (x == ("__debug__" : Str)) = false := by decide)
  (hcd : (x == ("__classdict__" : Str)) = false := by decide) : PE X (.Name x pos) (S1 i) := B81 hN hv hd hcd
end
theorem G9 {A B : Prop} (h : B) : if false = true then A else B := by
 rw [if_neg Q2]
 exact h
theorem L5 {A B : Prop} (h : A) : if true = true then A else B := by
 rw [if_pos rfl]
 exact h
theorem A5a {c A B : Prop} [Decidable c] (h1 : c -> A) (h2 : ¬ c -> B) : if c then A else B := by
 by_cases h : c
 ·rw [if_pos h]
  exact h1 h
 ·rw [if_neg h]
  exact h2 h
def Same (H H' : Hp) : Prop := ∀ b o, H b = some o -> H' b = some o
theorem Same.refl (H : Hp) : Same H H := fun _ _ h => h
end L2
set_option maxHeartbeats 4000000
namespace L2
open PySem PySem.Spec PyProof.Rows
def U8 (cells : List (Str × Addr)) : List (Str × NameKind) -> List (Str × Addr) -> List (Str × Addr)
 | [], cs => cs
 | (n, k) :: r, cs => U8 cells r (if k == .free then (n, (cells.lookup n).getD 0) :: cs else cs)
theorem B4o {scope : Scope} {env : Env} (h : ∀ y ∈ scope.names, y.2 = .free -> ∃ c, env.cells.lookup y.1 = some c) : closureFor scope env = pure (U8 env.cells scope.names []) := by
 have key : ∀ (l : List (Str × NameKind)) (cs : List (Str × Addr)), (∀ y ∈ l, y.2 = .free -> ∃ c, env.cells.lookup y.1 = some c) ->
   (forIn l cs fun (x : Str × NameKind) (r : List (Str × Addr)) => if (x.2 == NameKind.free) = true then do let a <- cellOf env x.1; pure (ForInStep.yield ((x.1, a) :: r)) else pure (ForInStep.yield r) : Sem (List (Str × Addr))) = pure (U8 env.cells l cs) := by
  intro l
  induction l with
  | nil => intro cs _; rfl
  | cons y r ih =>
   intro cs hl
   obtain ⟨n, k⟩ := y
   rw [List.forIn_cons]
   by_cases hk : k = .free
   ·subst hk
    obtain ⟨c, hc⟩ := hl (n, .free) C6 rfl
    have hc' : env.cells.lookup n = some c := hc
    have e1 : cellOf env n = pure c := by unfold cellOf; rw [hc']
    simp only [beq_self_eq_true, if_true, e1, pure_bind]
    rw [ih _ fun z hz => hl z (C3 _ hz)]
    show _ = pure (U8 env.cells r (if (NameKind.free == NameKind.free) = true then (n, (env.cells.lookup n).getD 0) :: cs else cs))
    rw [hc']
    rfl
   ·have hb : (k == NameKind.free) = false := by simpa using hk
    simp only [hb, A8m, if_false, pure_bind]
    rw [ih _ fun z hz => hl z (C3 _ hz)]
    show _ = pure (U8 env.cells r (if (k == NameKind.free) = true then (n, (env.cells.lookup n).getD 0) :: cs else cs))
    rw [hb]
    rfl
 have k2 := key scope.names [] h
 have e : closureFor scope env = ((forIn scope.names [] fun (x : Str × NameKind) (r : List (Str × Addr)) => if (x.2 == NameKind.free) = true then do let a <- cellOf env x.1; pure (ForInStep.yield ((x.1, a) :: r)) else pure (ForInStep.yield r) : Sem (List (Str × Addr))) >>= fun cs => pure cs) := rfl
 rw [e, k2]
 rfl
theorem B4p {cells : List (Str × Addr)} : ∀ {l : List (Str × NameKind)} {cs : List (Str × Addr)}, (∀ y ∈ l, y.2 = .free -> ∃ c, cells.lookup y.1 = some c) -> (∀ x c, cs.lookup x = some c -> cells.lookup x = some c) ->
  ∀ x c, (U8 cells l cs).lookup x = some c -> cells.lookup x = some c
 | [], _, _, h, x, c, e => h x c e
 | (n, k) :: r, cs, hl, h, x, c, e => by
  unfold U8 at e
  refine B4p (l := r) (fun z hz => hl z (C3 _ hz)) (fun y d q => ?_) x c e
  split at q
  ·rename_i hk
   obtain ⟨c0, hc0⟩ := hl (n, k) C6 (by simpa using hk)
   have hc0' : cells.lookup n = some c0 := hc0
   rw [hc0'] at q
   rw [A7c] at q
   split at q
   ·rename_i hb
    have := eq_of_beq hb
    subst this
    rw [hc0']
    exact q
   ·exact h y d q
  ·exact h y d q
theorem B4q {cells : List (Str × Addr)} {x : Str} : ∀ {l : List (Str × NameKind)} {cs : List (Str × Addr)}, (∃ c, cs.lookup x = some c) -> ∃ c, (U8 cells l cs).lookup x = some c
 | [], _, h => h
 | (n, k) :: r, cs, h => by
  unfold U8
  refine B4q (l := r) ?_
  split
  ·rw [A7c]
   split
   ·exact ⟨_, rfl⟩
   ·exact h
  ·exact h
theorem B1c {cells : List (Str × Addr)} {x : Str} : ∀ {l : List (Str × NameKind)} {cs : List (Str × Addr)}, (x, NameKind.free) ∈ l -> ∃ c, (U8 cells l cs).lookup x = some c
 | (n, k) :: r, cs, h => by
  unfold U8
  rcases O7.mp h with e | h
  ·injection e with e1 e2
   subst e1 e2
   refine B4q (l := r) ?_
   simp only [beq_self_eq_true, if_true]
   rw [A7c]
   simp
  ·exact B1c (l := r) h
structure CA where
 s : Shared
 H : Hp
 C : Addr
 fp : List Addr
abbrev U1 (X : Cx) (scope : Scope) (N' : List Str) (a : CA) : Cx where
 prog := X.prog
 w := X.w
 K := X.K
 mg := X.mg
 base := X.base
 A := X.A
 N := N'
 s₀ := a.s
 H₀ := a.H
 env := compEnvC scope (U8 X.env.cells scope.names []) a.C X.env
 outer := X.stack
 stack := X.stack
 ex := a.fp
 fn := fun _ => false
 calm := X.calm
 pn := []
 xe := fun _ _ => False
structure W5 (N N' : List Str) (osc scope : Scope) (j : Nat) (x : Str) : Prop where
 nd : N'.Nodup
 at_ : N'[j]? = some x
 sub : ∀ (i : Nat) y, i ≠ j -> N'[i]? = some y -> N[i]? = some y
 len : N'.length <= N.length + 1
 kind : scope.kind = .function
 cell : ∀ y ∈ scope.names, y.2 ≠ .cell
 names : ∀ y ∈ scope.names, y.2 = .local -> scope.names.lookup y.1 = some .local
 only : ∀ y ∈ scope.names, y.2 = .local -> y.1 = x \/ y.1 ∉ N'
 loc : scope.names.lookup x = some .local
 okind : osc.kind = .function
 free : ∀ y ∈ scope.names, y.2 = .free -> osc.names.lookup y.1 = some .cell
def B4r (N : List Str) (osc scope : Scope) (x : Str) : Bool :=
 decide (N ++ [x]).Nodup && decide (scope.kind = .function) && decide (osc.kind = .function) && (scope.names.lookup x == some .local) &&
  scope.names.all fun y => match y.2 with
   | .cell => false
   | .local => scope.names.lookup y.1 == some .local && (y.1 == x || !((N ++ [x]).contains y.1))
   | .free => osc.names.lookup y.1 == some .cell
   | _ => true
theorem W5.new {N : List Str} {osc scope : Scope} {x : Str} (h : B4r N osc scope x = true) : W5 N (N ++ [x]) osc scope N.length x := by
 unfold B4r at h
 simp only [j2, decide_eq_true_eq, List.all_eq_true, beq_iff_eq] at h
 obtain ⟨⟨⟨⟨h1, h2⟩, h3⟩, h4⟩, h5⟩ := h
 refine ⟨h1, by simp, fun i y ne e => ?_, by simp, h2, fun y hy e => ?_, fun y hy e => ?_, fun y hy e => ?_, h4, h3, fun y hy e => ?_⟩
 ·by_cases hi : i < N.length
  ·rw [A3r hi] at e; exact e
  ·rw [A7a (by lia)] at e
   cases q : i - N.length with
   | zero => exact absurd (by lia) ne
   | succ k => rw [q] at e; simp at e
 ·have := h5 y hy; rw [e] at this; cases this
 ·have := h5 y hy
  rw [e] at this
  simp only [j2, beq_iff_eq] at this
  exact this.1
 ·have := h5 y hy
  rw [e] at this
  simp only [j2, Bool.or_eq_true, beq_iff_eq, Bool.not_eq_true', List.contains_eq_mem, decide_eq_false_iff_not] at this
  exact this.2
 ·have := h5 y hy
  rw [e] at this
  simp only [beq_iff_eq] at this
  exact this
def S4 (n j : Nat) (σ : St) : St := ((σ ++ [none]).take n).set j none
theorem B4s {n j i : Nat} {σ : St} {v : V} (h : (S4 n j σ)[i]? = some (some v)) : i ≠ j /\ σ[i]? = some (some v) := by
 unfold S4 at h
 by_cases e : i = j
 ·subst e
  rw [Y4] at h
  simp only [if_true] at h
  split at h <;> cases h
 ·refine ⟨e, ?_⟩
  rw [Q1 (Ne.symm e)] at h
  have h2 : (σ ++ [none])[i]? = some (some v) := by
   by_cases hi : i < n
   ·rw [List.getElem?_take_of_lt hi] at h; exact h
   ·rw [j4 (by rw [A4q]; lia)] at h; cases h
  by_cases hi : i < σ.length
  ·rw [A3r hi] at h2; exact h2
  ·rw [A7a (by lia)] at h2
   cases q : i - σ.length with
   | zero => rw [q] at h2; cases h2
   | succ k => rw [q] at h2; cases h2
theorem C0u {n j : Nat} {σ : St} (h : n <= σ.length + 1) : (S4 n j σ).length = n := by
 unfold S4
 rw [N3, A4q, O3]
 simp; lia
theorem A7j {env : Env} : ∀ {names : List (Str × NameKind)} {x : Str}, ((names.map fun (n, k) => if (k == NameKind.free && env.scope.kind == .function && env.kindOf n == some .cell) then (n, NameKind.cell) else (n, k)).lookup x = some .cell \/
  (names.map fun (n, k) => if (k == NameKind.free && env.scope.kind == .function && env.kindOf n == some .cell) then (n, NameKind.cell) else (n, k)).lookup x = some .free) -> (∀ y ∈ names, y.2 ≠ .cell) -> (x, NameKind.free) ∈ names
 | [], _, h, _ => by rcases h with h | h <;> cases h
 | (n, k) :: r, x, h, hc => by
  rw [j1] at h
  dsimp only at h
  by_cases hk : (k == NameKind.free && env.scope.kind == .function && env.kindOf n == some .cell) = true
  ·rw [if_pos hk] at h
   simp only [A7c] at h
   cases hx : x == n with
   | true =>
    have e := eq_of_beq hx
    subst e
    have k' : k = .free := by
     rw [j2, j2] at hk
     simpa using hk.1.1
    subst k'
    exact C6
   | false =>
    simp only [hx] at h
    exact C3 _ (A7j h fun y hy => hc y (C3 _ hy))
  ·rw [if_neg hk] at h
   simp only [A7c] at h
   cases hx : x == n with
   | true =>
    have e := eq_of_beq hx
    subst e
    simp only [hx] at h
    rcases h with h | h
    ·exact absurd (Option.some.inj h) (hc (x, k) C6)
    ·have := Option.some.inj h
     subst this
     exact C6
   | false =>
    simp only [hx] at h
    exact C3 _ (A7j h fun y hy => hc y (C3 _ hy))
theorem A85 {env : Env} : ∀ {names : List (Str × NameKind)} {x : Str}, (names.map fun (n, k) => if (k == NameKind.free && env.scope.kind == .function && env.kindOf n == some .cell) then (n, NameKind.cell) else (n, k)).lookup x = some .local -> (x, NameKind.local) ∈ names
 | [], _, h => by cases h
 | (n, k) :: r, x, h => by
  rw [j1] at h
  dsimp only at h
  by_cases hk : (k == NameKind.free && env.scope.kind == .function && env.kindOf n == some .cell) = true
  ·rw [if_pos hk] at h
   simp only [A7c] at h
   cases hx : x == n with
   | true => simp only [hx] at h; cases h
   | false =>
    simp only [hx] at h
    exact C3 _ (A85 h)
  ·rw [if_neg hk] at h
   simp only [A7c] at h
   cases hx : x == n with
   | true =>
    have e := eq_of_beq hx
    subst e
    simp only [hx] at h
    have := Option.some.inj h
    subst this
    exact C6
   | false =>
    simp only [hx] at h
    exact C3 _ (A85 h)
section
variable {X : Cx} {pins : List (Addr × Obj)} {σ : St} {H : Hp} {s : Shared}
structure Own (X : Cx) (pins : List (Addr × Obj)) (H : Hp) (C : Addr) : Prop where
 no : H C = none
 ne : C ≠ X.env.locals
 ab : X.s₀.heap.objs.size <= C
 ce : ∀ x c, X.env.cells.lookup x = some c -> c ≠ C
 pi : ∀ p ∈ X.pn ++ pins, p.1 ≠ C
theorem Inv.own {C : Addr} {H' : Hp} (I : Inv X pins σ H s) (h : s.heap.objs.size <= C) (hn : H' C = none) : Own X pins H' C := by
 refine ⟨hn, B0j (S8 I.lt h), t8 I.sz h, fun x c e z => ?_, fun p hp z => ?_⟩
 ·obtain ⟨v, q⟩ := I.cell x c e
  exact absurd (S8 q.lt (by rw [z]; exact h)) (h9 _)
 ·exact absurd (S8 (K3 (I.pin p hp).1) (by rw [z]; exact h)) (h9 _)
theorem Inv.own_turn {C : Addr} {h' : Heap} (I : Inv X pins σ H s) (o : Own X pins H C) (hs : Heap.SameBut C s.heap h') : Inv X pins σ H { s with heap := h' } :=
 I.turned (t' := s.toks) (fun b ob hb e => (hs.2 b hb).trans e) o.no o.ne (.inr o.ab) o.ce o.pi
theorem Inv.track {D : Addr} {ys : List V} {its : List Value} {n : Nat} (I : Inv X pins σ H s) (o : Own X pins H D) (e : s.heap.get? D = some { cls := .type "list", data := .seq its.toArray n }) (r : D9 ys its) (hz : ys.length <= sizeLine) :
  Inv X pins σ (upd H D (.lst ys)) s := by
 have nD : ∀ b u, H b = some u -> b ≠ D := fun b u q z => by rw [z, o.no] at q; cases q
 have hok : HOk X.prog X.w (upd H D (.lst ys)) s.heap := fun b u q => by
  by_cases hb : b = D
  ·subst hb
   rw [J1] at q
   cases q
   exact ⟨hz, its, n, r, e⟩
  ·rw [B9 hb] at q
   exact (I.hok b u q).stay (fun _ _ _ z => z) (fun c z => by rw [B9 (nD c _ z)]; exact z) fun c xs z => by rw [B9 (nD c _ z)]; exact z
 have := I.step (H' := upd H D (.lst ys)) (h' := s.heap) (g' := s.gens) (t' := s.toks) (d' := s.drawn) (ch := [D]) (fun b hb => by
   have e' : b = D := by simpa using hb
   subst e'
   exact ⟨.inr o.ab, o.ne, o.ce, o.pi⟩) (fun b ob _ _ _ q _ => q) (fun b ob _ _ _ q _ => ⟨ob.slots, q⟩) (fun b ob hc q z => by rw [B9 (by simpa using hc)]; exact z) (fun b ob _ q => ⟨ob, q⟩)
  (fun b xs q => by rw [B9 (nD b _ q)]; exact q) (fun b ob u q => by rw [B9 (nD b _ q)]; exact q) (fun b ps q => ⟨#[], by rw [B9 (nD b _ q), q]; simp⟩) (fun m z => z) hok I.bare
 exact this
end
end L2
namespace L2
open PySem PySem.Spec PyProof.Rows
section
variable {prog : Program} {w : World} {A : Around} {R : Result -> Shared -> Prop} {s : Shared}
theorem C0v {elt target iter : Expr} {ifs : List Expr} {scope : Scope} {pos : Pos} {it acc : Value} {env : Env} (I : Nat -> Shared -> Prop)
  (turn : ∀ n s, I n s -> ∀ E : Value -> Shared -> Prop, wpAny (model prog w) A (pyNext it) (fun r s₁ => match r with
   | none => R (.ok .next) s₁
   | some v => wpAny (model prog w) A (letOwnedTupleGo target it v) (fun _ s₁' => wpAny (model prog w) A (assign target env v) (fun _ s₂ =>
     wpAny (model prog w) A (forIn ifs true fun c r => if r = true then do let ok <- isTrue c env (eval c env); pure (ForInStep.yield ok) else pure (ForInStep.yield r)) (fun ok s₃ =>
      if ok = true then wpAny (model prog w) A (eval elt env) (fun x s₄ =>
       wpAny (model prog w) A (call (.builtin "list.append") [acc, x]) (fun _ s₅ => ∃ m, m < n /\ I m s₅) E s₄) E s₃
      else ∃ m, m < n /\ I m s₃) E s₂) E s₁') E s₁) E s)
  (n : Nat) (h : I n s) :
  codeAny (model prog w) A (.compLoop (.ListComp elt [⟨target, iter, ifs, 0⟩] scope pos) 0 it acc env) R s := by
 refine codeAny_loop rfl I (fun n s hI => ?_) n h
 show wpAny _ A ((compTurn (.ListComp elt [⟨target, iter, ifs, 0⟩] scope pos) 0 it acc env).onRaise (fun x => do noteFrame x env; theTreesLotGoes x)) _ _ s
 refine wpAny_noted ?_
 rw [compTurn_list]
 refine wpAny_bind (wpAny_standAt (wpAny_bind (wpAny_mono (turn n s hI _) (fun r s₁ h₁ => ?_) fun _ _ h' => h')))
 cases r with
 | none => exact wpAny_pure h₁
 | some v =>
  refine wpAny_bind (wpAny_mono h₁ (fun _ s₁' h₁' => ?_) fun _ _ h' => h')
  refine wpAny_bind (wpAny_mono h₁' (fun _ s₂ h₂ => wpAny_bind (wpAny_mono h₂ (fun ok s₃ h₃ => ?_) fun _ _ h' => h')) fun _ _ h' => h')
  cases ok with
  | false => exact wpAny_pure ⟨rfl, h₃⟩
  | true =>
   exact wpAny_bind (wpAny_bind (wpAny_mono h₃ (fun x s₄ h₄ => wpAny_bind (wpAny_mono h₄ (fun _ s₅ h₅ => wpAny_pure (wpAny_pure ⟨rfl, h₅⟩)) fun _ _ h' => h')) fun _ _ h' => h'))
end
def PTs (X : Cx) (ifs : List Expr) (t : TT) : Prop :=
 ∀ (pins : List (Addr × Obj)) (s : Shared) (σ : St) (H : Hp) (Q : Bool -> Hp -> Prop), Inv X pins σ H s -> t σ H Q ->
  wpAny (model X.prog X.w) X.A (forIn ifs true fun c r => if r = true then do let ok <- isTrue c X.env (eval c X.env); pure (ForInStep.yield ok) else pure (ForInStep.yield r)) (TP X pins σ Q) X.xe s
def B1d : TT := fun _ H Q => Q true H
theorem B1e {X : Cx} : PTs X [] B1d := fun _ _ _ H _ I h => wpAny_tests_nil ⟨H, I, h⟩
theorem B1f {X : Cx} {c : Expr} {t : TT} (h : PT X c t) : PTs X [c] t := fun pins s σ H Q I q => wpAny_tests_one (h pins s σ H Q I q)
def A86 (σ : St) (n j : Nat) (tt : CA -> TT) (te : CA -> TE) (J : It) (H1 : Hp) (Q : List V -> Hp -> Prop) : Prop :=
 ∃ W : Nat -> Nat -> List V -> Hp -> Prop, (∃ m, W 0 m [] H1) /\ ∀ i m ys H, W i m ys H -> ys.length <= sizeLine /\
  ((J.stop i H /\ Q ys H) \/ (J.go i H /\ ∃ N : List V -> Hp -> Prop, (∀ ys' H', N ys' H' -> ∃ m', m' < m /\ W (i + 1) m' ys' H') /\
   ∀ x H', J.yld i H x H' -> ∀ a : CA, tt a ((S4 n j σ).set j (some x)) H' fun b H2 => if b = true then te a ((S4 n j σ).set j (some x)) H2 fun y H3 => N (ys ++ [y]) H3 else N ys H2))
def A7k (wi : TI) (n j : Nat) (tt : CA -> TT) (te : CA -> TE) : TE := fun σ H Q => wi σ H fun J H1 => A86 σ n j tt te J H1 fun ys H2 => ∀ p, H2 p = none -> Q (.ref p) (upd H2 p (.lst ys))
section
variable {X : Cx} {pins : List (Addr × Obj)} {σ : St} {H : Hp} {s : Shared}
theorem B4t {elt iter : Expr} {x : Str} {px pos : Pos} {ifs : List Expr} {scope : Scope} {N' : List Str} {j : Nat} {tt : CA -> TT} {te : CA -> TE} {it : Addr} {fp : List Addr} {tn : Nat -> Heap -> Prop} {J : It} {Q : List V -> Hp -> Prop}
  {RR : Value -> Addr -> Result -> Shared -> Prop} {E : Value -> Shared -> Prop}
  (S : W5 X.N N' X.env.scope scope j x) (hc : X.calm = true)
  (ht : ∀ a : CA, PTs (U1 X scope N' a) ifs (tt a)) (he : ∀ a : CA, PE (U1 X scope N' a) elt (te a))
  (I : Inv X pins σ H s) (T : A44 X.prog X.w X.K (.Name x px) J fp it tn) (st : tn 0 s.heap) (f2 : ∀ b ∈ fp, Y7 X pins H b) (h : A86 σ N'.length j tt te J H Q)
  (hRR : ∀ (D C : Addr) (ys : List V) (H' : Hp) (s' : Shared) (m : Str -> Option Value), s'.heap.Ns C m -> Own X pins (upd H' D (.lst ys)) C -> Inv X pins σ (upd H' D (.lst ys)) s' -> H' D = none -> Q ys H' -> RR (.ref D) C (.ok .next) s') :
  wpAny (model X.prog X.w) X.A (newList []) (fun acc s₃ => wpAny (model X.prog X.w) X.A (newFunctionEnv scope X.env.globals (U8 X.env.cells scope.names []) [] X.env.qual none .none (some X.env)) (fun cenv s₄ =>
   codeAny (model X.prog X.w) X.A (.compStart (.ListComp elt [⟨.Name x px, iter, ifs, 0⟩] scope pos) 0 (.ref it) acc { cenv with scope := relabel scope X.env }) (RR acc cenv.locals) s₄) E s₃) E s := by
 refine wpAny_newObj_type (wpAny_newFunctionEnv S.cell (by intro y hy; simp at hy) (fun h₁ hns₁ hsb₁ => ?_) S.kind)
 dsimp only at hns₁ hsb₁ ⊢
 generalize hH2 : s.heap.push { cls := .type "list", dict := none, data := .seq ([] : List Value).toArray } = H2 at hns₁ hsb₁ ⊢
 have hC : H2.objs.size = s.heap.objs.size + 1 := by rw [<- hH2, Heap.size_push]
 have hDC : s.heap.objs.size ≠ H2.objs.size := by rw [hC]; exact R7 (Nat.lt_succ_self _)
 have hCle : s.heap.objs.size <= H2.objs.size := by rw [hC]; exact B0m _
 have below : ∀ b, b < s.heap.objs.size -> b ≠ H2.objs.size /\ b ≠ s.heap.objs.size := fun b hb => ⟨by rw [hC]; exact R7 (Nat.lt_succ_of_lt hb), R7 hb⟩
 have old : ∀ b o, s.heap.get? b = some o -> h₁.get? b = some o := fun b o e => hsb₁.extBut b o (below b (K3 e)).1 (U6 _ (hH2 ▸ U6 _ e))
 have hacc : h₁.get? s.heap.objs.size = some { cls := .type "list", data := .seq ([] : List Value).toArray } := hsb₁.extBut _ _ hDC (U6 _ (hH2 ▸ i9 _ rfl))
 have fplt : ∀ b ∈ fp, b < s.heap.objs.size := fun b hb => let ⟨_, e, _⟩ := T.obj 0 _ st b hb; K3 e
 have hcells : ∀ y ∈ scope.names, y.2 = .free -> ∃ c, X.env.cells.lookup y.1 = some c := fun y hy e => I.ok.has y.1 (.inl (S.free y hy e))
 have sub : ∀ y c, (U8 X.env.cells scope.names []).lookup y = some c -> X.env.cells.lookup y = some c := B4p hcells (fun y c e => by cases e)
 let a : CA := ⟨s, H, H2.objs.size, fp⟩
 have ok : (U1 X scope N' a).Ok := by
  refine ⟨I.ok.mod, S.kind, I.ok.glob, I.ok.blt, hCle, fun y z c e1 e2 => I.ok.inj y z c (sub y c e1) (sub z c e2), fun y hy => ?_, fun y c z => ?_, I.ok.hd, I.ok.frames, .inl rfl, fun b hb => ⟨(below b (fplt b hb)).1, fun y c e => (f2 b hb).2.2.2.2.1 y c (sub y c e)⟩, I.bs,
   t8 I.ok.bsz I.sz, fun b o e hb => ?_, fun b hb z => ?_, I.stack, I.stkFree⟩
  ·exact B1c (A7j hy S.cell)
  ·cases z
  ·rcases (f2 b hb).2.2.2.1 with z | z
   ·exact I.ok.noex b o e z
   ·exact absurd (S8 (K3 (I.ok.bs b o e).1) z) (h9 _)
  ·rcases O7.mp (I.stkSub b z) with e | e
   ·exact (f2 b hb).2.1 e
   ·exact (f2 b hb).2.2.1 e
 have look : ∀ (h' : Heap) (m' : Str -> Option Value), (∀ y c, X.env.cells.lookup y = some c -> ∀ v, s.heap.IsCell c v -> h'.IsCell c v) -> ∀ (i : Nat) (y : Str) (v : V), N'[i]? = some y -> (S4 N'.length j σ)[i]? = some (some v) ->
   Vis (relabel scope X.env) y -> ∃ u, F5 v u /\ B3l (compEnvC scope (U8 X.env.cells scope.names []) H2.objs.size X.env) h' m' y u := by
  intro h' m' kc i y v e1 e2 e3
  obtain ⟨ne, e4⟩ := B4s e2
  have e5 := S.sub i y ne e1
  have hy : (y, NameKind.free) ∈ scope.names := by
   rcases e3 with e3 | e3 | e3
   ·rcases S.only _ (A85 e3) rfl with z | z
    ·exact absurd (A8q S.nd e1 (by rw [S.at_]; exact congrArg some z.symm)) ne
    ·exact absurd (R9 e1) z
   ·exact A7j (.inl e3) S.cell
   ·exact A7j (.inr e3) S.cell
  have kcell : X.env.scope.names.lookup y = some .cell := S.free _ hy rfl
  obtain ⟨m0, hn0, hl0⟩ := I.loc
  obtain ⟨u, r, l⟩ := hl0 i y v e5 e4 (.inr (.inl kcell))
  refine ⟨u, r, .inr ⟨?_, ?_⟩⟩
  ·rcases e3 with e3 | e3 | e3
   ·rcases S.only _ (A85 e3) rfl with z | z
    ·exact absurd (A8q S.nd e1 (by rw [S.at_]; exact congrArg some z.symm)) ne
    ·exact absurd (R9 e1) z
   ·exact .inl e3
   ·exact .inr e3
  ·rcases l with ⟨k, _⟩ | ⟨k, c, e, z⟩
   ·have k' : X.env.scope.names.lookup y = some .local := k
    rw [kcell] at k'; cases k'
   ·obtain ⟨c', e'⟩ := B1c (cells := X.env.cells) (cs := []) hy
    have e'' := sub y c' e'
    rw [e] at e''
    cases e''
    exact ⟨c, e', kc y c e _ z⟩
 have cellOld : ∀ y c, X.env.cells.lookup y = some c -> ∀ v, s.heap.IsCell c v -> h₁.IsCell c v := fun y c _ v zz232 => el2 zz232 fun o ho hd => ⟨o, old c o ho, hd⟩
 have fr0 : ∀ b, s.heap.objs.size <= b -> H b = none := fun b hb => I.hok.fresh hb
 have noPn : ∀ p, p ∉ (U1 X scope N' a).pn ++ ([] : List (Addr × Obj)) := fun p hp => by simp at hp
 have I0 : Inv (U1 X scope N' a) [] (S4 N'.length j σ) H { s with heap := h₁, toks := s.toks + ([] : List (Str × Value)).length } := by
  refine ⟨ok, rfl, I.bare, Un.kept old, ⟨_, hns₁, look h₁ _ cellOld⟩, fun y c e => ?_, fr0 _ hCle, fun y c e => I.freeC y c (sub y c e), fun p hp => absurd hp (noPn p), I.hok.kept old, C0u (by rw [I.len]; exact S.len)⟩
  obtain ⟨v, z⟩ := I.cell y c (sub y c e)
  exact ⟨v, cellOld y c (sub y c e) v z⟩
 obtain ⟨W, ⟨m0, w0⟩, turn⟩ := h
 have loop : ∀ s₃ : Shared, s₃ = { s with heap := h₁, toks := s.toks + ([] : List (Str × Value)).length } ->
   codeAny (model X.prog X.w) X.A (.compLoop (.ListComp elt [⟨.Name x px, iter, ifs, 0⟩] scope pos) 0 (.ref it) (.ref s.heap.objs.size) (compEnvC scope (U8 X.env.cells scope.names []) H2.objs.size X.env)) (RR (.ref s.heap.objs.size) H2.objs.size) s₃ := by
  rintro s₃ rfl
  refine C0v (fun k s' => ∃ (i : Nat) (ys : List V) (its : List Value) (n : Nat) (H' : Hp), Inv (U1 X scope N' a) [] (S4 N'.length j σ) H' s' /\ s'.heap.get? s.heap.objs.size = some { cls := .type "list", data := .seq its.toArray n } /\ D9 ys its /\
   H' s.heap.objs.size = none /\ tn i s'.heap /\ (∀ b ∈ fp, H' b = none) /\ W i k ys H') ?_ m0
   ⟨0, [], [], 0, H, I0, hacc, .nil, fr0 _ (J8 _), T.keep _ _ _ st fun b hb o e => old b o e, fun b hb => (f2 b hb).1, w0⟩
  rintro k s' ⟨i, ys, its, n, H', I', hD, rv, nD', st', fr', w'⟩ E'
  obtain ⟨hz, hw⟩ := turn i k ys H' w'
  have ownD : Own (U1 X scope N' a) [] H' s.heap.objs.size := ⟨nD', hDC, J8 _, fun y c e z => by
   obtain ⟨v, q⟩ := I.cell y c (sub y c e)
   exact absurd q.lt (by rw [z]; exact h9 _), fun p hp => absurd hp (noPn p)⟩
  have fpok : ∀ (pl : List (Addr × Obj)) (H'' : Hp), (∀ b ∈ fp, H'' b = none) -> (∀ p ∈ pl, p.1 ∉ fp) -> ∀ b ∈ fp, Y7 (U1 X scope N' a) pl H'' b := fun pl H'' hn hpl b hb =>
   ⟨hn b hb, (below b (fplt b hb)).1, fun z => by
    rcases O7.mp (I.stkSub b z) with e | e
    ·exact (f2 b hb).2.1 e
    ·exact (f2 b hb).2.2.1 e, .inl hb, fun y c e => (f2 b hb).2.2.2.2.1 y c (sub y c e), fun p hp z => by
    have hp' : p ∈ pl := by simpa using hp
    exact hpl p hp' (z ▸ hb)⟩
  have nDfp : s.heap.objs.size ∉ fp := fun z => absurd (fplt _ z) (h9 _)
  have pinD : ∀ p ∈ ([(s.heap.objs.size, { cls := .type "list", data := .seq its.toArray n })] : List (Addr × Obj)), s'.heap.get? p.1 = some p.2 /\ H' p.1 = none /\ p.1 ≠ (U1 X scope N' a).env.locals /\ p.1 ∉ (U1 X scope N' a).fs /\ ∀ v, p.2.data ≠ .cell v := fun p hp => by
   have e : p = (s.heap.objs.size, { cls := .type "list", data := .seq its.toArray n }) := by simpa using hp
   subst e
   refine ⟨hD, nD', hDC, fun z => ?_, fun v z => by cases z⟩
   rcases O7.mp (I.stkSub _ z) with e | e
   ·exact absurd I.lt (by rw [<- e]; exact h9 _)
   ·exact I.nofs (J8 _) e
  have Ip := I'.pins_of pinD
  have hpl : ∀ p ∈ ([(s.heap.objs.size, { cls := .type "list", data := .seq its.toArray n })] : List (Addr × Obj)), p.1 ∉ fp := fun p hp => by
   have e : p = (s.heap.objs.size, { cls := .type "list", data := .seq its.toArray n }) := by simpa using hp
   subst e
   exact nDfp
  rcases hw with ⟨stop, q⟩ | ⟨go, N, hN, step⟩
  ·refine thn (T.done (U1 X scope N' a) rfl rfl rfl hc i _ s' _ H' E' Ip (fpok _ H' fr' hpl) st' stop) fun r s4 zz233 => zz233.elim fun hr I4 => ?_
   subst hr
   have hD4 := (I4.pin (s.heap.objs.size, { cls := .type "list", data := .seq its.toArray n }) (by simp)).1
   have J4 : Inv X pins σ H' s4 := I.call' (ch := fp) I4.os I4.base I4.hok I4.bare fun b hb => ⟨(f2 b hb).2.2.2.1, (f2 b hb).2.1, (f2 b hb).2.2.2.2.1, (f2 b hb).2.2.2.2.2⟩
   obtain ⟨m4, hn4, _⟩ := I4.loc
   have hC4 : H' H2.objs.size = none := I4.free
   exact hRR _ _ ys H' s4 m4 hn4 (I.own hCle (by rw [B9 (Ne.symm hDC)]; exact hC4)) (J4.track (I.own (J8 _) nD') hD4 rv hz) nD' q
  ·refine thn (T.item (U1 X scope N' a) rfl rfl rfl hc i _ s' _ H' E' Ip (fpok _ H' fr' hpl) st' go) fun r s5 zz234 => el2 zz234 fun u hr h5 => ?_
   subst hr
   refine thn h5 fun _ s6 zz235 => zz235.elim fun xv zz236 => zz236.elim fun H6 zz237 => zz237.elim fun I6 zz238 => zz238.elim fun r6 zz239 => zz239.elim fun y6 zz240 => zz240.elim fun st6 fr6 => ?_
   have I6' := I6.pinned (fpok _ H6 fr6 hpl) (T.obj _ _ st6)
   refine wpAny_assign_Name (A3z I6' S.nd S.at_ (.inl (lookup_relabel_local S.loc)) r6 (fun s7 I7 => ?_) (.inr (lookup_relabel_local S.loc)))
   have wk : ∀ (i : Nat) v, (S4 N'.length j σ)[i]? = some (some v) -> ((S4 N'.length j σ).set j (some xv))[i]? = some (some v) := fun i v e => by
    rw [Q1 (Ne.symm (B4s e).1)]; exact e
   refine wpAny_mono (ht a _ s7 _ H6 _ I7 (step xv H6 y6 a)) (fun ok s8 zz241 => el2 zz241 fun H8 I8 q8 => ?_) fun _ _ z => z.elim
   have tnk : ∀ {H9 : Hp} {s9 : Shared} {σ9 : St}, Inv (U1 X scope N' a) ([(s.heap.objs.size, { cls := .type "list", data := .seq its.toArray n })] ++ A7h fp s6.heap) σ9 H9 s9 -> tn (i + 1) s9.heap /\ (∀ b ∈ fp, H9 b = none) /\ s9.heap.get? s.heap.objs.size = some { cls := .type "list", data := .seq its.toArray n } /\ H9 s.heap.objs.size = none := fun {H9 s9 σ9} I9 => by
    refine ⟨T.keep _ _ _ st6 fun b hb o e => (I9.pin (b, o) (Z9 _ (Z9 _ (A8v hb e)))).1, fun b hb => ?_, ?_⟩
    ·obtain ⟨o, e, d⟩ := T.obj _ _ st6 b hb
     exact (I9.pin (b, o) (Z9 _ (Z9 _ (A8v hb e)))).2.1
    ·have z := I9.pin (s.heap.objs.size, { cls := .type "list", data := .seq its.toArray n }) (Z9 _ (B0i _ (by simp)))
     exact ⟨z.1, z.2.1⟩
   cases ok with
   | false =>
    obtain ⟨m', hm, w8⟩ : ∃ m', m' < k /\ W (i + 1) m' ys H8 := hN _ _ (by simpa using q8)
    obtain ⟨t1, t2, t3, t4⟩ := tnk I8
    exact ⟨m', hm, i + 1, ys, its, n, H8, (I8.pins_of (pins' := []) fun p hp => nomatch hp).weak (by rw [N3]) wk, t3, rv, t4, t1, t2, w8⟩
   | true =>
    have q8' := q8
    simp only [if_true] at q8'
    refine wpAny_mono (he a _ s8 _ H8 _ I8 q8') (fun u9 s9 zz242 => el5 zz242 fun v9 H9 I9 r9 q9 => ?_) fun _ _ z => z.elim
    obtain ⟨m', hm, w9⟩ := hN _ _ q9
    obtain ⟨t1, t2, t3, t4⟩ := tnk I9
    have hl := rv.length
    refine append_at (hsz := by show its.toArray.size <= sizeLine; rw [P8, <- hl]; exact hz) t3 fun h' hs' hD' => ?_
    have J9 := ((I9.pins_of (pins' := []) fun p hp => nomatch hp).weak (σ' := S4 N'.length j σ) (by rw [N3]) wk).own_turn (C := s.heap.objs.size) ⟨t4, ownD.ne, ownD.ab, ownD.ce, ownD.pi⟩ hs'
    refine ⟨m', hm, i + 1, ys ++ [v9], its ++ [u9], n + 1, H9, J9, ?_, D9.append rv (.cons r9 .nil), t4, T.keep _ _ _ t1 fun b hb o e => (hs'.2 b fun z => nDfp (z ▸ hb)).trans e, t2, w9⟩
    rw [List.push_toArray] at hD'
    exact hD'
 exact codeAny_compStart_list (loop _ rfl) (T.self _ 0 _ _ _ (T.keep _ _ _ st fun b hb o e => old b o e) (loop _ rfl))
theorem A34 {elt iter : Expr} {x : Str} {px pos : Pos} {ifs : List Expr} {scope : Scope} {N' : List Str} {j : Nat} {wi : TI} {tt : CA -> TT} {te : CA -> TE} {osc : Scope} {N : List Str}
  (S : W5 N N' osc scope j x) (hc : X.calm = true) (hi : PI X (.Name x px) iter wi) (ht : ∀ a : CA, PTs (U1 X scope N' a) ifs (tt a)) (he : ∀ a : CA, PE (U1 X scope N' a) elt (te a))
  (ho : X.env.scope = osc := by rfl) (hN : X.N = N := by rfl) (hs : ∀ x, foldedSetIterable iter X.env x = pure x := by intro _; rfl) : PE X (.ListComp elt [⟨.Name x px, iter, ifs, 0⟩] scope pos) (A7k wi N'.length j tt te) := by
 subst ho hN
 intro pins s σ H Q I h
 rw [eval_ListComp]
 have hcells : ∀ y ∈ scope.names, y.2 = .free -> ∃ c, X.env.cells.lookup y.1 = some c := fun y hy e => I.ok.has y.1 (.inl (S.free y hy e))
 refine wpAny_comprehension_free (use := none) rfl hs (B4o hcells) S.kind S.names (wpAny_mono (hi pins s σ H _ I h) (fun xv s₁ h₁ => wpAny_mono h₁ (fun itv s₂ h₂ => ?_) fun _ _ e => e) fun _ _ e => e)
 obtain ⟨it, fp, tn, J, H2, rfl, I2, T, st2, f2, q2⟩ := h₂
 refine B4t (RR := fun acc C => compPost (model X.prog X.w) X.A X.xe none (EP X pins σ Q) acc C) S hc ht he I2 T st2 f2 q2 ?_
 intro D C ys H' s' m hn own I' hD q
 refine ⟨m, hn, fun h' hs' => ⟨.ref D, _, I'.own_turn own hs', rfl, q D hD⟩⟩
theorem B4u {elt iter : Expr} {x y : Str} {px pos py spos : Pos} {ifs : List Expr} {scope : Scope} {N' : List Str} {j i : Nat} {wi : TI} {tt : CA -> TT} {te : CA -> TE} {osc : Scope} {N : List Str}
  (nd : X.N.Nodup) (hi' : X.N[i]? = some y) (hy : Loc X.env.scope y)
  (S : W5 N N' osc scope j x) (hc : X.calm = true) (hi : PI X (.Name x px) iter wi) (ht : ∀ a : CA, PTs (U1 X scope N' a) ifs (tt a)) (he : ∀ a : CA, PE (U1 X scope N' a) elt (te a))
  (hsw : swapsWith (.ListComp elt [⟨.Name x px, iter, ifs, 0⟩] scope pos) (some (.Name y py)) spos.line X.env = pure true := by rfl)
  (hf : X.fn y = true \/ X.env.scope.names.lookup y = some .local := by first | exact .inl rfl | exact .inr rfl | assumption)
  (ho : X.env.scope = osc := by rfl) (hN : X.N = N := by rfl) (hs : ∀ x, foldedSetIterable iter X.env x = pure x := by intro _; rfl) :
  PS X (.Assign [.Name y py] (.ListComp elt [⟨.Name x px, iter, ifs, 0⟩] scope pos) spos) (fun D σ H => A7k wi N'.length j tt te σ H fun v H1 => D.nx (σ.set i (some v)) H1) := by
 subst ho hN
 intro pins s σ H D I h
 have hcells : ∀ y ∈ scope.names, y.2 = .free -> ∃ c, X.env.cells.lookup y.1 = some c := fun y hy e => I.ok.has y.1 (.inl (S.free y hy e))
 rw [exec_Assign_Name_used _ _ _ _ hsw]
 refine wpAny_bind (wpAny_standAt (wpAny_bind ?_))
 show wpAny _ X.A (do let _ <- comprehension (.ListComp elt [⟨.Name x px, iter, ifs, 0⟩] scope pos) scope X.env _ (newList []) false (eval iter X.env) (some (assign (.Name y py) X.env))) _ _ s
 refine wpAny_bind (wpAny_mono (wpAny_comprehension_free (use := some (assign (.Name y py) X.env)) (Q := fun _ s' => SP X pins D .next s') rfl hs (B4o hcells) S.kind S.names
  (wpAny_mono (hi pins s σ H _ I h) (fun xv s₁ h₁ => wpAny_mono h₁ (fun itv s₂ h₂ => ?_) fun _ _ e => e) fun _ _ e => e)) (fun _ s' hq => wpAny_pure (wpAny_pure hq)) fun _ _ e => e)
 obtain ⟨it, fp, tn, J, H2, rfl, I2, T, st2, f2, q2⟩ := h₂
 refine B4t (RR := fun acc C => compPost (model X.prog X.w) X.A X.xe (some (assign (.Name y py) X.env)) (fun _ s' => SP X pins D .next s') acc C) S hc ht he I2 T st2 f2 q2 ?_
 intro Da C ys H' s' m hn own I' hD q
 show wpAny _ X.A (assign (.Name y py) X.env (.ref Da)) _ _ _
 refine wpAny_assign_Name (B3m (v := V.ref Da) I' nd hi' hy rfl (fun s2 I2' hsb => ?_) hf)
 obtain ⟨b, hs2, hb⟩ := hsb
 have hCb : C ≠ b := by
  rcases hb with rfl | hb
  ·exact own.ne
  ·exact fun z => own.ce _ _ hb z.symm
 refine ⟨m, hn.sameBut hs2 hCb, fun h' hs' => ⟨_, _, I2'.own_turn own hs', q Da hD⟩⟩
end
end L2
namespace L2
open PySem PySem.Spec PyProof.Rows
theorem C0w {lo : Int} {n nn j : Nat} {σ : St} {tt : CA -> TT} {te : CA -> TE} {H1 : Hp} {Q : List V -> Hp -> Prop} (Pv : Nat -> List V -> Hp -> Prop) (hz : n < sizeLine) (h0 : Pv 0 [] H1) (hl : ∀ i ys H, i <= n -> Pv i ys H -> ys.length <= i)
  (hs : ∀ i ys H, i < n -> Pv i ys H -> ∀ a : CA, tt a ((S4 nn j σ).set j (some (.int (lo + i)))) H fun b H2 => if b = true then te a ((S4 nn j σ).set j (some (.int (lo + i)))) H2 fun y H3 => Pv (i + 1) (ys ++ [y]) H3 else Pv (i + 1) ys H2)
  (hd : ∀ ys H, Pv n ys H -> Q ys H) : A86 σ nn j tt te (Itr lo n) H1 Q := by
 refine ⟨fun i m ys H => m = n - i /\ i <= n /\ Pv i ys H, ⟨n, by simp, M9 _, h0⟩, ?_⟩
 rintro i m ys H ⟨rfl, hi, p⟩
 have hy := hl i ys H hi p
 refine ⟨by lia, ?_⟩
 by_cases hlt : i < n
 ·refine .inr ⟨hlt, Pv (i + 1), fun ys' H' p' => ⟨n - (i + 1), by lia, rfl, hlt, p'⟩, fun x H' y => ?_⟩
  obtain ⟨e, e2⟩ := y
  subst e e2
  exact hs i ys _ hlt p
 ·have e : i = n := by lia
  subst e
  exact .inl ⟨J8 _, hd ys H p⟩
theorem C0x {K : A3} {a0 : Addr} {xs : List V} {nn j : Nat} {σ : St} {tt : CA -> TT} {te : CA -> TE} {H1 : Hp} {Q : List V -> Hp -> Prop} (Pv : Nat -> List V -> Hp -> Prop) (hz : xs.length < sizeLine) (h0 : Pv 0 [] H1)
  (hl : ∀ i ys H, i <= xs.length -> Pv i ys H -> ys.length <= i /\ SqL K H a0 xs)
  (hs : ∀ i x ys H, xs[i]? = some x -> Pv i ys H -> ∀ a : CA, tt a ((S4 nn j σ).set j (some x)) H fun b H2 => if b = true then te a ((S4 nn j σ).set j (some x)) H2 fun y H3 => Pv (i + 1) (ys ++ [y]) H3 else Pv (i + 1) ys H2)
  (hd : ∀ ys H, Pv xs.length ys H -> Q ys H) : A86 σ nn j tt te (Itl K a0) H1 Q := by
 refine ⟨fun i m ys H => m = xs.length - i /\ i <= xs.length /\ Pv i ys H, ⟨xs.length, by simp, M9 _, h0⟩, ?_⟩
 rintro i m ys H ⟨rfl, hi, p⟩
 obtain ⟨hy, q⟩ := hl i ys H hi p
 refine ⟨by lia, ?_⟩
 by_cases hlt : i < xs.length
 ·refine .inr ⟨⟨xs, xs[i], q, by simp [hlt]⟩, Pv (i + 1), fun ys' H' p' => ⟨xs.length - (i + 1), by lia, rfl, hlt, p'⟩, fun x H' y => ?_⟩
  obtain ⟨e, y⟩ := y
  subst e
  exact hs i x ys _ (y xs q) p
 ·have e : i = xs.length := by lia
  subst e
  exact .inl ⟨⟨xs, q, J8 _⟩, hd ys H p⟩
end L2
namespace L2
open PySem PySem.Spec PyProof.Rows
section
variable {X : Cx}
def B1g (_ j : Int) : Prop := 0 < j /\ j < 100000000000000000000000000000000000000000000000000000000000000
theorem B1h : OpR X (binaryOp .FloorDiv) (rI B1g fun i j => .int (i / j)) := opI fun i j _ _ _ _ _ hc q => by
 have h1 : (0 : Int) < j := hc.1
 have h2 : j < 2 ^ 250 := Int.lt_trans hc.2 (by decide)
 refine floordiv_int (by lia) (by rw [Int.fdiv_eq_ediv_of_nonneg i (by lia)]; exact q) (.inl (PyProof.noPylong_of_log2 ?_))
 have h3 : j.natAbs < 2 ^ 250 := by
  have : ((j.natAbs : Nat) : Int) < ((2 ^ 250 : Nat) : Int) := by
   rw [Int.natAbs_of_nonneg (Int.le_of_lt h1)]
   exact h2
  exact Int.ofNat_lt.mp this
 have h4 : j.natAbs ≠ 0 := by lia
 exact Nat.lt_trans ((Nat.log2_lt h4).mpr h3) (by decide)
end
mutual
inductive X3 (K : A3) (H : Hp) : V -> PyData -> Prop
 | non : X3 K H .non .none
 | bl (b) : X3 K H (.bl b) (.bool b)
 | int (i) : X3 K H (.int i) (.int i)
 | str (x) : X3 K H (.str x) (.str x)
 | lst {a xs ds} : SqL K H a xs -> d3 K H xs ds -> X3 K H (.ref a) (.list ds)
 | tup {a xs ds} : SqT K H a xs -> d3 K H xs ds -> X3 K H (.ref a) (.tuple ds)
inductive d3 (K : A3) (H : Hp) : List V -> List PyData -> Prop
 | nil : d3 K H [] []
 | cons {x xs d ds} : X3 K H x d -> d3 K H xs ds -> d3 K H (x :: xs) (d :: ds)
end
section
variable {X : Cx} {pins : List (Addr × Obj)} {σ : St} {H : Hp} {s : Shared}
mutual
theorem X3.reads (I : Inv X pins σ H s) : ∀ {x : V} {d : PyData} {u : Value}, X3 X.K H x d -> F5 x u -> ∃ as, Reads s.heap u d as
 | _, _, _, .non, r => by cases r; exact ⟨_, .none⟩
 | _, _, _, .bl b, r => by cases r; exact ⟨_, .bool b⟩
 | _, _, _, .int i, r => by obtain ⟨t, rfl⟩ := r; exact ⟨_, .int i t⟩
 | _, _, _, .str x, r => by obtain ⟨t, rfl⟩ := r; exact ⟨_, .str x t⟩
 | _, _, _, .lst hq hs, r => by
  cases r
  obtain ⟨its, rv, pl, hz⟩ := I.list hq
  obtain ⟨as, ra⟩ := d3.reads I hs rv
  obtain ⟨o, e, c, n, d⟩ := pl.isList
  exact ⟨_, .list e c d (by simpa using ra)⟩
 | _, _, _, .tup hq hs, r => by
  cases r
  obtain ⟨its, rv, pl, hz⟩ := I.tuple hq
  obtain ⟨as, ra⟩ := d3.reads I hs rv
  obtain ⟨o, e, c, n, d⟩ := pl
  exact ⟨_, .tuple e c d (by simpa using ra)⟩
theorem d3.reads (I : Inv X pins σ H s) : ∀ {xs : List V} {ds : List PyData} {us : List Value}, d3 X.K H xs ds -> D9 xs us -> ∃ as, ReadsAll s.heap us ds as
 | _, _, _, .nil, .nil => ⟨_, .nil⟩
 | _, _, _, .cons h t, .cons r rs => by
  obtain ⟨as, ra⟩ := X3.reads I h r
  obtain ⟨bs, rb⟩ := d3.reads I t rs
  exact ⟨_, .cons ra rb⟩
end
end
section
variable {X : Cx}
def B1i (K : A3) (neg : Bool) : R2 := fun x y H Q => ∃ da db, X3 K H x da /\ X3 K H y db /\ da.canLay0 = true /\ db.canLay0 = true /\ min da.depth db.depth <= 64 /\ Q (.bl (if neg then !PyData.eqv da db else PyData.eqv da db)) H
theorem U9 (hu : X.A.units + 64 < cLine) : OpR X (compareOp .Eq) (B1i X.K false) := by
 intro pins s σ H x y v u Q I rx ry h
 obtain ⟨da, db, d1, d2, c1, c2, hd, q⟩ := h
 obtain ⟨as, ra⟩ := d1.reads I rx
 obtain ⟨bs, rb⟩ := d2.reads I ry
 exact SeqAt.compareEq_reads ra rb c1 c2 (by lia) ⟨.bl _, H, I, rfl, q⟩
theorem A13 (hu : X.A.units + 64 < cLine) : OpR X (compareOp .NotEq) (B1i X.K true) := by
 intro pins s σ H x y v u Q I rx ry h
 obtain ⟨da, db, d1, d2, c1, c2, hd, q⟩ := h
 obtain ⟨as, ra⟩ := d1.reads I rx
 obtain ⟨bs, rb⟩ := d2.reads I ry
 exact SeqAt.compareNe_reads ra rb c1 c2 (by lia) ⟨.bl _, H, I, rfl, q⟩
end
end L2
namespace L2
open PySem PySem.Spec PyProof.Rows
section
variable {X : Cx}
theorem B4v : B3x X (fun o i H Q => ∃ p xs j v, o = .ref p /\ i = .int j /\ 0 <= j /\ SqL X.K H p xs /\ atI xs j = some v /\ Q v H) := by
 intro pins s σ H o i ov iv Q I r1 r2 h
 obtain ⟨p, xs, j, v, rfl, rfl, h0, hq, he, q⟩ := h
 cases r1
 obtain ⟨t, rfl⟩ := r2
 obtain ⟨its, r, pl, hz⟩ := I.list hq
 obtain ⟨k, h1, h2, h3, h4, h5⟩ := A80 he
 obtain ⟨w, ew, rw'⟩ := r.get h2
 have hl := r.length
 have hn := A48
 have hj : j.toNat = k := by
  rw [seqIndex_of h0 h5] at h1
  exact Option.some.inj h1
 exact wpAny_getItem_list pl.isList h0 (by lia) (by rw [hj]; simpa using ew) ⟨v, H, I, rw', q⟩
theorem A7l {st : Stmt} {t : TS} (h : PS X st t) : PS X st (fun D σ H => ∃ M : St -> Hp -> Prop, t { D with nx := M } σ H /\ ∀ σ' H', M σ' H' -> D.nx σ' H') := by
 intro pins s σ H D I q
 obtain ⟨M, q1, q2⟩ := q
 refine thn (h pins s σ H _ I q1) fun f s' z => ?_
 cases f with
 | next => obtain ⟨σ', H', I', m⟩ := z; exact ⟨σ', H', I', q2 _ _ m⟩
 | brk => exact z
 | cont => exact z
 | ret v => exact z
end
end L2
namespace L2
open PySem PySem.Spec PyProof.Rows
theorem X4 : bootBuiltins "list" = some (.type "list") := by decide +kernel
theorem C0y : bootBuiltins "abs" = some (.builtin "abs") := by decide +kernel
theorem d4 : bootBuiltins "min" = some (.builtin "min") := by decide +kernel
theorem B1j : bootBuiltins "max" = some (.builtin "max") := by decide +kernel
theorem d5 : bootBuiltins "isinstance" = some (.builtin "isinstance") := by decide +kernel
theorem A7m : bootBuiltins "int" = some (.type "int") := by decide +kernel
theorem B4w : bootBuiltins "bool" = some (.type "bool") := by decide +kernel
theorem B1k : bootBuiltins "tuple" = some (.type "tuple") := by decide +kernel
theorem U2 : bootBuiltins "len" = some (.builtin "len") := by decide +kernel
theorem C0z : bootBuiltins "enumerate" = some (.type "enumerate") := by decide +kernel
end L2
namespace L2
open PySem PySem.Spec PyProof.Rows
section
variable {es : List Expr} {env : Env}
theorem G4 {c j p} : starEach (.Constant c j p :: es) env = (false, eval (.Constant c j p) env) :: starEach es env := by rfl
theorem A0 {c p} : starEach (.Name c p :: es) env = (false, eval (.Name c p) env) :: starEach es env := by rfl
theorem G6 {a o b p} : starEach (.BinOp a o b p :: es) env = (false, eval (.BinOp a o b p) env) :: starEach es env := by rfl
theorem B4x {o b p} : starEach (.UnaryOp o b p :: es) env = (false, eval (.UnaryOp o b p) env) :: starEach es env := by rfl
theorem A5b {a o b p} : starEach (.Compare a o b p :: es) env = (false, eval (.Compare a o b p) env) :: starEach es env := by rfl
theorem J5 {a o b p} : starEach (.Call a o b p :: es) env = (false, eval (.Call a o b p) env) :: starEach es env := by rfl
theorem B3 {a o p} : starEach (.Subscript a o p :: es) env = (false, eval (.Subscript a o p) env) :: starEach es env := by rfl
theorem B1l {a p} : starEach (.List a p :: es) env = (false, eval (.List a p) env) :: starEach es env := by rfl
theorem x8 {a k p} : starEach (.Tuple a k p :: es) env = (false, eval (.Tuple a k p) env) :: starEach es env := by rfl
theorem A4 {pos : Pos} : (backTo pos (starEach [] env)).any (·.1) = false := by rfl
theorem A2 {pos : Pos} {e : Expr} (hs : starEach (e :: es) env = (false, eval e env) :: starEach es env) (h : (backTo pos (starEach es env)).any (·.1) = false) : (backTo pos (starEach (e :: es) env)).any (·.1) = false := by
 rw [hs]
 exact h
end
end L2
namespace L2
open PySem PySem.Spec PyProof.Rows
section
variable {X : Cx} {pos : Pos}
def B4y (i j k : Nat) (ta : TA) : TS := fun D σ H => ta σ H fun vs H1 => ∃ v w z, vs = [v, w, z] /\ D.nx (((σ.set i (some v)).set j (some w)).set k (some z)) H1
theorem C00 {i0 i1 i2 : Nat} {x y z : Str} {a b c : Expr} {ta : TA} {px py pz pt : Pos} {kt k2 pt2} (hc : X.calm = true) (hN : X.N.Nodup) (hi : X.N[i0]? = some x) (hj : X.N[i1]? = some y) (hk : X.N[i2]? = some z) (hij : i0 ≠ i1) (hik : i0 ≠ i2) (hjk : i1 ≠ i2)
  (hx : X.env.scope.names.lookup x = some .local) (hy : X.env.scope.names.lookup y = some .local) (hz : X.env.scope.names.lookup z = some .local) (ha : PA X [a, b, c] ta)
  (hw : swappedStores [.Tuple [.Name x px, .Name y py, .Name z pz] kt pt] (.Tuple [a, b, c] k2 pt2) X.env = pure (some [x, y, z]))
  (hs : swapsWithSole [.Tuple [.Name x px, .Name y py, .Name z pz] kt pt] (.Tuple [a, b, c] k2 pt2) pos.line X.env = pure false := by rfl) :
  PS X (.Assign [.Tuple [.Name x px, .Name y py, .Name z pz] kt pt] (.Tuple [a, b, c] k2 pt2) pos) (B4y i0 i1 i2 ta) := by
 intro pins s σ H D I h
 rw [exec_Assign_arm]
 refine wpAny_bind (wpAny_standAt ?_)
 rw [hs]
 refine wpAny_bind (wpAny_pure ?_)
 rw [if_neg (by decide)]
 refine wpAny_bind (Tuple_ (thn (ha _ pins s σ H _ I h) fun us s1 zz243 => el5 zz243 fun vs H1 I1 r1 q1 => ?_))
 obtain ⟨v, w, t, e1, q1⟩ := q1
 subst e1
 obtain ⟨u1, u2, u3, rfl, rv, rw', rt⟩ : ∃ u1 u2 u3, us = [u1, u2, u3] /\ F5 v u1 /\ F5 w u2 /\ F5 t u3 := by
  cases r1 with
  | cons p q =>
   cases q with
   | cons p' q' =>
    cases q' with
    | cons p'' q'' =>
     cases q''
     exact ⟨_, _, _, rfl, p, p', p''⟩
 refine wpAny_newObj_type ?_ (by show 3 <= sizeLine; decide)
 have I2 : Inv X pins σ H1 { s1 with heap := s1.heap.push { cls := .type "tuple", data := .seq [u1, u2, u3].toArray } } := I1.kept (t' := s1.toks) fun b o e => U6 _ e
 rw [hw]
 refine wpAny_bind (wpAny_pure ?_)
 show wpAny (model X.prog X.w) X.A (do rule "assign.swapped-stores"; let items <- unpackItems (.ref s1.heap.objs.size) 3 none; assignInOrder [fun v => bindName X.env z v, fun v => bindName X.env y v, fun v => bindName X.env x v] items.reverse; pure Flow.next) _ _ _
 refine wpAny_bind (wpAny_rule (wpAny_bind (unpackItems_tuple (items := #[u1, u2, u3]) (I.ok.hd hc) (IsTup.new s1.heap _) fun h' hx' => ?_)))
 have I3 := I2.kept (h' := h') (t' := s1.toks) fun b o e => hx' b o (R7 (K3 e)) e
 show wpAny _ _ (assignInOrder [fun v => bindName X.env z v, fun v => bindName X.env y v, fun v => bindName X.env x v] [u3, u2, u1] >>= fun _ => pure Flow.next) _ _ _
 refine wpAny_bind (assignInOrder_cons (wpAny_bindName (A3z I3 hN hk (.inl hz) rt (fun s2 I4 => ?_) (.inr hz))))
 refine assignInOrder_cons (wpAny_bindName (A3z I4 hN hj (.inl hy) rw' (fun s3 I5 => ?_) (.inr hy)))
 refine assignInOrder_cons (wpAny_bindName (A3z I5 hN hi (.inl hx) rv (fun s4 I6 => assignInOrder_nil (wpAny_pure ?_)) (.inr hx)))
 have e : ((σ.set i2 (some t)).set i1 (some w)).set i0 (some v) = ((σ.set i0 (some v)).set i1 (some w)).set i2 (some t) := by
  rw [List.set_comm _ _ (Ne.symm hij), List.set_comm (l := σ) _ _ (Ne.symm hik), List.set_comm _ _ (Ne.symm hjk)]
 rw [e] at I6
 exact ⟨_, H1, I6, q1⟩
end
end L2
namespace L2
open PySem PySem.Spec PyProof.Rows
section
variable {X : Cx}
end
end L2
namespace L2
open PySem PySem.Spec PyProof.Rows
section
variable {X : Cx}
end
end L2
namespace L2
open PySem PySem.Spec PyProof.Rows
section
variable {X : Cx}
end
end L2
namespace L2
open PySem PySem.Spec PyProof.Rows
section
variable {X : Cx} {pins : List (Addr × Obj)} {σ : St} {H : Hp} {s : Shared} {h' : Heap}
theorem Inv.turned2 {t' : Nat} {e it : Addr} (I : Inv X pins σ H s) (k : ∀ b o, b ≠ e -> b ≠ it -> s.heap.get? b = some o -> h'.get? b = some o) (fe : Y7 X pins H e) (fi : Y7 X pins H it) : Inv X pins σ H { s with heap := h', toks := t' } := by
 obtain ⟨e0, e1, e2, e3, e4, e5⟩ := fe
 obtain ⟨f0, f1, f2, f3, f4, f5⟩ := fi
 have nit : ∀ b u, H b = some u -> b ≠ it := fun b u e z => by rw [z, f0] at e; cases e
 have nie : ∀ b u, H b = some u -> b ≠ e := fun b u q z => by rw [z, e0] at q; cases q
 have kc : ∀ b o, b ∉ [e, it] -> s.heap.get? b = some o -> h'.get? b = some o := fun b o hc q => k b o (fun z => hc (by simp [z])) (fun z => hc (by simp [z])) q
 refine I.step (g' := s.gens) (d' := s.drawn) (ch := [e, it]) (fun b hb => ?_) (fun b o _ _ hc e _ => kc b o hc e) (fun b o _ _ hc e _ => ⟨o.slots, kc b o hc e⟩) (fun _ _ _ _ n => n)
  (fun b o hc e => ⟨o, kc b o hc e⟩) (fun _ _ e => e) (fun _ _ _ e => e) (fun b ps e => ⟨#[], by rw [e]; simp⟩) (fun m hm => ?_) (fun b u q => ?_) I.bare
 ·rcases O7.mp hb with z | z
  ·subst z; exact ⟨e3, e1, e4, e5⟩
  ·have z' : b = it := by simpa using z
   subst z'
   exact ⟨f3, f1, f4, f5⟩
 ·obtain ⟨o, es, ep, ho, r⟩ := hm
  exact ⟨o, es, ep, k _ o (Ne.symm e1) (Ne.symm f1) ho, r⟩
 ·refine (I.hok b u q).stay (fun c v hc z => k c v ?_ ?_ z) (fun _ z => z) fun _ _ z => z
  ·rcases hc with z | z
   ·rw [z]; exact nie b u q
   ·exact nie c _ z
  ·rcases hc with z | z
   ·rw [z]; exact nit b u q
   ·exact nit c _ z
end
def Ite (K : A3) (a : Addr) : It :=
 ⟨fun i H => ∃ xs x, SqL K H a xs /\ xs[i]? = some x, fun i H x H' => ∃ p v, x = .ref p /\ H p = none /\ H' = upd H p (.tup [.int ((i : Nat) : Int), v]) /\ ∀ xs, SqL K H a xs -> xs[i]? = some v, fun i H => ∃ xs, SqL K H a xs /\ xs.length <= i⟩
theorem C01 {P : Program} {w : World} {K : A3} {elts : List Expr} {x1} {tpos : Pos} (a e it : Addr) (hne : e ≠ it) : A44 P w K (.Tuple elts x1 tpos) (Ite K a) [e, it] e (fun i h => (∃ old, IsEnum h e it ((i : Nat) : Int) old) /\ h.IsListIter it a i) where
 mem := by simp
 obj := fun i h st b hb => by
  obtain ⟨⟨old, h1⟩, h2⟩ := st
  rcases O7.mp hb with z | z
  ·subst z
   exact ⟨_, h1, fun v z => by
    have z' : Data.fields _ = Data.cell v := z
    cases z'⟩
  ·have z' : b = it := by simpa using z
   subst z'
   obtain ⟨o, e, c, d⟩ := h2
   exact ⟨o, e, fun v z => by rw [d] at z; cases z⟩
 keep := fun i h h' st k => by
  obtain ⟨⟨old, h1⟩, h2⟩ := st
  exact ⟨⟨old, k e (by simp) _ h1⟩, h2.at fun o q => k it (by simp) o q⟩
 item := by
  intro X hP hw hK hc i pins s σ H E I hf st hg
  subst hP hw hK
  obtain ⟨⟨old, st1⟩, st2⟩ := st
  obtain ⟨xs, x, hq, hx⟩ := hg
  obtain ⟨its, rv, p, hz⟩ := I.list hq
  obtain ⟨u, hu, ru⟩ := rv.get hx
  have fe := hf e (by simp)
  have fi := hf it (by simp)
  have le : e < s.heap.objs.size := K3 st1
  have li : it < s.heap.objs.size := by obtain ⟨_, q, _⟩ := id st2; exact K3 q
  refine wpAny_pyNext_enum_item st1 st2 p.isList (x := u) (by simpa using hu) hne fun h' ho hit' hT hsz hk => ?_
  refine ⟨_, rfl, wpAny_letOwnedTupleGo_enum ho fun h2 he2 hs2 => ?_⟩
  replace hs2 : Heap.SameBut e h' h2 := hs2
  have hn : H s.heap.objs.size = none := I.hok.fresh (J8 _)
  have I1 : Inv X pins σ (upd H s.heap.objs.size (.tup [.int ((i : Nat) : Int), x])) { s with heap := s.heap.push { cls := .type "tuple", data := .seq #[.int i s.toks, u] }, toks := s.toks } :=
   I.laid (fun b o q => U6 _ q) (J8 _) ⟨by show 2 <= sizeLine; decide, [.int i s.toks, u], .cons ⟨_, rfl⟩ (.cons ru .nil), ⟨_, i9 _ rfl, rfl, _, rfl⟩⟩
  have ge : ∀ b, b < s.heap.objs.size -> Y7 X pins H b -> Y7 X pins (upd H s.heap.objs.size (.tup [.int ((i : Nat) : Int), x])) b := fun b hb f => ⟨by rw [B9 (R7 hb)]; exact f.1, f.2⟩
  have I2 := I1.turned2 (h' := h2) (t' := s.toks + 1) (e := e) (it := it) (fun b o n1 n2 q => by
   rw [hs2.2 b n1]
   rcases Heap.get?_push_cases q with ⟨z, z2⟩ | q
   ·subst z z2
    exact hT
   ·exact hk b o n1 n2 q) (ge e le fe) (ge it li fi)
  refine ⟨.ref s.heap.objs.size, _, I2, rfl, ⟨_, x, rfl, hn, rfl, fun ys hy => by rw [I.list_inj hy hq]; exact hx⟩, ⟨⟨u, he2⟩, hit'.at fun o q => (hs2.2 it hne.symm).trans q⟩, fun b hb => ?_⟩
  rcases O7.mp hb with z | z
  ·subst z; exact (ge b le fe).1
  ·have z' : b = it := by simpa using z
   subst z'
   exact (ge b li fi).1
 done := by
  intro X hP hw hK hc i pins s σ H E I hf st hg
  subst hP hw hK
  obtain ⟨⟨old, st1⟩, st2⟩ := st
  obtain ⟨xs, hq, hx⟩ := hg
  obtain ⟨its, rv, p, hz⟩ := I.list hq
  have hl := rv.length
  exact wpAny_pyNext_enum_end (I.ok.hd hc) st1 st2 p.isList (by simp; lia) fun h' eb => ⟨rfl, I.turned2 (t' := s.toks) (fun b o n1 n2 q => eb b o n2 q) (hf e (by simp)) (hf it (by simp))⟩
 self := fun _ _ _ _ _ st h => by
  obtain ⟨⟨old, st1⟩, _⟩ := st
  exact wpAny_pyIter_enum st1 h
section
variable {X : Cx}
def B1m (K : A3) (ta : TA) : TI := fun σ H R => ta σ H fun vs H1 => ∃ a, vs = [.ref a] /\ (∃ xs, SqL K H1 a xs) /\ R (Ite K a) H1
theorem B4z {elts : List Expr} {x1} {tpos : Pos} {a : Expr} {ta : TA} {p pos : Pos} (hg : Gl X "enumerate") (hm : X.mg "enumerate" = none) (ha : PA X [a] ta) (hs : starEach [a] X.env = [(false, eval a X.env)] := by rfl) : PI X (.Tuple elts x1 tpos) (.Call (.Name "enumerate" p) [a] [] pos) (B1m X.K ta) := by
 intro pins s σ H R I h
 refine Call_ (A10 I hg hm C0z (PyProof.Rows.callWith_type1 (thn (ha pos pins s σ H _ I h) fun us s1 zz244 => el5 zz244 fun vs H1 I1 r1 q1 => ?_) hs rfl))
 obtain ⟨a', e, ⟨xs, hq⟩, q⟩ := q1
 subst e
 obtain ⟨u, rfl, rx⟩ := w6 r1
 cases rx
 obtain ⟨its, rv, pl, hz⟩ := I1.list hq
 refine call_enumerate_list pl.isList fun h' he hit hsz hk => ?_
 refine wpAny_pyIter_enum (s := { s1 with heap := h' }) he ?_
 have I2 : Inv X pins σ H1 { s1 with heap := h' } := I1.kept (t' := s1.toks) hk
 refine ⟨_, [s1.heap.objs.size + 1, s1.heap.objs.size], _, _, H1, rfl, I2, C01 a' _ _ (B0j (Nat.lt_succ_self _)), ⟨⟨.none, he⟩, hit⟩, fun b hb => ?_, q⟩
 rcases O7.mp hb with z | z
 ·subst z; exact I1.fpOk (B0m _) (I1.hok.fresh (B0m _))
 ·have z' : b = s1.heap.objs.size := by simpa using z
  subst z'
  exact I1.fpOk (J8 _) (I1.hok.fresh (J8 _))
theorem C02 {st : Stmt} : PS X st (fun _ _ _ => False) := fun _ _ _ _ _ _ h => h.elim
end
end L2
namespace L2
open PySem PySem.Spec PyProof.Rows
section
variable {X : Cx} {pins : List (Addr × Obj)} {σ : St} {H : Hp} {s : Shared}
end
end L2
namespace L2
open PySem PySem.Spec PyProof.Rows
section
variable {X : Cx} {pins : List (Addr × Obj)} {σ : St} {H : Hp} {s : Shared}
end
end L2
namespace L2
open PySem PySem.Spec PyProof.Rows
section
variable {X : Cx}
def B40 (K : A3) : V -> List V -> Hp -> VK -> Prop := fun x vs H Q => ∃ (l : Addr) (ns : List Int) (k : Int), x = .ref l /\ vs = [.int k] /\ SqL K H l (ns.map V.int) /\ k ∈ ns /\ ns.length <= 100000 /\ Q (.int (ns.idxOf k : Nat)) H
theorem B41 : MtM X "list.index" (B40 X.K) := by
 intro pins s σ H x vs v us Q I rx rv h
 obtain ⟨l, ns, k, rfl, rfl, hq, hk, hn, q⟩ := h
 cases rx
 obtain ⟨u, rfl, t, rfl⟩ := w6 rv
 obtain ⟨its, r, pl, hz⟩ := I.list hq
 have hi := C0a r
 obtain ⟨⟨cls, dd, data, sl⟩, ho, hc, n, hd⟩ := pl.isList
 simp only at hc hd
 subst hc hd
 have hlen := hi.length
 have hj : ns.idxOf k < ns.length := B0n.mpr hk
 refine call_meets B8o ⟨_, ho, rfl⟩ PySem.F.entry_list_index (PySem.F.args_list_index_2 _ _)
  (SeqAt.list_indexAt l its.toArray n dd sl (.int k t) (isInt k) (ns.idxOf k) (by simpa [hlen] using hj) (by lia) ?_ ?_) ⟨ho, fun y hy => (eq_isInt k t hi y (by simpa using hy)).at _ _, ⟨.int _, H, I.tok _, ⟨_, rfl⟩, q⟩⟩
 ·show isInt k its[ns.idxOf k] = true
  rw [isInt_at k hi _ (by lia) hj]
  simpa using B8p hj
 ·intro j hjs hlt
  show isInt k its[j] = false
  rw [isInt_at k hi j (by simpa using hjs) (by lia)]
  exact ne_of_lt_idxOf hlt _
end
end L2
namespace L2
open PySem PySem.Spec PyProof.Rows
inductive A5c (K : A3) (H : Hp) : V -> Value -> Prop where
 | o {x : V} {t : Value} : X2 K H x t -> A5c K H x t
 | f {a : Addr} {o : Obj} {kvs : List (List Key × V)} : H a = some (.frz o (.dT kvs)) -> A5c K H (.ref a) (.type "dict")
section
variable {X : Cx}
theorem d7 : w5 X (.builtin "isinstance") (fun xs H Q => ∃ x cv c t b, xs = [x, cv] /\ F5 cv c /\ A5c X.K H x t /\ A4p X.K t c = some b /\ Q (.bl b) H) := by
 intro pins s σ H xs us Q I r h
 obtain ⟨x, cv, c, t, b, rfl, rc, ty, k, q⟩ := h
 obtain ⟨u, w', rfl, r1, r2⟩ := B01 r
 have e : w' = c := by
  cases cv with
  | non => exact r2.trans rc.symm
  | bl y => exact r2.trans rc.symm
  | ref y => exact r2.trans rc.symm
  | ty y => exact r2.trans rc.symm
  | int y =>
   obtain ⟨t1, rfl⟩ := rc
   exfalso
   unfold A4p B3c at k
   cases ty with
   | o ty => cases ty <;> simp at k
   | f e => simp at k
  | str y =>
   obtain ⟨t1, rfl⟩ := rc
   exfalso
   unfold A4p B3c at k
   cases ty with
   | o ty => cases ty <;> simp at k
   | f e => simp at k
  | byt y =>
   obtain ⟨t1, rfl⟩ := rc
   exfalso
   unfold A4p B3c at k
   cases ty with
   | o ty => cases ty <;> simp at k
   | f e => simp at k
  | flt y =>
   obtain ⟨t1, rfl⟩ := rc
   exfalso
   unfold A4p B3c at k
   cases ty with
   | o ty => cases ty <;> simp at k
   | f e => simp at k
 subst e
 cases ty with
 | o ty => exact B93 I r1 ty k fun tk => ⟨.bl b, H, I.tok tk, rfl, q⟩
 | @f a o kvs ea =>
  cases (show u = Value.ref a from r1)
  obtain ⟨_, _, _, xs, _, o', es, ep, h1, h2, _⟩ := (show P0 X.prog X.w H s.heap a (.frz o (.dT kvs)) from I.hok a _ ea)
  exact j0 PySem.W.kitx_dict I.kIn ⟨o', h1, h2.1⟩ k (fun z => nomatch z) fun tk => ⟨.bl b, H, I.tok tk, rfl, q⟩
end
end L2
namespace L2
open PySem PySem.Spec PyProof.Rows
section
variable {X : Cx}
theorem D9.rev : ∀ {xs : List V} {us : List Value}, D9 xs us -> D9 xs.reverse us.reverse
 | _, _, .nil => .nil
 | _ :: xs, _ :: us, .cons r t => by
  rw [B3d, B3d]
  exact (D9.rev t).append (.cons r .nil)
end
end L2
namespace L2
open PySem PySem.Spec PyProof.Rows
theorem C03 : typeLookup (.type "list_reverseiterator") "__len__" = pure none := by
 rw [typeLookup_type, builtinLookup_eq_fast]; kernel_rfl
theorem C04 : typeLookup (.type "list_reverseiterator") "__length_hint__" = pure (some (.builtin "list_reverseiterator.__length_hint__")) := by
 rw [typeLookup_type, builtinLookup_eq_fast]; kernel_rfl
section
variable {prog : Program} {w : World} {A : Around} {E : Value -> Shared -> Prop} {s : Shared}
theorem C05 {r l : Addr} {i : Int} {Q : Bool -> Shared -> Prop} (hr : s.heap.IsRevIter r l i) (h : ∀ tk, Q false { s with toks := tk }) : wpAny (model prog w) A (Builtin.List.listLengthHint (.ref r)) Q E s := by
 have hT := hr.typeIs
 unfold Builtin.List.listLengthHint
 refine wpAny_bind (wpAny_specialOf hT C03 ?_)
 show wpAny _ A (specialOf (Value.ref r) (Str.ofString "__length_hint__") >>= _) _ _ _
 refine wpAny_bind (wpAny_specialOf hT C04 ?_)
 generalize hid : ("list_reverseiterator.__length_hint__" : String) = id0
 wp_delta
 rw [show splitId id0 = some ("list_reverseiterator", "__length_hint__") from by subst hid; decide +kernel]
 subst hid
 refine wpAny_bind (wpAny_isInstance (b := true) hT (by rw [isSubtype_type]; kernel_rfl) ?_)
 exact wpAny_pure (h s.toks)
theorem C06 {r l : Addr} {items : Array Value} {Q : Value -> Shared -> Prop} (hh : A.handled = none) (hr : s.heap.IsRevIter r l ((items.size : Int) - 1)) (hl : s.heap.IsList l items) (hne : l ≠ r) (hz : items.size <= sizeLine)
  (hQ : ∀ (h' : Heap) (tk : Nat) (acc : Array Value) (c : Nat), (∀ b o, b ≠ r -> s.heap.get? b = some o -> h'.get? b = some o) -> h'.get? s.heap.objs.size = some { cls := .type "list", dict := none, data := .seq acc c, slots := #[] } ->
   ItemsOf (fun i v => items[items.size - 1 - i]? = some v) acc items.size -> Q (.ref s.heap.objs.size) { s with heap := h', toks := tk }) : wpAny (model prog w) A (call (.type "list") [.ref r]) Q E s := by
 have rlt : r < s.heap.objs.size := by obtain ⟨_, q, _⟩ := hr; exact K3 q
 have llt : l < s.heap.objs.size := by obtain ⟨_, q, _⟩ := hl; exact K3 q
 refine callType_codes (Q₁ := fun obj t => obj = .ref s.heap.objs.size /\ t = { s with heap := s.heap.push { cls := .type "list", data := .seq #[] } }) F.called_list (F.typeCall_list_1 _) F.entry_list_init (code_list_new _ ⟨rfl, rfl⟩) fun obj t ht => ?_
 obtain ⟨rfl, rfl⟩ := ht
 have hS : (s.heap.push { cls := .type "list", data := .seq #[] }).get? s.heap.objs.size = some { cls := .type "list", data := .seq #[] } := i9 _ rfl
 refine ⟨⟨_, hS, rfl⟩, F.args_list_init_2 _ _, ?_⟩
 generalize hh2 : s.heap.push { cls := .type "list", data := .seq #[] } = h2 at hS
 have old : ∀ b o, s.heap.get? b = some o -> h2.get? b = some o := fun b o e => hh2 ▸ U6 _ e
 have hSr : s.heap.objs.size ≠ r := B0j rlt
 have hSl : s.heap.objs.size ≠ l := B0j llt
 show wpAny _ _ (do let was <- Builtin.List.listItems (.ref s.heap.objs.size); Builtin.List.listUpdate (.ref s.heap.objs.size) (fun _ => #[]); letGo was.toList.reverse; Builtin.List.listExtendWith (.ref s.heap.objs.size) (.ref r) .none) _ _ _
 refine wpAny_bind ?_
 unfold Builtin.List.listItems
 refine wpAny_bind (wpAny_seqItems hS rfl (wpAny_pure ?_))
 show wpAny _ _ (updateSeq s.heap.objs.size (fun _ => #[]) >>= fun _ => letGo (#[] : Array Value).toList.reverse >>= fun _ => Builtin.List.listExtendWith (.ref s.heap.objs.size) (.ref r) .none) _ _ _
 refine wpAny_bind (wpAny_updateSeq hS rfl ?_)
 have hS3 := Heap.get?_update_self (A4r (fun _ => (#[] : Array Value))) hS rfl
 refine wpAny_bind (wpAny_letGo ?_)
 have oth : ∀ b o, b ≠ s.heap.objs.size -> h2.get? b = some o -> (h2.update s.heap.objs.size (A4r (fun _ => (#[] : Array Value)))).get? b = some o := fun b o n e => (B8n _ _ (Ne.symm n)).trans e
 generalize h2.update s.heap.objs.size (A4r (fun _ => (#[] : Array Value))) = h3 at hS3 oth
 have old3 : ∀ b o, s.heap.get? b = some o -> h3.get? b = some o := fun b o e => oth b o (R7 (K3 e)) (old b o e)
 have hr3 : h3.IsRevIter r l ((items.size : Int) - 1) := hr.at fun o e => old3 r o e
 have hl3 : h3.IsList l items := hl.at fun o e => old3 l o e
 have W := (Walks.listRev (prog := prog) (w := w) (A := A.in1.in1) hh r l hne items).toS
 unfold Builtin.List.listExtendWith
 refine wpAny_bind (wpAny_typeOf (T := "list_reverseiterator") (s := { s with heap := h3 }) hr3.typeIs ?_)
 have z1 : Builtin.List.listSameRef (.ref s.heap.objs.size) (.ref r) = false := by simp [Builtin.List.listSameRef, hSr]
 rw [if_neg (by rw [z1]; decide)]
 refine wpAny_bind (wpAny_pyIter_revIter (s := { s with heap := h3 }) hr3 ?_)
 refine wpAny_bind (wpAny_holding (C05 (s := { s with heap := h3 }) hr3 fun tk => ?_))
 rw [if_neg (by decide)]
 have nf : s.heap.objs.size ∉ [r, l] := fun q => by
  rcases O7.mp q with e | e
  ·exact hSr e
  ·exact hSl (by simpa using e)
 have st0 : 0 <= items.size /\ h3.IsRevIter r l ((items.size : Int) - 1 - ((0 : Nat) : Int)) /\ h3.IsList l items := ⟨M9 _, by simpa using hr3, hl3⟩
 refine wpAny_pure ⟨plainId_quiet F.plain_extend_loop _, codeAny_extend_loopS W hz _ nf _ items.size 0 _ _ _ rfl (M9 _) st0 hS3 (ItemsOf.nil _) fun s' acc c hm hS' hacc => ?_⟩
 rw [Moved.eq_with hm]
 refine ⟨rfl, hQ s'.heap s'.toks acc c (fun b o n e => hm.heap b o (fun q => ?_) (old3 b o e)) hS' hacc⟩
 rcases O7.mp q with z | z
 ·exact R7 (K3 e) z
 ·exact n (by simpa using z)
end
theorem B42 : bootBuiltins "reversed" = some (.type "reversed") := by decide +kernel
theorem C07 {items : Array Value} {acc : Array Value} (h : ItemsOf (fun i v => items[items.size - 1 - i]? = some v) acc items.size) : acc.toList = items.toList.reverse := by
 have hl : acc.size = items.size := h.1
 apply List.ext_getElem?
 intro i
 by_cases c : i < items.size
 ·have ha : i < acc.size := by lia
  have e := h.2 i acc[i] (Array.getElem?_eq_getElem ha)
  rw [List.getElem?_reverse (by rw [A8l]; exact c), A8l, Array.getElem?_toList, Array.getElem?_toList, Array.getElem?_eq_getElem ha]
  exact e.symm
 ·rw [j4 (by rw [A8l]; lia), j4 (by rw [A1w, A8l]; lia)]
section
variable {X : Cx}
theorem C08 {e : Expr} {te : TA} {p1 p2 p3 p4 : Pos} (hg1 : Gl X "list") (hm1 : X.mg "list" = none) (hg2 : Gl X "reversed") (hm2 : X.mg "reversed" = none) (hc : X.calm = true) (he : PA X [e] te) (hs : starEach [e] X.env = [(false, eval e X.env)] := by rfl)
  (hs2 : starEach [.Call (.Name "reversed" p2) [e] [] p3] X.env = [(false, eval (.Call (.Name "reversed" p2) [e] [] p3) X.env)] := by rfl) : PE X (.Call (.Name "list" p1) [.Call (.Name "reversed" p2) [e] [] p3] [] p4)
   (fun σ H Q => te σ H fun vs H1 => ∃ a xs, vs = [.ref a] /\ SqL X.K H1 a xs /\ ∀ p, H1 p = none -> Q (.ref p) (upd H1 p (.lst xs.reverse))) := by
 intro pins s σ H Q I h
 refine Call_ (A10 I hg1 hm1 X4 (PyProof.Rows.callWith_type1 ?_ hs2 rfl))
 rw [hs2]
 show wpAny _ _ (spliced [(false, eval (.Call (.Name "reversed" p2) [e] [] p3) X.env)]) _ _ s
 refine Calls.spliced_cons ?_
 refine Call_ (A10 I hg2 hm2 B42 (PyProof.Rows.callWith_type1 (thn (he p3 pins s σ H _ I h) fun us s1 zz271 => el5 zz271 fun vs H1 I1 r1 q1 => ?_) hs rfl))
 obtain ⟨a, xs, rfl, hq, q⟩ := q1
 obtain ⟨u, rfl, rx⟩ := w6 r1
 cases rx
 obtain ⟨its, rv, pl, hz⟩ := I1.list hq
 have alt : a < s1.heap.objs.size := by obtain ⟨_, z, _⟩ := pl.isList; exact K3 z
 refine call_reversed_list pl.isList (Calls.spliced_nil ?_)
 have hr : (s1.heap.push (revObj a ((its.toArray.size : Int) - 1))).IsRevIter s1.heap.objs.size a ((its.toArray.size : Int) - 1) := ⟨_, i9 _ rfl, rfl, rfl⟩
 have hl2 : (s1.heap.push (revObj a ((its.toArray.size : Int) - 1))).IsList a its.toArray := pl.isList.push _
 have hsz : (s1.heap.push (revObj a ((its.toArray.size : Int) - 1))).objs.size = s1.heap.objs.size + 1 := Heap.size_push ..
 refine C06 (s := { s1 with heap := s1.heap.push (revObj a ((its.toArray.size : Int) - 1)) }) (I1.ok.hd hc) hr hl2 (R7 alt) (by rw [P8, <- rv.length]; exact hz) fun h' tk acc c hk hS hacc => ?_
 have eq := C07 hacc
 refine ⟨.ref _, _, I1.laid (t' := tk) (o := .lst xs.reverse) (fun b o z => hk b o (R7 (K3 z)) (U6 _ z)) (by show s1.heap.objs.size <= _; rw [hsz]; exact B0m _) (show P0 X.prog X.w _ h' _ (.lst xs.reverse) from ⟨by rw [A1w]; exact hz, acc.toList, c, ?_, by simpa using hS⟩), rfl, q _ (I1.hok.fresh (by show s1.heap.objs.size <= _; rw [hsz]; exact B0m _))⟩
 rw [eq]
 exact D9.rev rv
def Itv (K : A3) (a : Addr) (n : Nat) : It :=
 ⟨fun i H => ∃ xs x, SqL K H a xs /\ xs.length = n /\ xs.reverse[i]? = some x, fun i H x H' => H' = H /\ ∀ xs, SqL K H a xs -> xs.reverse[i]? = some x, fun i _ => n <= i⟩
theorem C09 {P : Program} {w : World} {K : A3} {tg : Expr} (a it : Addr) (n : Nat) : A44 P w K tg (Itv K a n) [it] it (fun i h => i <= n /\ h.IsRevIter it a ((n : Int) - 1 - ((i : Nat) : Int))) where
 mem := by simp
 obj := fun i h st b hb => by
  have e : b = it := by simpa using hb
  subst e
  obtain ⟨_, o, e, c, d⟩ := st
  exact ⟨o, e, fun v z => by rw [d] at z; cases z⟩
 keep := fun i h h' st k => ⟨st.1, st.2.at fun o e => k it (by simp) o e⟩
 item := by
  intro X hP hw hK hc i pins s σ H E I hf st hg
  subst hP hw hK
  obtain ⟨xs, x, hq, hn, hx⟩ := hg
  obtain ⟨its, rv, p, hz⟩ := I.list hq
  have hil : i < n := by
   have := (i8.mp hx).1
   rw [A1w, hn] at this
   exact this
  have hx' : xs[n - 1 - i]? = some x := by rw [List.getElem?_reverse (by lia), hn] at hx; exact hx
  obtain ⟨u, hu, ru⟩ := rv.get hx'
  obtain ⟨f0, f1, f2, f3, f4, f5⟩ := hf it (by simp)
  have ei : (n : Int) - 1 - ((i : Nat) : Int) = ((n - 1 - i : Nat) : Int) := by lia
  refine wpAny_pyNext_rev_item (i := n - 1 - i) (by rw [<- ei]; exact st.2) p.isList (x := u) (by simpa using hu) fun h' st' sb => ?_
  have I1 : Inv X pins σ H { s with heap := h' } := I.turned (t' := s.toks) (fun b o hb e => (sb.2 b hb).trans e) f0 f1 f3 f4 f5
  obtain ⟨o, e, c, d⟩ := id st'
  have ej : ((n - 1 - i : Nat) : Int) - 1 = (n : Int) - 1 - ((i + 1 : Nat) : Int) := by lia
  exact ⟨u, rfl, B0x (s := { s with heap := h' }) e c d (by decide) ⟨x, H, I1, ru, ⟨rfl, fun ys hy => by rw [I.list_inj hy hq]; exact hx⟩, ⟨hil, by rw [<- ej]; exact st'⟩, fun b hb => (hf b hb).1⟩⟩
 done := by
  intro X hP hw hK hc i pins s σ H E I hf st hg
  subst hP hw hK
  obtain ⟨f0, f1, f2, f3, f4, f5⟩ := hf it (by simp)
  have e : i = n := Nat.le_antisymm st.1 hg
  have em : (n : Int) - 1 - ((i : Nat) : Int) = -1 := by lia
  exact wpAny_pyNext_rev_end (I.ok.hd hc) (by rw [<- em]; exact st.2) fun h' eb => ⟨rfl, I.turned (t' := s.toks) (fun b o hb e => eb b o hb e) f0 f1 f3 f4 f5⟩
 self := fun _ _ _ _ _ st h => wpAny_pyIter_revIter st.2 h
def B43 (K : A3) (ta : TA) : TI := fun σ H R => ta σ H fun vs H1 => ∃ a xs, vs = [.ref a] /\ SqL K H1 a xs /\ R (Itv K a xs.length) H1
theorem C1a {tg a : Expr} {ta : TA} {p pos : Pos} (hg : Gl X "reversed") (hm : X.mg "reversed" = none) (ha : PA X [a] ta) (hs : starEach [a] X.env = [(false, eval a X.env)] := by rfl) : PI X tg (.Call (.Name "reversed" p) [a] [] pos) (B43 X.K ta) := by
 intro pins s σ H R I h
 refine Call_ (A10 I hg hm B42 (PyProof.Rows.callWith_type1 (thn (ha pos pins s σ H _ I h) fun us s1 zz272 => el5 zz272 fun vs H1 I1 r1 q1 => ?_) hs rfl))
 obtain ⟨a', xs, rfl, hq, q⟩ := q1
 obtain ⟨u, rfl, rx⟩ := w6 r1
 cases rx
 obtain ⟨its, rv, pl, hz⟩ := I1.list hq
 have en : ((its.toArray.size : Nat) : Int) - 1 = ((xs.length : Nat) : Int) - 1 := by rw [P8, <- rv.length]
 refine call_reversed_list pl.isList ?_
 rw [en]
 have hr : (s1.heap.push (revObj a' ((xs.length : Int) - 1))).IsRevIter s1.heap.objs.size a' ((xs.length : Int) - 1) := ⟨_, i9 _ rfl, rfl, rfl⟩
 refine wpAny_pyIter_revIter (s := { s1 with heap := s1.heap.push (revObj a' ((xs.length : Int) - 1)) }) hr ?_
 refine ⟨_, [s1.heap.objs.size], _, _, H1, rfl, I1.kept (t' := s1.toks) fun b o e => U6 _ e, C09 a' _ xs.length, ⟨M9 _, by simpa using hr⟩, fun b hb => ?_, q⟩
 have e : b = s1.heap.objs.size := by simpa using hb
 subst e
 exact I1.fpOk (J8 _) (I1.hok.fresh (J8 _))
end
end L2
namespace L2
open PySem PySem.Spec PyProof.Rows
section
variable {X : Cx} {pins : List (Addr × Obj)} {σ : St} {H : Hp} {s : Shared}
end
end L2
namespace L2
open PySem PySem.Spec PyProof.Rows
section
variable {prog : Program} {w : World} {A : Around} {E : Value -> Shared -> Prop} {s : Shared}
end
section
variable {prog : Program} {w : World} {A : Around} {R : Result -> Shared -> Prop} {I : Addr} {fp wr : List Addr} {n : Nat} {P : Nat -> Value -> Prop} {St : Nat -> Heap -> Prop}
end
section
variable {X : Cx}
end
end L2
namespace L2
open PySem PySem.Spec PyProof.Rows
section
variable {X : Cx} {pins : List (Addr × Obj)} {σ : St} {H : Hp} {s : Shared} {h' : Heap}
end
section
variable {X : Cx}
end
end L2
namespace L2
open PySem PySem.Spec PyProof.Rows
section
variable {X : Cx} {tg : Expr}
end
end L2
namespace L2
open PySem PySem.Spec PyProof.Rows
section
variable {prog : Program} {w : World} {A : Around} {R : Result -> Shared -> Prop} {I : Addr} {fp wr : List Addr} {n : Nat} {P : Nat -> Value -> Prop} {St : Nat -> Heap -> Prop}
end
section
variable {X : Cx}
end
end L2
namespace L2
open PySem PySem.Spec PyProof.Rows
section
variable {prog : Program} {w : World} {A : Around} {R : Result -> Shared -> Prop} {I : Addr} {fp wr : List Addr} {n : Nat} {P : Nat -> Value -> Prop} {St : Nat -> Heap -> Prop}
end
section
variable {X : Cx}
end
end L2
namespace My
open PySem L2
def Hd (H : Hp) (a l : Addr) : Prop := ∃ (ns : List Int) (p b c u v : Int), H l = some (.lst (ns.map V.int)) /\ 0 <= p /\ H a = some (.lst [.ref l, .int p, .int b, .int c, .int u, .int v])
def Kp (a : Addr) (H H' : Hp) : Prop := ∀ b o, H b = some o -> b ≠ a -> H' b = some o
theorem Kp.refl (a : Addr) (H : Hp) : Kp a H H := fun _ _ e _ => e
theorem Kp.trans {a : Addr} {H H1 H2 : Hp} (x : Kp a H H1) (y : Kp a H1 H2) : Kp a H H2 := fun b o e n => y b o (x b o e n) n
theorem A87 {H : Hp} {a l : Addr} {ns : List Int} {xs : List V} (hl : H l = some (.lst (ns.map V.int))) (ha : H a = some (.lst (.ref l :: xs))) : l ≠ a := B8w hl ha (by
 intro e
 injection e with e
 cases ns with
 | nil => cases e
 | cons n r => injection e with e1; cases e1)
theorem Hd.at1 {H : Hp} {a l : Addr} (h : Hd H a l) : ∃ o, H a = some o := let ⟨_, _, _, _, _, _, _, _, e⟩ := h; ⟨_, e⟩
theorem Hd.at2 {H : Hp} {a l : Addr} (h : Hd H a l) : ∃ o, H l = some o := let ⟨_, _, _, _, _, _, e, _⟩ := h; ⟨_, e⟩
theorem Hd.ne {H : Hp} {a l p : Addr} (h : Hd H a l) (hp : H p = none) : p ≠ a /\ p ≠ l := by
 obtain ⟨o, e⟩ := h.at1
 obtain ⟨o', e'⟩ := h.at2
 exact ⟨(M3 e hp).symm, (M3 e' hp).symm⟩
theorem Hd.wr {H : Hp} {a l p : Addr} {o : HO} (h : Hd H a l) (n1 : p ≠ a) (n2 : p ≠ l) : Hd (upd H p o) a l := by
 obtain ⟨ns, q, b, c, u, v, h1, h2, h3⟩ := h
 exact ⟨ns, q, b, c, u, v, by rw [B9 n2.symm]; exact h1, h2, by rw [B9 n1.symm]; exact h3⟩
theorem Hd.lay {H : Hp} {a l p : Addr} {o : HO} (h : Hd H a l) (hp : H p = none) : Hd (upd H p o) a l := h.wr (h.ne hp).1 (h.ne hp).2
theorem Hd.same {H H' : Hp} {a l : Addr} (h : Hd H a l) (s : Same H H') : Hd H' a l := by
 obtain ⟨ns, q, b, c, u, v, h1, h2, h3⟩ := h
 exact ⟨ns, q, b, c, u, v, s _ _ h1, h2, s _ _ h3⟩
theorem _root_.L2.Same.lay {p : Addr} {H H1 : Hp} {o : HO} (x : Same H H1) (h : H1 p = none) : Same H (upd H1 p o) := fun b u e => by
 have e1 := x b u e
 rw [B9 (M3 e1 h)]; exact e1
theorem C1b {ns : List Int} {p : Int} (h0 : 0 <= p) (h1 : p < (ns.length : Int)) : ∃ z, atI (ns.map V.int) p = some (.int z) := by
 obtain ⟨n, rfl⟩ := Int.eq_ofNat_of_zero_le h0
 have hp : n < ns.length := by lia
 exact ⟨ns[n], Y8 (by rw [R8, N0 hp]; rfl)⟩
def B44 (K : A3) : Sp := fun vs H Q _ => ∃ (a : Addr) (ns : List Int), vs = [.ref a] /\ SqL K H a (ns.map V.int) /\ ∀ (p l : Addr) (H' : Hp), H p = none -> H l = none -> Hd H' p l -> Same H H' -> Q (.ref p) H'
def B1n : Sp := fun vs H Q _ => ∃ a l, vs = [.ref a] /\ Hd H a l /\ ∀ (r : Int) (H' : Hp), Hd H' a l -> Kp a H H' -> Q (.int r) H'
def B45 : Sp := fun vs H Q _ => ∃ a l, vs = [.ref a] /\ Hd H a l /\ ∀ (H' : Hp), Hd H' a l -> Kp a H H' -> Q .non H'
def C1c : Sp := fun vs H Q _ => ∃ a l m, vs = [.ref a, .int m] /\ Hd H a l /\ 0 < m /\ m < 100000000000000000000000000000000000000000000000000000000000000 /\ ∀ (r : Int) (H' : Hp), 0 <= r -> r < m -> Hd H' a l -> Kp a H H' -> Q (.int r) H'
end My
namespace My
open PySem L2
def dEn (ks : List (List Int)) : List (List Key × V) := ks.map fun k => (k.map Sum.inl, V.bl true)
def dEm (ks : List (List Int × Int)) : List (List Key × V) := ks.map fun p => (p.1.map Sum.inl, V.int p.2)
def C1d (k : List Int) : PyData := .tuple (k.map PyData.int)
inductive DiU : HO -> List (PyData × PyData) -> Prop
 | t : DiU (.dT []) []
 | k (i j : Int) : DiU (.dK [(Sum.inl i, V.int j)]) [(.int i, .int j)]
 | f (o : Obj) (ks : List (List Int)) : DiU (.frz o (.dT (dEn ks))) ((.none, .none) :: ks.map fun k => (C1d k, .bool true))
mutual
inductive ThV (F : Addr -> Prop) (H : Hp) : V -> PyData -> Prop
 | non : ThV F H .non .none
 | bl (b) : ThV F H (.bl b) (.bool b)
 | int (i) : ThV F H (.int i) (.int i)
 | str (x) : ThV F H (.str x) (.str x)
 | lst {a xs ds} : F a -> H a = some (.lst xs) -> B4 F H xs ds -> ThV F H (.ref a) (.list ds)
 | tup {a xs ds} : F a -> H a = some (.tup xs) -> B4 F H xs ds -> ThV F H (.ref a) (.tuple ds)
 | dic {a u kvs} : F a -> H a = some u -> DiU u kvs -> ThV F H (.ref a) (.dict kvs)
inductive B4 (F : Addr -> Prop) (H : Hp) : List V -> List PyData -> Prop
 | nil : B4 F H [] []
 | cons {x xs d ds} : ThV F H x d -> B4 F H xs ds -> B4 F H (x :: xs) (d :: ds)
end
mutual
theorem ThV.mv {F G : Addr -> Prop} {H H' : Hp} (f : ∀ b o, F b -> H b = some o -> G b /\ H' b = some o) : ∀ {v : V} {d : PyData}, ThV F H v d -> ThV G H' v d
 | _, _, .non => .non
 | _, _, .bl b => .bl b
 | _, _, .int i => .int i
 | _, _, .str x => .str x
 | _, _, .lst n e t => .lst (f _ _ n e).1 (f _ _ n e).2 (B4.mv f t)
 | _, _, .tup n e t => .tup (f _ _ n e).1 (f _ _ n e).2 (B4.mv f t)
 | _, _, .dic n e t => .dic (f _ _ n e).1 (f _ _ n e).2 t
theorem B4.mv {F G : Addr -> Prop} {H H' : Hp} (f : ∀ b o, F b -> H b = some o -> G b /\ H' b = some o) : ∀ {vs : List V} {ds : List PyData}, B4 F H vs ds -> B4 G H' vs ds
 | _, _, .nil => .nil
 | _, _, .cons x t => .cons (ThV.mv f x) (B4.mv f t)
end
theorem B4.same {F : Addr -> Prop} {H H' : Hp} {v : List V} {d : List PyData} (t : B4 F H v d) (s : Same H H') : B4 F H' v d := t.mv fun b o z e => ⟨z, s b o e⟩
theorem B4.append {F : Addr -> Prop} {H : Hp} {xs : List V} {ds : List PyData} {ys : List V} {es : List PyData} (t : B4 F H xs ds) (y : B4 F H ys es) : B4 F H (xs ++ ys) (ds ++ es) := by
 induction xs generalizing ds with
 | nil => cases t; exact y
 | cons v xs ih =>
  cases t with
  | cons x t => exact .cons x (ih t)
theorem B4.len {F : Addr -> Prop} {H : Hp} {xs : List V} {ds : List PyData} (t : B4 F H xs ds) : xs.length = ds.length := by
 induction xs generalizing ds with
 | nil => cases t; rfl
 | cons v xs ih =>
  cases t with
  | cons x t => rw [M2, M2, ih t]
theorem B4.get {F : Addr -> Prop} {H : Hp} : ∀ {xs : List V} {ds : List PyData} {i : Nat} {v : V}, B4 F H xs ds -> xs[i]? = some v -> ∃ d, ds[i]? = some d /\ ThV F H v d
 | _, _, _, _, .nil, e => by simp at e
 | _, _, 0, v, .cons (d := d) x _, e => by
  have e' := Option.some.inj e
  subst e'
  exact ⟨d, rfl, x⟩
 | _, _, i + 1, v, .cons _ t, e => B4.get (i := i) t e
theorem B4.at {F : Addr -> Prop} {H : Hp} : ∀ {xs : List V} {ds : List PyData} {i : Nat} {d : PyData}, B4 F H xs ds -> ds[i]? = some d -> ∃ v, xs[i]? = some v /\ ThV F H v d
 | _, _, _, _, .nil, e => by simp at e
 | _, _, 0, d, .cons (x := v) x _, e => by
  have e' := Option.some.inj e
  subst e'
  exact ⟨v, rfl, x⟩
 | _, _, i + 1, v, .cons _ t, e => B4.at (i := i) t e
mutual
theorem ThV.dat {K : A3} {F : Addr -> Prop} {H : Hp} : ∀ {v : V} {d : PyData}, ThV F H v d -> d.canLay0 = true -> X3 K H v d
 | _, _, .non, _ => .non
 | _, _, .bl b, _ => .bl b
 | _, _, .int i, _ => .int i
 | _, _, .str x, _ => .str x
 | _, _, .lst _ e t, h => .lst (SqL.of e) (B4.dat t (by rw [PyData.canLay0] at h; exact h))
 | _, _, .tup _ e t, h => .tup (SqT.of e) (B4.dat t (by rw [PyData.canLay0] at h; exact h))
 | _, _, .dic _ _ _, h => by rw [PyData.canLay0] at h; cases h
theorem B4.dat {K : A3} {F : Addr -> Prop} {H : Hp} : ∀ {vs : List V} {ds : List PyData}, B4 F H vs ds -> PyData.canLayAll0 ds = true -> d3 K H vs ds
 | _, _, .nil, _ => .nil
 | _, _, .cons x t, h => by
  rw [PyData.canLayAll0, j2] at h
  exact .cons (ThV.dat x h.1) (B4.dat t h.2)
end
end My
namespace My
open PySem L2
structure DC where
 F : Addr -> Prop
 hand : Option (Addr × Addr)
 H0 : Hp
def Kq (h : Option (Addr × Addr)) (H H' : Hp) : Prop := ∀ b o, H b = some o -> (∀ q, h = some q -> b ≠ q.1) -> H' b = some o
def Hq (h : Option (Addr × Addr)) (H : Hp) : Prop := ∀ q, h = some q -> Hd H q.1 q.2
section
variable {h : Option (Addr × Addr)} {H H1 H2 H' : Hp} {p : Addr} {o : HO}
theorem Kq.refl : Kq h H H := fun _ _ e _ => e
theorem Kq.trans (a : Kq h H H1) (b : Kq h H1 H2) : Kq h H H2 := fun c o e n => b c o (a c o e n) n
theorem Kq.same (s : Same H H') : Kq h H H' := fun b o e _ => s b o e
theorem Kq.fr {b : Addr} (k : Kq h H H') (q : Hq h H') (e : H' b = none) : H b = none := by
 cases z : H b with
 | none => rfl
 | some o =>
  by_cases c : ∀ p, h = some p -> b ≠ p.1
  ·rw [k b o z c] at e; cases e
  ·refine absurd (fun p hp hb => ?_) c
   obtain ⟨o', e'⟩ := (q p hp).at1
   rw [hb, e'] at e; cases e
theorem Kq.lay (hp : H p = none) : Kq h H (upd H p o) := Kq.same ((Same.refl H).lay hp)
theorem Hq.lay (q : Hq h H) (hp : H p = none) : Hq h (upd H p o) := fun z hz => (q z hz).lay hp
theorem Hq.same (q : Hq h H) (s : Same H H') : Hq h H' := fun z hz => (q z hz).same s
end
inductive Rws (G F : Addr -> Prop) (H : Hp) : List Addr -> List (List PyData) -> Prop
 | nil : Rws G F H [] []
 | cons {b vs as ds dss} : G b -> H b = some (.lst vs) -> B4 F H vs ds -> Rws G F H as dss -> Rws G F H (b :: as) (ds :: dss)
theorem Rws.mv {G F G' F' : Addr -> Prop} {H H' : Hp} {as : List Addr} {dss : List (List PyData)} (t : Rws G F H as dss) (f : ∀ b o, F b -> H b = some o -> F' b /\ H' b = some o) (g : ∀ b o, G b -> H b = some o -> G' b /\ H' b = some o) : Rws G' F' H' as dss := by
 induction t with
 | nil => exact .nil
 | cons x e y _ ih => exact .cons (g _ _ x e).1 (g _ _ x e).2 (y.mv f) ih
theorem Rws.mvl {G F G' F' : Addr -> Prop} {H H' : Hp} {as : List Addr} {dss : List (List PyData)} (t : Rws G F H as dss) (f : ∀ b o, F b -> H b = some o -> F' b /\ H' b = some o) (g : ∀ b ys, G b -> H b = some (.lst ys) -> G' b /\ H' b = some (.lst ys)) : Rws G' F' H' as dss := by
 induction t with
 | nil => exact .nil
 | cons x e y _ ih => exact .cons (g _ _ x e).1 (g _ _ x e).2 (y.mv f) ih
def A5d (H : Hp) (a : Addr) (ks : List (List Int)) : Bool -> Prop
 | false => H a = some (.dT (dEn ks))
 | true => ∃ o, H a = some (.frz o (.dT (dEn ks)))
theorem A5d.mv {H H' : Hp} {a : Addr} {ks : List (List Int)} {f : Bool} (h : A5d H a ks f) (k : ∀ o, H a = some o -> H' a = some o) : A5d H' a ks f := by
 cases f with
 | false => exact k _ h
 | true => obtain ⟨o, h⟩ := h; exact ⟨o, k _ h⟩
theorem A5d.ne {H : Hp} {a : Addr} {ks : List (List Int)} {f : Bool} (h : A5d H a ks f) : H a ≠ none := by
 cases f with
 | false => exact fun q => by rw [show H a = _ from h] at q; cases q
 | true => obtain ⟨o, h⟩ := h; exact fun q => by rw [h] at q; cases q
def A5e (H : Hp) (a : Addr) (ks : List (List Int × Int)) : Bool -> Prop
 | false => H a = some (.dT (dEm ks))
 | true => ∃ o, H a = some (.frz o (.dT (dEm ks)))
theorem A5e.mv {H H' : Hp} {a : Addr} {ks : List (List Int × Int)} {f : Bool} (h : A5e H a ks f) (k : ∀ o, H a = some o -> H' a = some o) : A5e H' a ks f := by
 cases f with
 | false => exact k _ h
 | true => obtain ⟨o, h⟩ := h; exact ⟨o, k _ h⟩
theorem A5e.ne {H : Hp} {a : Addr} {ks : List (List Int × Int)} {f : Bool} (h : A5e H a ks f) : H a ≠ none := by
 cases f with
 | false => exact fun q => by rw [show H a = _ from h] at q; cases q
 | true => obtain ⟨o, h⟩ := h; exact fun q => by rw [h] at q; cases q
structure A5f where
 p : (Addr -> Prop) -> Hp -> V -> Prop
 mv : ∀ {W W' : Addr -> Prop} {H H' : Hp} {v : V}, (∀ b o, W b -> H b = some o -> W' b /\ H' b = some o) -> p W H v -> p W' H' v
inductive Sl where
 | no
 | sh (d : PyData)
 | ow (ds : List PyData)
 | bo (ds : List PyData)
 | hd
 | o2 (dss : List (List PyData))
 | b2 (dss : List (List PyData))
 | di (f : Bool) (ks : List (List Int))
 | dm (f : Bool) (kvs : List (List Int × Int))
 | bd (d : PyData)
 | ot (d : PyData)
 | ob (R : A5f)
abbrev Z (col : Addr -> Nat) : Addr -> Prop := fun b => col b = 0
abbrev Le (C : DC) : Addr -> Prop := fun b => C.H0 b ≠ none /\ ∀ q, C.hand = some q -> b ≠ q.1
abbrev Ow (C : DC) (col : Addr -> Nat) (H : Hp) (i : Nat) : Addr -> Prop := fun b => (col b = 2 * i + 3 /\ C.H0 b = none) \/ (col b = 0 /\ ∃ xs, H b = some (.tup xs))
def SlR (C : DC) (col : Addr -> Nat) (H : Hp) (i : Nat) (o : Option V) : Sl -> Prop
 | .no => True
 | .sh d => ∃ v, o = some v /\ ThV (Z col) H v d
 | .ow ds => ∃ a vs, o = some (.ref a) /\ col a = 2 * i + 3 /\ C.H0 a = none /\ H a = some (.lst vs) /\ B4 (Z col) H vs ds
 | .bo ds => ∃ a vs, o = some (.ref a) /\ col a <= 1 /\ (∀ q, C.hand = some q -> a ≠ q.1) /\ H a = some (.lst vs) /\ B4 (Z col) H vs ds
 | .hd => ∃ q, C.hand = some q /\ o = some (.ref q.1)
 | .o2 dss => ∃ a as, o = some (.ref a) /\ (col a = 2 * i + 3 /\ C.H0 a = none) /\ H a = some (.lst (as.map V.ref)) /\ (a :: as).Nodup /\ Rws (fun b => col b = 2 * i + 3 /\ C.H0 b = none) (Z col) H as dss
 | .b2 dss => ∃ a as, o = some (.ref a) /\ (col a <= 1 /\ ∀ q, C.hand = some q -> a ≠ q.1) /\ H a = some (.lst (as.map V.ref)) /\ Rws (fun b => col b <= 1 /\ ∀ q, C.hand = some q -> b ≠ q.1) (Z col) H as dss
 | .di f ks => ∃ a, o = some (.ref a) /\ col a = 2 * i + 3 /\ C.H0 a = none /\ A5d H a ks f
 | .dm f ks => ∃ a, o = some (.ref a) /\ col a = 2 * i + 3 /\ C.H0 a = none /\ A5e H a ks f
 | .bd d => ∃ v, o = some v /\ ThV (Le C) C.H0 v d
 | .ot d => ∃ v, o = some v /\ ThV (Ow C col H i) H v d
 | .ob R => ∃ v, o = some v /\ R.p (Ow C col H i) H v
inductive Pe where
 | v (v : V) (d : PyData)
 | n (a : Addr) (o : HO)
 | s (vs : List V) (ds : List PyData)
 | o (c : Nat) (as : List Addr) (dss : List (List PyData))
 | w (v : V) (d : PyData)
def PeR (C : DC) (col : Addr -> Nat) (H : Hp) : Pe -> Prop
 | .v v d => ThV (Z col) H v d
 | .n a o => col a <= 1 /\ (∀ q, C.hand = some q -> a ≠ q.1) /\ H a = some o
 | .s vs ds => B4 (Z col) H vs ds
 | .o c as dss => as.Nodup /\ Rws (fun b => col b = 2 * c + 2 /\ C.H0 b = none) (Z col) H as dss
 | .w v d => ThV (Le C) C.H0 v d
structure C0 (C : DC) (col : Addr -> Nat) (ρ : List Sl) (σ : St) (P : List Pe) (H : Hp) : Prop where
 fresh : ∀ b, H b = none -> col b = 0
 inF : ∀ b, col b = 0 -> C.F b
 hnd : ∀ q, C.hand = some q -> col q.1 = 1
 sl : ∀ i s, ρ[i]? = some s -> SlR C col H i (σ[i]?).join s
 pd : ∀ p ∈ P, PeR C col H p
 kq : Kq C.hand C.H0 H
 hq : Hq C.hand H
 hq0 : Hq C.hand C.H0
 nf : (∀ b, C.H0 b = none -> C.F b) /\ ∀ b xs, C.H0 b = some (.tup xs) -> C.F b
 len : ρ.length = σ.length
def Rel (C : DC) (ρ : List Sl) (σ : St) (P : List Pe) (H : Hp) : Prop := ∃ col, C0 C col ρ σ P H
section
variable {C : DC} {col col' : Addr -> Nat} {ρ : List Sl} {σ : St} {P P' : List Pe} {H H' : Hp} {v : V} {d : PyData} {o : HO} {p : Addr}
theorem C0.notH (r : C0 C col ρ σ P H) {b : Addr} (hb : col b ≠ 1) : ∀ q, C.hand = some q -> b ≠ q.1 := fun q hq e => hb (e ▸ r.hnd q hq)
theorem C0.mv (r : C0 C col ρ σ P H) (k : Kq C.hand H H') (q : Hq C.hand H') : C0 C col ρ σ P H' := by
 have mv0 : ∀ b o, Z col b -> H b = some o -> Z col b /\ H' b = some o := fun b o z e => ⟨z, k b o e (r.notH (by rw [show col b = 0 from z]; decide))⟩
 refine ⟨fun b e => r.fresh b (k.fr q e), r.inF, r.hnd, fun i s e => ?_, fun p hp => ?_, r.kq.trans k, q, r.hq0, r.nf, r.len⟩
 ·have h := r.sl i s e
  cases s with
  | no => trivial
  | sh d => obtain ⟨v, e1, t⟩ := h; exact ⟨v, e1, t.mv mv0⟩
  | ow ds => obtain ⟨a, vs, e1, c, n, e2, t⟩ := h; exact ⟨a, vs, e1, c, n, k a _ e2 (r.notH (by lia)), t.mv mv0⟩
  | bo ds => obtain ⟨a, vs, e1, c, n, e2, t⟩ := h; exact ⟨a, vs, e1, c, n, k a _ e2 n, t.mv mv0⟩
  | hd => exact h
  | o2 dss => obtain ⟨a, as, e1, c, e2, nd, t⟩ := h; exact ⟨a, as, e1, c, k a _ e2 (r.notH (by lia)), nd, t.mv mv0 fun b o g e => ⟨g, k b o e (r.notH (by have := g.1; lia))⟩⟩
  | b2 dss => obtain ⟨a, as, e1, c, e2, t⟩ := h; exact ⟨a, as, e1, c, k a _ e2 c.2, t.mv mv0 fun b o g e => ⟨g, k b o e g.2⟩⟩
  | di f ks => obtain ⟨a, e1, c, n, e2⟩ := h; exact ⟨a, e1, c, n, e2.mv fun o e => k a o e (r.notH (by lia))⟩
  | dm f ks => obtain ⟨a, e1, c, n, e2⟩ := h; exact ⟨a, e1, c, n, e2.mv fun o e => k a o e (r.notH (by lia))⟩
  | bd d => exact h
  | ot d =>
   obtain ⟨v, e1, t⟩ := h
   refine ⟨v, e1, t.mv fun b o g e => ?_⟩
   have e' : H' b = some o := k b o e (r.notH (by rcases g with g | g <;> (have := g.1; lia)))
   exact ⟨g.imp id fun ⟨c, xs, z⟩ => ⟨c, xs, by rw [e] at z; rw [e']; exact z⟩, e'⟩
  | ob R =>
   obtain ⟨v, e1, t⟩ := h
   refine ⟨v, e1, R.mv (fun b o g e => ?_) t⟩
   have e' : H' b = some o := k b o e (r.notH (by rcases g with g | g <;> (have := g.1; lia)))
   exact ⟨g.imp id fun ⟨c, xs, z⟩ => ⟨c, xs, by rw [e] at z; rw [e']; exact z⟩, e'⟩
 ·have h := r.pd p hp
  cases p with
  | v v d => exact ThV.mv mv0 h
  | n a o => exact ⟨h.1, h.2.1, k a o h.2.2 h.2.1⟩
  | s vs ds => exact B4.mv mv0 h
  | o c as dss => exact ⟨h.1, h.2.mv mv0 fun b o g e => ⟨g, k b o e (r.notH (by have := g.1; lia))⟩⟩
  | w v d => exact h
theorem C0.lay (r : C0 C col ρ σ P H) (hp : H p = none) : C0 C col ρ σ P (upd H p o) := r.mv (Kq.lay hp) (r.hq.lay hp)
theorem C0.add (r : C0 C col ρ σ P H) {x : Pe} (t : PeR C col H x) : C0 C col ρ σ (x :: P) H :=
 { r with pd := fun p hp => (O7.mp hp).elim (fun e => e ▸ t) (r.pd p) }
theorem C0.push (r : C0 C col ρ σ P H) (t : ThV (Z col) H v d) : C0 C col ρ σ (.v v d :: P) H := r.add t
theorem C0.sub (r : C0 C col ρ σ P H) (h : ∀ p ∈ P', p ∈ P) : C0 C col ρ σ P' H := { r with pd := fun p hp => r.pd p (h p hp) }
theorem Rel.sub (r : Rel C ρ σ P H) (h : ∀ p ∈ P', p ∈ P) : Rel C ρ σ P' H := let ⟨c, r⟩ := r; ⟨c, r.sub h⟩
theorem Rel.pop {x : Pe} (r : Rel C ρ σ (x :: P) H) : Rel C ρ σ P H := r.sub fun _ h => C3 _ h
theorem C0.tup {vs : List V} {ds : List PyData} (r : C0 C col ρ σ P H) (t : B4 (Z col) H vs ds) (hp : H p = none) : C0 C col ρ σ (.v (.ref p) (.tuple ds) :: P) (upd H p (.tup vs)) :=
 (r.lay hp).push (.tup (r.fresh p hp) J1 (t.same ((Same.refl H).lay hp)))
theorem C0.lst {vs : List V} {ds : List PyData} (r : C0 C col ρ σ P H) (t : B4 (Z col) H vs ds) (hp : H p = none) : C0 C col ρ σ (.v (.ref p) (.list ds) :: P) (upd H p (.lst vs)) :=
 (r.lay hp).push (.lst (r.fresh p hp) J1 (t.same ((Same.refl H).lay hp)))
theorem C0.recol (r : C0 C col ρ σ P H) {ρ' : List Sl} {σ' : St} (hl : ρ'.length = σ'.length) (f : ∀ b, H b = none -> col' b = 0) (i : ∀ b, col' b = 0 -> C.F b) (n : ∀ q, C.hand = some q -> col' q.1 = 1) (z : ∀ b, col b = 0 -> H b ≠ none -> col' b = 0)
  (lo : ∀ b, col b <= 1 -> H b ≠ none -> col' b <= 1) (c2 : ∀ b c, col b = 2 * c + 2 -> col' b = 2 * c + 2) (s : ∀ i s, ρ'[i]? = some s -> SlR C col' H i (σ'[i]?).join s) : C0 C col' ρ' σ' P H := by
 have mv0 : ∀ b o, Z col b -> H b = some o -> Z col' b /\ H b = some o := fun b o zz e => ⟨z b zz (by rw [e]; exact fun q => nomatch q), e⟩
 refine ⟨f, i, n, s, fun p hp => ?_, r.kq, r.hq, r.hq0, r.nf, hl⟩
 have h := r.pd p hp
 cases p with
 | v v d => exact ThV.mv mv0 h
 | n a o => exact ⟨lo a h.1 (by rw [h.2.2]; exact fun q => nomatch q), h.2⟩
 | s vs ds => exact B4.mv mv0 h
 | o c as dss => exact ⟨h.1, h.2.mv mv0 fun b o g e => ⟨⟨c2 b c g.1, g.2⟩, e⟩⟩
 | w v d => exact h
theorem C0.freeze {i : Nat} {ds : List PyData} (r : C0 C col ρ σ P H) (e : ρ[i]? = some (.ow ds)) :
  ∃ a, (σ[i]?).join = some (.ref a) /\ Rel C (ρ.set i (.sh (.list ds))) σ (.v (.ref a) (.list ds) :: P) H := by
 obtain ⟨a, vs, e1, c, n, e2, t⟩ := r.sl i _ e
 let col' : Addr -> Nat := fun b => if b = a then 0 else col b
 have ca : col' a = 0 := if_pos rfl
 have cn : ∀ b, b ≠ a -> col' b = col b := fun b hb => if_neg hb
 have z : ∀ b, col b = 0 -> col' b = 0 := fun b hb => by
  by_cases q : b = a
  ·rw [q]; exact ca
  ·rw [cn b q]; exact hb
 have mv0 : ∀ b o, Z col b -> H b = some o -> Z col' b /\ H b = some o := fun b o zz e => ⟨z b zz, e⟩
 have T : ThV (Z col') H (.ref a) (.list ds) := .lst ca e2 (t.mv mv0)
 have R : C0 C col' (ρ.set i (.sh (.list ds))) σ P H := by
  refine r.recol (by rw [N3]; exact r.len) (fun b hb => z b (r.fresh b hb)) (fun b hb => ?_) (fun q hq => ?_) (fun b hb _ => z b hb) (fun b hb _ => ?_) (fun b c2 hb => by rw [cn b (fun q => by rw [q] at hb; lia)]; exact hb) fun j s es => ?_
  ·by_cases q : b = a
   ·rw [q]; exact r.nf.1 a n
   ·rw [cn b q] at hb; exact r.inF b hb
  ·rw [cn _ fun q' => by have := r.hnd q hq; rw [q'] at this; lia]; exact r.hnd q hq
  ·by_cases q : b = a
   ·rw [q, ca]; lia
   ·rw [cn b q]; exact hb
  ·by_cases hj : j = i
   ·subst hj
    rw [Y4] at es
    simp only [if_true] at es
    split at es
    ·cases es; exact ⟨_, e1, T⟩
    ·cases es
   ·rw [Q1 (Ne.symm hj)] at es
    have h := r.sl j s es
    cases s with
    | no => trivial
    | sh d => obtain ⟨v, e1, t⟩ := h; exact ⟨v, e1, t.mv mv0⟩
    | ow ds => obtain ⟨a', vs', e1', c', n', e2', t'⟩ := h; exact ⟨a', vs', e1', by rw [cn a' (fun q => by rw [q] at c'; lia)]; exact c', n', e2', t'.mv mv0⟩
    | bo ds => obtain ⟨a', vs', e1', c', n', e2', t'⟩ := h; exact ⟨a', vs', e1', by by_cases q : a' = a; { rw [q, ca]; lia }; { rw [cn a' q]; exact c' }, n', e2', t'.mv mv0⟩
    | hd => exact h
    | o2 dss => obtain ⟨a', as', e1', c', e2', nd', t'⟩ := h; exact ⟨a', as', e1', ⟨by rw [cn a' (fun q => by rw [q] at c'; lia)]; exact c'.1, c'.2⟩, e2', nd', t'.mv mv0 fun b o g e => ⟨⟨by rw [cn b (fun q => by have := g.1; rw [q] at this; lia)]; exact g.1, g.2⟩, e⟩⟩
    | b2 dss => obtain ⟨a', as', e1', c', e2', t'⟩ := h; exact ⟨a', as', e1', ⟨by by_cases q : a' = a; { rw [q, ca]; lia }; { rw [cn a' q]; exact c'.1 }, c'.2⟩, e2', t'.mv mv0 fun b o g e => ⟨⟨by by_cases q : b = a; { rw [q, ca]; lia }; { rw [cn b q]; exact g.1 }, g.2⟩, e⟩⟩
    | di f ks => obtain ⟨a', e1', c', n', e2'⟩ := h; exact ⟨a', e1', by rw [cn a' (fun q => by rw [q] at c'; lia)]; exact c', n', e2'⟩
    | dm f ks => obtain ⟨a', e1', c', n', e2'⟩ := h; exact ⟨a', e1', by rw [cn a' (fun q => by rw [q] at c'; lia)]; exact c', n', e2'⟩
    | bd d => exact h
    | ot d => obtain ⟨v, e1', t'⟩ := h; exact ⟨v, e1', t'.mv fun b o g e => ⟨g.imp (fun g => ⟨by rw [cn b (fun q => by rw [q] at g; have := g.1; lia)]; exact g.1, g.2⟩) fun g => ⟨z b g.1, g.2⟩, e⟩⟩
    | ob R => obtain ⟨v, e1', t'⟩ := h; exact ⟨v, e1', R.mv (fun b o g e => ⟨g.imp (fun g => ⟨by rw [cn b (fun q => by rw [q] at g; have := g.1; lia)]; exact g.1, g.2⟩) fun g => ⟨z b g.1, g.2⟩, e⟩) t'⟩
 exact ⟨a, e1, col', R.push T⟩
theorem C0.store {i : Nat} (r : C0 C col ρ σ P H) (t : ThV (Z col) H v d) : C0 C col (ρ.set i (.sh d)) (σ.set i (some v)) P H := by
 refine { r with sl := fun j s es => ?_, len := by rw [N3, N3]; exact r.len }
 by_cases hj : j = i
 ·subst hj
  rw [Y4] at es
  simp only [if_true] at es
  split at es
  ·rename_i hl
   cases es
   refine ⟨v, ?_, t⟩
   rw [Y4, if_pos rfl, if_pos (by rw [<- r.len]; exact hl)]; rfl
  ·cases es
 ·rw [Q1 (Ne.symm hj)] at es
  rw [Q1 (Ne.symm hj)]
  exact r.sl j s es
theorem C0.own {i : Nat} {vs : List V} {ds : List PyData} (r : C0 C col ρ σ P H) (t : B4 (Z col) H vs ds) (hp : H p = none) : Rel C (ρ.set i (.ow ds)) (σ.set i (some (.ref p))) P (upd H p (.lst vs)) := by
 let col' : Addr -> Nat := fun b => if b = p then 2 * i + 3 else col b
 have ca : col' p = 2 * i + 3 := if_pos rfl
 have cn : ∀ b, b ≠ p -> col' b = col b := fun b hb => if_neg hb
 have ne : ∀ b, H b ≠ none -> b ≠ p := fun b hb q => hb (q ▸ hp)
 have mv0 : ∀ b o, Z col b -> H b = some o -> Z col' b /\ upd H p (.lst vs) b = some o := fun b o zz e => by
  have q := ne b (by rw [e]; exact fun q => nomatch q)
  exact ⟨(cn b q).trans zz, by rw [B9 q]; exact e⟩
 have r1 := r.lay (o := .lst vs) hp
 have c0 : C.H0 p = none := r.kq.fr r.hq hp
 refine ⟨col', fun b hb => ?_, fun b hb => ?_, fun q hq => ?_, fun j s es => ?_, fun x hx => ?_, r1.kq, r1.hq, r.hq0, r.nf, by rw [N3, N3]; exact r.len⟩
 ·have q : b ≠ p := fun q => by rw [q, J1] at hb; cases hb
  rw [cn b q]; exact r1.fresh b hb
 ·have q : b ≠ p := fun q => by rw [q, ca] at hb; cases hb
  rw [cn b q] at hb; exact r.inF b hb
 ·obtain ⟨o', e'⟩ := (r.hq q hq).at1
  rw [cn _ (ne _ (by rw [e']; exact fun q => nomatch q))]; exact r.hnd q hq
 ·by_cases hj : j = i
  ·subst hj
   rw [Y4] at es
   simp only [if_true] at es
   split at es
   ·rename_i hl
    cases es
    exact ⟨p, vs, by rw [Y4, if_pos rfl, if_pos (by rw [<- r.len]; exact hl)]; rfl, ca, c0, J1, t.mv mv0⟩
   ·cases es
  ·rw [Q1 (Ne.symm hj)] at es
   rw [Q1 (Ne.symm hj)]
   have h := r.sl j s es
   cases s with
   | no => trivial
   | sh d => obtain ⟨v, e1, t⟩ := h; exact ⟨v, e1, t.mv mv0⟩
   | ow ds =>
    obtain ⟨a', vs', e1', c', n', e2', t'⟩ := h
    have q := ne a' (by rw [e2']; exact fun q => nomatch q)
    exact ⟨a', vs', e1', by rw [cn a' q]; exact c', n', by rw [B9 q]; exact e2', t'.mv mv0⟩
   | bo ds =>
    obtain ⟨a', vs', e1', c', n', e2', t'⟩ := h
    have q := ne a' (by rw [e2']; exact fun q => nomatch q)
    exact ⟨a', vs', e1', by rw [cn a' q]; exact c', n', by rw [B9 q]; exact e2', t'.mv mv0⟩
   | hd => exact h
   | o2 dss =>
    obtain ⟨a', as', e1', c', e2', nd', t'⟩ := h
    have q := ne a' (by rw [e2']; exact fun q => nomatch q)
    exact ⟨a', as', e1', ⟨by rw [cn a' q]; exact c'.1, c'.2⟩, by rw [B9 q]; exact e2', nd', t'.mv mv0 fun b o g e => by
     have q := ne b (by rw [e]; exact fun q => nomatch q)
     exact ⟨⟨by rw [cn b q]; exact g.1, g.2⟩, by rw [B9 q]; exact e⟩⟩
   | b2 dss =>
    obtain ⟨a', as', e1', c', e2', t'⟩ := h
    have q := ne a' (by rw [e2']; exact fun q => nomatch q)
    exact ⟨a', as', e1', ⟨by rw [cn a' q]; exact c'.1, c'.2⟩, by rw [B9 q]; exact e2', t'.mv mv0 fun b o g e => by
     have q := ne b (by rw [e]; exact fun q => nomatch q)
     exact ⟨⟨by rw [cn b q]; exact g.1, g.2⟩, by rw [B9 q]; exact e⟩⟩
   | di f ks =>
    obtain ⟨a', e1', c', n', e2'⟩ := h
    have q := ne a' e2'.ne
    exact ⟨a', e1', by rw [cn a' q]; exact c', n', e2'.mv fun o e => by rw [B9 q]; exact e⟩
   | dm f ks =>
    obtain ⟨a', e1', c', n', e2'⟩ := h
    have q := ne a' e2'.ne
    exact ⟨a', e1', by rw [cn a' q]; exact c', n', e2'.mv fun o e => by rw [B9 q]; exact e⟩
   | bd d => exact h
   | ot d =>
    obtain ⟨v, e1', t'⟩ := h
    exact ⟨v, e1', t'.mv fun b o g e => by
     have q := ne b (by rw [e]; exact fun q => nomatch q)
     exact ⟨g.imp (fun g => ⟨by rw [cn b q]; exact g.1, g.2⟩) fun g => ⟨by rw [cn b q]; exact g.1, by rw [B9 q]; exact g.2⟩, by rw [B9 q]; exact e⟩⟩
   | ob R =>
    obtain ⟨v, e1', t'⟩ := h
    exact ⟨v, e1', R.mv (fun b o g e => by
     have q := ne b (by rw [e]; exact fun q => nomatch q)
     exact ⟨g.imp (fun g => ⟨by rw [cn b q]; exact g.1, g.2⟩) fun g => ⟨by rw [cn b q]; exact g.1, by rw [B9 q]; exact g.2⟩, by rw [B9 q]; exact e⟩) t'⟩
 ·have h := r.pd x hx
  cases x with
  | v v d => exact ThV.mv mv0 h
  | n a o =>
   have q := ne a (by rw [h.2.2]; exact fun q => nomatch q)
   exact ⟨by rw [cn a q]; exact h.1, h.2.1, by rw [B9 q]; exact h.2.2⟩
  | s vs ds => exact B4.mv mv0 h
  | o c as dss => exact ⟨h.1, h.2.mv mv0 fun b o g e => by
    have q := ne b (by rw [e]; exact fun q => nomatch q)
    exact ⟨⟨by rw [cn b q]; exact g.1, g.2⟩, by rw [B9 q]; exact e⟩⟩
  | w v d => exact h
theorem C0.write {i : Nat} {a : Addr} {ws : List V} {ds es : List PyData} (r : C0 C col ρ σ P H) (e : ρ[i]? = some (.ow ds)) (ea : (σ[i]?).join = some (.ref a)) (t : B4 (Z col) H ws es) :
  C0 C col (ρ.set i (.ow es)) σ P (upd H a (.lst ws)) := by
 obtain ⟨a', vs', e1, c, n, e2, _⟩ := r.sl i _ e
 rw [e1] at ea
 cases ea
 have ne : ∀ b, col b ≠ 2 * i + 3 -> b ≠ a := fun b hb q => hb (q ▸ c)
 have mv0 : ∀ b o, Z col b -> H b = some o -> Z col b /\ upd H a (.lst ws) b = some o := fun b o zz e => ⟨zz, by rw [B9 (ne b (by rw [show col b = 0 from zz]; lia))]; exact e⟩
 refine ⟨fun b hb => ?_, r.inF, r.hnd, fun j s es' => ?_, fun x hx => ?_, fun b o e q => ?_, fun q hq => ?_, r.hq0, r.nf, by rw [N3]; exact r.len⟩
 ·by_cases q : b = a
  ·rw [q, J1] at hb; cases hb
  ·rw [B9 q] at hb; exact r.fresh b hb
 ·by_cases hj : j = i
  ·subst hj
   rw [Y4] at es'
   simp only [if_true] at es'
   split at es'
   ·cases es'
    exact ⟨a, ws, e1, c, n, J1, t.mv mv0⟩
   ·cases es'
  ·rw [Q1 (Ne.symm hj)] at es'
   have h := r.sl j s es'
   cases s with
   | no => trivial
   | sh d => obtain ⟨v, e1, t⟩ := h; exact ⟨v, e1, t.mv mv0⟩
   | ow ds =>
    obtain ⟨a', vs', e1', c', n', e2', t'⟩ := h
    exact ⟨a', vs', e1', c', n', by rw [B9 (ne a' (by lia))]; exact e2', t'.mv mv0⟩
   | bo ds =>
    obtain ⟨a', vs', e1', c', n', e2', t'⟩ := h
    exact ⟨a', vs', e1', c', n', by rw [B9 (ne a' (by lia))]; exact e2', t'.mv mv0⟩
   | hd => exact h
   | o2 dss =>
    obtain ⟨a', as', e1', c', e2', nd', t'⟩ := h
    exact ⟨a', as', e1', c', by rw [B9 (ne a' (by lia))]; exact e2', nd', t'.mv mv0 fun b o g e => ⟨g, by rw [B9 (ne b (by have := g.1; lia))]; exact e⟩⟩
   | b2 dss =>
    obtain ⟨a', as', e1', c', e2', t'⟩ := h
    exact ⟨a', as', e1', c', by rw [B9 (ne a' (by have := c'.1; lia))]; exact e2', t'.mv mv0 fun b o g e => ⟨g, by rw [B9 (ne b (by have := g.1; lia))]; exact e⟩⟩
   | di f ks =>
    obtain ⟨a', e1', c', n', e2'⟩ := h
    exact ⟨a', e1', c', n', e2'.mv fun o e => by rw [B9 (ne a' (by lia))]; exact e⟩
   | dm f ks =>
    obtain ⟨a', e1', c', n', e2'⟩ := h
    exact ⟨a', e1', c', n', e2'.mv fun o e => by rw [B9 (ne a' (by lia))]; exact e⟩
   | bd d => exact h
   | ot d =>
    obtain ⟨v, e1', t'⟩ := h
    exact ⟨v, e1', t'.mv fun b o g e => by
     have q := ne b (by rcases g with g | g <;> (have := g.1; lia))
     exact ⟨g.imp id fun g => ⟨g.1, by rw [B9 q]; exact g.2⟩, by rw [B9 q]; exact e⟩⟩
   | ob R =>
    obtain ⟨v, e1', t'⟩ := h
    exact ⟨v, e1', R.mv (fun b o g e => by
     have q := ne b (by rcases g with g | g <;> (have := g.1; lia))
     exact ⟨g.imp id fun g => ⟨g.1, by rw [B9 q]; exact g.2⟩, by rw [B9 q]; exact e⟩) t'⟩
 ·have h := r.pd x hx
  cases x with
  | v v d => exact ThV.mv mv0 h
  | n b o => exact ⟨h.1, h.2.1, by rw [B9 (ne b (by have := h.1; lia))]; exact h.2.2⟩
  | s vs ds => exact B4.mv mv0 h
  | o c as dss => exact ⟨h.1, h.2.mv mv0 fun b o g e => ⟨g, by rw [B9 (ne b (by have := g.1; lia))]; exact e⟩⟩
  | w v d => exact h
 ·have z := r.kq b o e q
  have q' : b ≠ a := fun q' => by rw [q', n] at e; cases e
  rw [B9 q']; exact z
 ·obtain ⟨o1, h1⟩ := (r.hq0 q hq).at1
  obtain ⟨o2, h2⟩ := (r.hq0 q hq).at2
  exact (r.hq q hq).wr (fun z => by rw [<- z, n] at h1; cases h1) (fun z => by rw [<- z, n] at h2; cases h2)
end
open Classical in
theorem C0.norm {C : DC} {col : Addr -> Nat} {ρ : List Sl} {σ : St} {P : List Pe} {H : Hp} (r : C0 C col ρ σ P H) : ∃ col', C0 C col' ρ σ P H /\ ∀ b xs, H b = some (.tup xs) -> col' b = 0 := by
 let col' : Addr -> Nat := fun b => if ∃ xs, H b = some (.tup xs) then 0 else col b
 have ct : ∀ b xs, H b = some (.tup xs) -> col' b = 0 := fun b xs e => if_pos ⟨xs, e⟩
 have cn : ∀ b, (∀ xs, H b ≠ some (.tup xs)) -> col' b = col b := fun b h => if_neg fun ⟨xs, e⟩ => h xs e
 have hl : ∀ b ys, H b = some (.lst ys) -> col' b = col b := fun b ys e => cn b fun xs z => by rw [e] at z; cases z
 have hd : ∀ q, C.hand = some q -> ∀ xs, H q.1 ≠ some (.tup xs) := fun q hq xs z => by
  obtain ⟨_, _, _, _, _, _, _, _, e⟩ := r.hq q hq
  rw [e] at z; cases z
 have z0 : ∀ b, col b = 0 -> col' b = 0 := fun b hb => by
  by_cases h : ∃ xs, H b = some (.tup xs)
  ·exact if_pos h
  ·exact (if_neg h).trans hb
 have lo : ∀ b, col b <= 1 -> col' b <= 1 := fun b hb => by
  by_cases h : ∃ xs, H b = some (.tup xs)
  ·rw [show col' b = 0 from if_pos h]; lia
  ·rw [show col' b = col b from if_neg h]; exact hb
 have mv0 : ∀ b o, Z col b -> H b = some o -> Z col' b /\ H b = some o := fun b o zz e => ⟨z0 b zz, e⟩
 refine ⟨col', ⟨fun b e => z0 b (r.fresh b e), fun b hb => ?_, fun q hq => (cn _ (hd q hq)).trans (r.hnd q hq), fun i s e => ?_, fun p hp => ?_, r.kq, r.hq, r.hq0, r.nf, r.len⟩, ct⟩
 ·by_cases h : ∃ xs, H b = some (.tup xs)
  ·obtain ⟨xs, h⟩ := h
   cases q : C.H0 b with
   | none => exact r.nf.1 b q
   | some o =>
    have := r.kq b o q fun p hp e => hd p hp xs (e ▸ h)
    rw [this] at h
    cases h
    exact r.nf.2 b xs q
  ·rw [show col' b = col b from if_neg h] at hb; exact r.inF b hb
 ·have h := r.sl i s e
  cases s with
  | no => trivial
  | sh d => obtain ⟨v, e1, t⟩ := h; exact ⟨v, e1, t.mv mv0⟩
  | ow ds => obtain ⟨a, vs, e1, c, n, e2, t⟩ := h; exact ⟨a, vs, e1, (hl a _ e2).trans c, n, e2, t.mv mv0⟩
  | bo ds => obtain ⟨a, vs, e1, c, n, e2, t⟩ := h; exact ⟨a, vs, e1, lo a c, n, e2, t.mv mv0⟩
  | hd => exact h
  | o2 dss => obtain ⟨a, as, e1, c, e2, nd, t⟩ := h; exact ⟨a, as, e1, ⟨(hl a _ e2).trans c.1, c.2⟩, e2, nd, t.mvl mv0 fun b ys g e => ⟨⟨(hl b _ e).trans g.1, g.2⟩, e⟩⟩
  | b2 dss => obtain ⟨a, as, e1, c, e2, t⟩ := h; exact ⟨a, as, e1, ⟨lo a c.1, c.2⟩, e2, t.mvl mv0 fun b ys g e => ⟨⟨lo b g.1, g.2⟩, e⟩⟩
  | di f ks =>
   obtain ⟨a, e1, c, n, e2⟩ := h
   refine ⟨a, e1, (cn a fun xs z => ?_).trans c, n, e2⟩
   cases f with
   | false => rw [show H a = _ from e2] at z; cases z
   | true => obtain ⟨o, e2⟩ := e2; rw [e2] at z; cases z
  | dm f ks =>
   obtain ⟨a, e1, c, n, e2⟩ := h
   refine ⟨a, e1, (cn a fun xs z => ?_).trans c, n, e2⟩
   cases f with
   | false => rw [show H a = _ from e2] at z; cases z
   | true => obtain ⟨o, e2⟩ := e2; rw [e2] at z; cases z
  | bd d => exact h
  | ot d =>
   obtain ⟨v, e1, t⟩ := h
   refine ⟨v, e1, t.mv fun b o g e => ⟨?_, e⟩⟩
   by_cases q : ∃ xs, H b = some (.tup xs)
   ·obtain ⟨xs, q⟩ := q
    exact .inr ⟨ct b xs q, xs, q⟩
   ·rcases g with g | g
    ·exact .inl ⟨(if_neg q).trans g.1, g.2⟩
    ·exact absurd g.2 q
  | ob R =>
   obtain ⟨v, e1, t⟩ := h
   refine ⟨v, e1, R.mv (fun b o g e => ⟨?_, e⟩) t⟩
   by_cases q : ∃ xs, H b = some (.tup xs)
   ·obtain ⟨xs, q⟩ := q
    exact .inr ⟨ct b xs q, xs, q⟩
   ·rcases g with g | g
    ·exact .inl ⟨(if_neg q).trans g.1, g.2⟩
    ·exact absurd g.2 q
 ·have h := r.pd p hp
  cases p with
  | v v d => exact ThV.mv mv0 h
  | n a o => exact ⟨lo a h.1, h.2⟩
  | s vs ds => exact B4.mv mv0 h
  | o c as dss => exact ⟨h.1, h.2.mvl mv0 fun b ys g e => ⟨⟨(hl b _ e).trans g.1, g.2⟩, e⟩⟩
  | w v d => exact h
inductive Pds (P : List Pe) : List V -> List PyData -> Prop
 | nil : Pds P [] []
 | cons {v d vs ds} : Pe.v v d ∈ P -> Pds P vs ds -> Pds P (v :: vs) (d :: ds)
theorem Pds.th {C : DC} {col : Addr -> Nat} {ρ : List Sl} {σ : St} {P : List Pe} {H : Hp} (r : C0 C col ρ σ P H) : ∀ {vs : List V} {ds : List PyData}, Pds P vs ds -> B4 (Z col) H vs ds
 | _, _, .nil => .nil
 | _, _, .cons h t => .cons (r.pd _ h) (Pds.th r t)
end My
namespace My
open PySem L2
abbrev DE := List Sl -> (PyData -> List Sl -> Prop) -> Prop
abbrev DT := List Sl -> (Bool -> List Sl -> Prop) -> Prop
abbrev DF := List Sl -> (List PyData -> List Sl -> Prop) -> Prop
def eOf (C : DC) (t : DE) : TE := fun σ H Q => ∃ ρ P Qd, Rel C ρ σ P H /\ t ρ Qd /\ ∀ v d ρ' H', Rel C ρ' σ (.v v d :: P) H' -> Qd d ρ' -> Q v H'
def cOf (C : DC) (t : DT) : TT := fun σ H Q => ∃ ρ P Qd, Rel C ρ σ P H /\ t ρ Qd /\ ∀ b ρ' H', Rel C ρ' σ P H' -> Qd b ρ' -> Q b H'
def fOf (C : DC) (t : DF) : TE := fun σ H Q => ∃ ρ P Qd, Rel C ρ σ P H /\ t ρ Qd /\ ∀ p vs ds ρ' H1, (∃ col, C0 C col ρ' σ P H1 /\ B4 (Z col) H1 vs ds) -> H1 p = none -> Qd ds ρ' -> Q (.ref p) (upd H1 p (.lst vs))
def vOf (C : DC) (t : DF) : TA := fun σ H Q => ∃ ρ P Qd, Rel C ρ σ P H /\ t ρ Qd /\ ∀ vs ds ρ' P' H', Rel C ρ' σ P' H' -> (∀ p ∈ P, p ∈ P') -> Pds P' vs ds -> Qd ds ρ' -> Q vs H'
def bnd {α : Type} (o : Option α) (Q : α -> Prop) : Prop := match o with
 | some a => Q a
 | none => False
theorem L0 {α : Type} {o : Option α} {Q : α -> Prop} (h : bnd o Q) : ∃ a, o = some a /\ Q a := by
 cases o with
 | none => exact h.elim
 | some a => exact ⟨a, rfl, h⟩
section
variable {X : Cx} {C : DC}
theorem PE.wk {e : Expr} {t t' : TE} (h : PE X e t) (f : ∀ σ H Q, t' σ H Q -> t σ H Q) : PE X e t' := fun pins s σ H Q I q => h pins s σ H Q I (f σ H Q q)
theorem PT.wk {e : Expr} {t t' : TT} (h : PT X e t) (f : ∀ σ H Q, t' σ H Q -> t σ H Q) : PT X e t' := fun pins s σ H Q I q => h pins s σ H Q I (f σ H Q q)
theorem PW.wk {e : Expr} {t t' : TT} (h : PW X e t) (f : ∀ σ H Q, t' σ H Q -> t σ H Q) : PW X e t' := fun wh pins s σ H Q I q => h wh pins s σ H Q I (f σ H Q q)
theorem PA.wk {es : List Expr} {t t' : TA} (h : PA X es t) (f : ∀ σ H Q, t' σ H Q -> t σ H Q) : PA X es t' := fun pos pins s σ H Q I q => h pos pins s σ H Q I (f σ H Q q)
theorem PO.wk {e : Option Expr} {t t' : TO} (h : PO X e t) (f : ∀ σ H Q, t' σ H Q -> t σ H Q) : PO X e t' := fun pins s σ H Q I q => h pins s σ H Q I (f σ H Q q)
def dC (d : PyData)  (ρ : List Sl) (Q : PyData -> List Sl -> Prop) : Prop := Q d ρ
theorem A7n {e : Expr} {v : V} {d : PyData} (h : PE X e (tC v)) (t : ∀ F H, ThV F H v d) : PE X e (eOf C (dC d)) := PE.wk h fun _ _ _ zz1 => el3 zz1 fun _ _ _ zz2 ht k => zz2.elim fun col r => k _ _ _ _ ⟨col, r.push (t _ _)⟩ ht
theorem A6 {i j pos} : PE X (.Constant (.int i) j pos) (eOf C (dC (.int i))) := A7n D7 fun _ _ => .int i
theorem A88 {b j pos} : PE X (.Constant (.bool b) j pos) (eOf C (dC (.bool b))) := A7n B82 fun _ _ => .bl b
theorem J2 {j pos} : PE X (.Constant .none j pos) (eOf C (dC .none)) := A7n A42 fun _ _ => .non
theorem C1e {x j pos} : PE X (.Constant (.str x) j pos) (eOf C (dC (.str x))) := A7n B3n fun _ _ => .str x
theorem E5 {e : Expr} {i : Int} (h : PE X e (tC (.int i))) : PE X e (eOf C (dC (.int i))) := A7n h fun _ _ => .int i
theorem K7 {α : Type} {o : Option (Option α)} {v : α} (h : o.join = some v) : o = some (some v) := by
 cases o with
 | none => cases h
 | some q => exact congrArg some h
def m7 (i : Nat)  (ρ : List Sl) (Q : PyData -> List Sl -> Prop) : Prop := match ρ[i]? with
 | some (.sh d) => Q d ρ
 | some (.ow ds) => Q (.list ds) (ρ.set i (.sh (.list ds)))
 | _ => False
theorem A1 {e : Expr} {i : Nat} (h : PE X e (S1 i)) : PE X e (eOf C (m7 i)) := PE.wk h fun σ H Q zz3 => el3 zz3 fun ρ P Qd zz4 ht k => zz4.elim fun col r => by
 unfold m7 at ht
 split at ht
 ·rename_i d e
  obtain ⟨v, e1, t⟩ := r.sl i _ e
  exact ⟨v, K7 e1, k _ _ _ _ ⟨col, r.push t⟩ ht⟩
 ·rename_i ds e
  obtain ⟨a, e1, R⟩ := r.freeze e
  exact ⟨_, K7 e1, k _ _ _ _ R ht⟩
 ·exact ht.elim
def N6 (ρ : List Sl) (i : Nat) : Option PyData := match ρ[i]? with
 | some (.sh d) => some d
 | some (.ow ds) => some (.list ds)
 | some (.bo ds) => some (.list ds)
 | _ => none
inductive Red (col : Addr -> Nat) (H : Hp) : V -> PyData -> Prop
 | th {v d} : ThV (Z col) H v d -> Red col H v d
 | ls {a vs ds} : H a = some (.lst vs) -> B4 (Z col) H vs ds -> Red col H (.ref a) (.list ds)
theorem C0.slot {col : Addr -> Nat} {ρ : List Sl} {σ : St} {P : List Pe} {H : Hp} (r : C0 C col ρ σ P H) {i : Nat} {d : PyData} (h : N6 ρ i = some d) : ∃ v, σ[i]? = some (some v) /\ Red col H v d := by
 unfold N6 at h
 split at h
 ·rename_i d' e
  cases h
  obtain ⟨v, e1, t⟩ := r.sl i _ e
  exact ⟨v, K7 e1, .th t⟩
 ·rename_i ds e
  cases h
  obtain ⟨a, vs, e1, _, _, e2, t⟩ := r.sl i _ e
  exact ⟨_, K7 e1, .ls e2 t⟩
 ·rename_i ds e
  cases h
  obtain ⟨a, vs, e1, _, _, e2, t⟩ := r.sl i _ e
  exact ⟨_, K7 e1, .ls e2 t⟩
 ·cases h
theorem Red.lst {col : Addr -> Nat} {H : Hp} {v : V} {ds : List PyData} (h : Red col H v (.list ds)) : ∃ a vs, v = .ref a /\ H a = some (.lst vs) /\ B4 (Z col) H vs ds := by
 cases h with
 | th t => cases t with
  | lst _ e t => exact ⟨_, _, rfl, e, t⟩
 | ls e t => exact ⟨_, _, rfl, e, t⟩
theorem Red.tup {col : Addr -> Nat} {H : Hp} {v : V} {ds : List PyData} (h : Red col H v (.tuple ds)) : ∃ a vs, v = .ref a /\ H a = some (.tup vs) /\ B4 (Z col) H vs ds := by
 cases h with
 | th t => cases t with
  | tup _ e t => exact ⟨_, _, rfl, e, t⟩
abbrev G2 := PyData -> PyData -> (PyData -> Prop) -> Prop
def P4 (C : DC) (r : R2) (g : G2) : Prop :=
 ∀ {ρ : List Sl} {σ : St} {P : List Pe} {H : Hp} {v w : V} {a b : PyData} {Qd : PyData -> Prop} {Q : VK}, Rel C ρ σ (.v w b :: .v v a :: P) H -> g a b Qd -> (∀ u d H', Rel C ρ σ (.v u d :: P) H' -> Qd d -> Q u H') -> r v w H Q
def dOp (g : G2) (ta tb : DE)  (ρ : List Sl) (Q : PyData -> List Sl -> Prop) : Prop := ta ρ fun a ρ1 => tb ρ1 fun b ρ2 => g a b fun d => Q d ρ2
theorem B1o {r : R2} {g : G2} {ta tb : DE} (hg : P4 C r g) {σ : St} {H : Hp} {Q : VK} (h : eOf C (dOp g ta tb) σ H Q) : tOp r (eOf C ta) (eOf C tb) σ H Q := by
 obtain ⟨ρ, P, Qd, R, ht, k⟩ := h
 exact ⟨ρ, P, _, R, ht, fun v a ρ1 H1 R1 h1 => ⟨ρ1, _, _, R1, h1, fun w b ρ2 H2 R2 h2 => hg R2 h2 fun u d H' R' q => k u d ρ2 H' R' q⟩⟩
variable {a b : Expr} {ta tb : DE} {pos : Pos}
theorem E3 {op : Operator} {r : R2} {g : G2} (ho : OpR X (binaryOp op) r) (hg : P4 C r g) (ha : PE X a (eOf C ta)) (hb : PE X b (eOf C tb)) : PE X (.BinOp a op b pos) (eOf C (dOp g ta tb)) := PE.wk (M4 ho ha hb) fun _ _ _ h => B1o hg h
theorem m8 {op : CmpOp} {r : R2} {g : G2} (ho : OpR X (compareOp op) r) (hg : P4 C r g) (ha : PE X a (eOf C ta)) (hb : PE X b (eOf C tb)) (hm : behindInMarks op b = false) : PE X (.Compare a [op] [b] pos) (eOf C (dOp g ta tb)) := PE.wk (B9x ho ha hb hm) fun _ _ _ h => B1o hg h
def dT (t : DE)  (ρ : List Sl) (Q : Bool -> List Sl -> Prop) : Prop := t ρ fun d ρ' => match d with
 | .bool b => Q b ρ'
 | _ => False
theorem A89 {t : DE} {σ : St} {H : Hp} {Q : Bool -> Hp -> Prop} (h : cOf C (dT t) σ H Q) : eOf C t σ H fun x H' => ∃ k, x = .bl k /\ Q k H' := by
 obtain ⟨ρ, P, Qd, R, ht, k⟩ := h
 refine ⟨ρ, P, _, R, ht, fun v d ρ' H' R' q => ?_⟩
 split at q
 ·obtain ⟨col, r⟩ := R'
  have t := r.pd _ C6
  cases (show ThV (Z col) H' v (.bool _) from t)
  exact ⟨_, rfl, k _ _ _ (Rel.pop ⟨col, r⟩) q⟩
 ·exact q.elim
theorem V0 {e : Expr} {t : DE} (h : PE X e (eOf C t)) (he : ∀ whole, isTrue e X.env whole = (do let v <- whole; standAt e.pos; holding [v] (truthy v)) := by intro _; rfl) : PT X e (cOf C (dT t)) := PT.wk (B3p h he) fun _ _ _ h => A89 h
theorem G0 {op : CmpOp} {r : R2} {g : G2} (ho : OpR X (compareOp op) r) (hg : P4 C r g) (ha : PE X a (eOf C ta)) (hb : PE X b (eOf C tb)) (hm : behindInMarks op b = false) : PT X (.Compare a [op] [b] pos) (cOf C (dT (dOp g ta tb))) :=
 PT.wk (b7 ho ha hb hm) fun σ H Q h => B1o hg (A89 h)
def x9 (t : DT)  (ρ : List Sl) (Q : Bool -> List Sl -> Prop) : Prop := t ρ fun b ρ' => Q (!b) ρ'
theorem V1 {t : DT} (h : PT X a (cOf C t)) : PT X (.UnaryOp .Not a pos) (cOf C (x9 t)) := PT.wk (B87 h) fun _ _ _ zz5 => el3 zz5 fun ρ P _ R ht k => ⟨ρ, P, _, R, ht, fun b ρ' H' R' q => k _ _ _ R' q⟩
def y4 (t u : DT)  (ρ : List Sl) (Q : Bool -> List Sl -> Prop) : Prop := t ρ fun b ρ' => if b = true then u ρ' Q else Q false ρ'
def dOr (t u : DT)  (ρ : List Sl) (Q : Bool -> List Sl -> Prop) : Prop := t ρ fun b ρ' => if b = true then Q true ρ' else u ρ' Q
variable {t u : DT} {P2 : List Expr}
theorem A5g (h : PT X a (cOf C t)) : PW X (.BoolOp .And [a] pos) (cOf C t) := B3q h
theorem X5 (h : PT X a (cOf C t)) : PW X (.BoolOp .Or [a] pos) (cOf C t) := B85 h
theorem A14 (ha : PT X a (cOf C t)) (hb : PW X (.BoolOp .And (b :: P2) pos) (cOf C u)) : PW X (.BoolOp .And (a :: b :: P2) pos) (cOf C (y4 t u)) := PW.wk (B3r ha hb) fun _ _ _ zz6 => el3 zz6 fun ρ P Qd R ht k =>
 ⟨ρ, P, _, R, ht, fun b ρ' H' R' q => by
  cases b with
  | true => exact ⟨ρ', P, Qd, R', by simpa using q, k⟩
  | false => exact k _ _ _ R' (by simpa using q)⟩
theorem S5 (ha : PT X a (cOf C t)) (hb : PW X (.BoolOp .Or (b :: P2) pos) (cOf C u)) : PW X (.BoolOp .Or (a :: b :: P2) pos) (cOf C (dOr t u)) := PW.wk (B86 ha hb) fun _ _ _ zz7 => el3 zz7 fun ρ P Qd R ht k =>
 ⟨ρ, P, _, R, ht, fun b ρ' H' R' q => by
  cases b with
  | true => exact k _ _ _ R' (by simpa using q)
  | false => exact ⟨ρ', P, Qd, R', by simpa using q, k⟩⟩
def dBV (t : DE) (f : Bool -> List Sl -> Prop)  (ρ : List Sl) : Prop := t ρ fun d ρ' => match d with
 | .bool b => f b ρ'
 | _ => False
def y7 (ta tb : DE)  (ρ : List Sl) (Q : PyData -> List Sl -> Prop) : Prop := dBV ta (fun b ρ' => if b = true then tb ρ' Q else Q (.bool false) ρ') ρ
def y8 (ta tb : DE)  (ρ : List Sl) (Q : PyData -> List Sl -> Prop) : Prop := dBV ta (fun b ρ' => if b = true then Q (.bool true) ρ' else tb ρ' Q) ρ
def y9 (ta : DE)  (ρ : List Sl) (Q : PyData -> List Sl -> Prop) : Prop := dBV ta (fun b ρ' => Q (.bool (!b)) ρ') ρ
theorem B1p {f : Bool -> List Sl -> Prop} {ρ : List Sl} {σ : St} {P : List Pe} {H : Hp} {Q : VK} (R : Rel C ρ σ P H) (ht : dBV ta f ρ) (k : ∀ c ρ' H', Rel C ρ' σ P H' -> f c ρ' -> Q (.bl c) H') : eOf C ta σ H Q := by
 refine ⟨ρ, P, _, R, ht, fun v d ρ' H' R' q => ?_⟩
 split at q
 ·obtain ⟨col, r⟩ := R'
  have t := r.pd _ C6
  cases (show ThV (Z col) H' v (.bool _) from t)
  exact k _ _ _ (Rel.pop ⟨col, r⟩) q
 ·exact q.elim
theorem A7o {op} (h : PE X a (eOf C ta)) : PE X (.BoolOp op [a] pos) (eOf C ta) := B9b h
theorem A9a (ha : PE X a (eOf C ta)) (hb : PE X (.BoolOp .And (b :: P2) pos) (eOf C tb)) : PE X (.BoolOp .And (a :: b :: P2) pos) (eOf C (y7 ta tb)) := PE.wk (B9c ha hb) fun _ _ _ zz8 => el3 zz8 fun _ P Qd R ht k =>
 B1p R ht fun c ρ' H' R' q => ⟨c, rfl, by
  cases c with
  | true => exact L5 ⟨ρ', P, Qd, R', by simpa using q, k⟩
  | false =>
   obtain ⟨col, r⟩ := R'
   exact G9 (k _ _ _ _ ⟨col, r.push (.bl false)⟩ (by simpa using q))⟩
theorem C1f (ha : PE X a (eOf C ta)) (hb : PE X (.BoolOp .Or (b :: P2) pos) (eOf C tb)) : PE X (.BoolOp .Or (a :: b :: P2) pos) (eOf C (y8 ta tb)) := PE.wk (B9d ha hb) fun _ _ _ zz9 => el3 zz9 fun _ P Qd R ht k =>
 B1p R ht fun c ρ' H' R' q => ⟨c, rfl, by
  cases c with
  | true =>
   obtain ⟨col, r⟩ := R'
   exact L5 (k _ _ _ _ ⟨col, r.push (.bl true)⟩ (by simpa using q))
  | false => exact G9 ⟨ρ', P, Qd, R', by simpa using q, k⟩⟩
theorem B46 (ha : PE X a (eOf C ta)) : PE X (.UnaryOp .Not a pos) (eOf C (y9 ta)) := PE.wk (B9e ha) fun _ _ _ zz10 => el3 zz10 fun _ _ _ R ht k =>
 B1p R ht fun c ρ' H' zz11 q => zz11.elim fun col r => ⟨c, rfl, k _ _ _ _ ⟨col, r.push (.bl _)⟩ q⟩
def z4 (ta : DE)  (ρ : List Sl) (Q : PyData -> List Sl -> Prop) : Prop := ta ρ fun d ρ' => match d with
 | .int i => Q (.int (-i)) ρ'
 | _ => False
theorem A0a (ha : PE X a (eOf C ta)) : PE X (.UnaryOp .USub a pos) (eOf C (z4 ta)) := PE.wk (B32 B33 ha) fun _ _ _ zz12 => el3 zz12 fun ρ P _ R ht k => ⟨ρ, P, _, R, ht, fun v d ρ' H' R' q => by
 split at q
 ·obtain ⟨col, r⟩ := R'
  have t := r.pd _ C6
  cases (show ThV (Z col) H' v (.int _) from t)
  exact ⟨_, rfl, k _ _ _ _ ⟨col, (r.sub fun _ h => C3 _ h).push (.int _)⟩ q⟩
 ·exact q.elim⟩
def dIf (c : DT) (ta tb : DE)  (ρ : List Sl) (Q : PyData -> List Sl -> Prop) : Prop := c ρ fun b ρ' => if b = true then ta ρ' Q else tb ρ' Q
theorem B47 {c : Expr} (hc : PT X c (cOf C t)) (ha : PE X a (eOf C ta)) (hb : PE X b (eOf C tb)) : PE X (.IfExp c a b pos) (eOf C (dIf t ta tb)) := PE.wk (B3s hc ha hb) fun _ _ _ zz13 => el3 zz13 fun ρ P Qd R ht k =>
 ⟨ρ, P, _, R, ht, fun b ρ' H' R' q => by
  cases b with
  | true => exact L5 ⟨ρ', P, Qd, R', by simpa using q, k⟩
  | false => exact G9 ⟨ρ', P, Qd, R', by simpa using q, k⟩⟩
def d8 (g g' : G2) (ta tb tc : DE)  (ρ : List Sl) (Q : PyData -> List Sl -> Prop) : Prop := ta ρ fun a ρ1 => tb ρ1 fun b ρ2 => g a b fun z => match z with
 | .bool k => if k = true then tc ρ2 fun c ρ3 => g' b c fun d => Q d ρ3 else Q (.bool false) ρ2
 | _ => False
end
def gI (c : Int -> Int -> Prop) (f : Int -> Int -> PyData)  (a b : PyData) (Q : PyData -> Prop) : Prop := match a, b with
 | .int i, .int j => c i j /\ Q (f i j)
 | _, _ => False
def gI0 (f : Int -> Int -> PyData)  (a b : PyData) (Q : PyData -> Prop) : Prop := match a, b with
 | .int i, .int j => Q (f i j)
 | _, _ => False
section
variable {C : DC} {X : Cx}
theorem th2 {ρ : List Sl} {σ : St} {P : List Pe} {H : Hp} {v w : V} {a b : PyData} (r : Rel C ρ σ (.v w b :: .v v a :: P) H) : ∃ col, C0 C col ρ σ P H /\ ThV (Z col) H v a /\ ThV (Z col) H w b := by
 obtain ⟨col, r⟩ := r
 exact ⟨col, r.sub fun _ h => C3 _ (C3 _ h), r.pd _ (C3 _ C6), r.pd _ C6⟩
theorem A5h {f : Int -> Int -> V} {g : Int -> Int -> PyData} (h : ∀ i j F H, ThV F H (f i j) (g i j)) : P4 C (rI0 f) (gI0 g) := by
 intro ρ σ P H v w a b Qd Q R hg k
 unfold gI0 at hg
 split at hg
 ·obtain ⟨col, r, t1, t2⟩ := th2 R
  cases t1; cases t2
  exact ⟨_, _, rfl, rfl, k _ _ _ ⟨col, r.push (h _ _ _ _)⟩ hg⟩
 ·exact hg.elim
theorem A7p {c : Int -> Int -> Prop} {f : Int -> Int -> V} {g : Int -> Int -> PyData} (h : ∀ i j F H, ThV F H (f i j) (g i j)) : P4 C (rI c f) (gI c g) := by
 intro ρ σ P H v w a b Qd Q R hg k
 unfold gI at hg
 split at hg
 ·obtain ⟨col, r, t1, t2⟩ := th2 R
  cases t1; cases t2
  exact ⟨_, _, rfl, rfl, hg.1, k _ _ _ ⟨col, r.push (h _ _ _ _)⟩ hg.2⟩
 ·exact hg.elim
def A0b : G2 := gI0 fun i j => .int (i + j)
def A0c : G2 := gI0 fun i j => .int (i - j)
def A0d : G2 := gI A46 fun i j => .int (i * j)
def A0e : G2 := gI (fun _ j => 0 < j) fun i j => .int (i % j)
def A0f : G2 := gI B1g fun i j => .int (i / j)
def A0g : G2 := gI A45 fun i j => .int (i ^ j.toNat)
def gLt : G2 := gI0 fun i j => .bool (decide (i < j))
def gLe : G2 := gI0 fun i j => .bool (decide (i <= j))
def gGt : G2 := gI0 fun i j => .bool (decide (j < i))
def gGe : G2 := gI0 fun i j => .bool (decide (j <= i))
theorem N4 : P4 C (rI0 (fun i j => .int (i + j))) A0b := A5h (f := fun i j => .int (i + j)) fun _ _ _ _ => .int _
theorem A0h : P4 C (rI0 (fun i j => .int (i - j))) A0c := A5h (f := fun i j => .int (i - j)) fun _ _ _ _ => .int _
theorem A15 : P4 C (rI A46 (fun i j => .int (i * j))) A0d := A7p (f := fun i j => .int (i * j)) fun _ _ _ _ => .int _
theorem B48 : P4 C (rI (fun _ j => 0 < j) (fun i j => .int (i % j))) A0e := A7p (f := fun i j => .int (i % j)) fun _ _ _ _ => .int _
theorem B49 : P4 C (rI B1g (fun i j => .int (i / j))) A0f := A7p (f := fun i j => .int (i / j)) fun _ _ _ _ => .int _
theorem A0i : P4 C (rI A45 (fun i j => .int (i ^ j.toNat))) A0g := A7p (f := fun i j => .int (i ^ j.toNat)) fun _ _ _ _ => .int _
theorem d9 : P4 C (rI0 (fun i j => .bl (decide (i < j)))) gLt := A5h (f := fun i j => .bl (decide (i < j))) fun _ _ _ _ => .bl _
theorem A0j : P4 C (rI0 (fun i j => .bl (decide (j < i)))) gGt := A5h (f := fun i j => .bl (decide (j < i))) fun _ _ _ _ => .bl _
theorem C1g : P4 C (rI0 (fun i j => .bl (decide (j <= i)))) gGe := A5h (f := fun i j => .bl (decide (j <= i))) fun _ _ _ _ => .bl _
def gEq (neg : Bool)  (a b : PyData) (Q : PyData -> Prop) : Prop := a.canLay0 = true /\ b.canLay0 = true /\ min a.depth b.depth <= 64 /\ Q (.bool (if neg then !PyData.eqv a b else PyData.eqv a b))
theorem N8 {K : A3} {neg : Bool} : P4 C (B1i K neg) (gEq neg) := by
 intro ρ σ P H v w a b Qd Q R hg k
 obtain ⟨col, r, t1, t2⟩ := th2 R
 exact ⟨a, b, t1.dat hg.1, t2.dat hg.2.1, hg.1, hg.2.1, hg.2.2.1, k _ _ _ ⟨col, r.push (.bl _)⟩ hg.2.2.2⟩
def isN : PyData -> Bool
 | .none => true
 | _ => false
def Z0 (neg : Bool)  (a b : PyData) (Q : PyData -> Prop) : Prop := match b with
 | .none => Q (.bool (if neg then !isN a else isN a))
 | _ => False
theorem A7q {F : Addr -> Prop} {H : Hp} {v : V} {a : PyData} (t : ThV F H v a) : decide (v = V.non) = isN a := by
 cases t <;> simp [isN]
theorem V6 : P4 C (fun x y H Q => y = .non /\ Q (.bl (decide (x = .non))) H) (Z0 false) := by
 intro ρ σ P H v w a b Qd Q R hg k
 unfold Z0 at hg
 split at hg
 ·obtain ⟨col, r, t1, t2⟩ := th2 R
  cases t2
  refine ⟨rfl, k _ _ _ ⟨col, r.push (d := .bool (isN a)) ?_⟩ hg⟩
  rw [A7q t1]; exact .bl _
 ·exact hg.elim
theorem B1q : P4 C (fun x y H Q => y = .non /\ Q (.bl (!decide (x = .non))) H) (Z0 true) := by
 intro ρ σ P H v w a b Qd Q R hg k
 unfold Z0 at hg
 split at hg
 ·obtain ⟨col, r, t1, t2⟩ := th2 R
  cases t2
  refine ⟨rfl, k _ _ _ ⟨col, r.push (d := .bool (!isN a)) ?_⟩ hg⟩
  rw [A7q t1]; exact .bl _
 ·exact hg.elim
end
section
variable {X : Cx} {C : DC} {a b c : Expr} {ta tb tc : DE} {pos : Pos}
theorem B5a {f f' : Int -> Int -> Bool} {σ : St} {H : Hp} {Q : VK} (h : eOf C (d8 (gI0 fun i j => .bool (f i j)) (gI0 fun i j => .bool (f' i j)) ta tb tc) σ H Q) :
  B00 (rI0 fun i j => .bl (f i j)) (rI0 fun i j => .bl (f' i j)) (eOf C ta) (eOf C tb) (eOf C tc) σ H Q := by
 obtain ⟨ρ, P, Qd, R, ht, k⟩ := h
 exact ⟨ρ, P, _, R, ht, fun v x ρ1 H1 R1 h1 => ⟨ρ1, _, _, R1, h1, fun w y ρ2 H2 R2 h2 => by
  obtain ⟨col, r, t1, t2⟩ := th2 R2
  cases x with
  | int i =>
   cases y with
   | int j =>
    cases t1; cases t2
    refine ⟨i, j, rfl, rfl, f i j, rfl, ?_⟩
    have h2' : if f i j = true then tc ρ2 (fun c ρ3 => gI0 (fun i j => .bool (f' i j)) (.int j) c fun d => Qd d ρ3) else Qd (.bool false) ρ2 := h2
    cases e : f i j with
    | true =>
     rw [e] at h2'
     refine L5 ⟨ρ2, P, _, ⟨col, r⟩, by simpa using h2', fun u z ρ3 H3 R3 h3 => ?_⟩
     obtain ⟨col3, r3⟩ := R3
     have t3 := r3.pd _ C6
     cases z with
     | int l =>
      cases (show ThV (Z col3) H3 u (.int l) from t3)
      exact ⟨j, l, rfl, rfl, k _ _ _ _ ⟨col3, (r3.sub fun _ h => C3 _ h).push (.bl _)⟩ h3⟩
     | _ => exact h3.elim
    | false =>
     rw [e] at h2'
     exact G9 (k _ _ _ _ ⟨col, r.push (.bl false)⟩ (by simpa using h2'))
   | _ => exact h2.elim
  | _ => exact h2.elim⟩⟩
theorem C1h {op op' : CmpOp} {f f' : Int -> Int -> Bool} (ho : OpR X (compareOp op) (rI0 fun i j => .bl (f i j))) (ho' : OpR X (compareOp op') (rI0 fun i j => .bl (f' i j))) (ha : PE X a (eOf C ta)) (hb : PE X b (eOf C tb)) (hc : PE X c (eOf C tc))
  (hm : lastMarks [op, op'] [b, c] = false := by with_unfolding_all rfl) : PE X (.Compare a [op, op'] [b, c] pos) (eOf C (d8 (gI0 fun i j => .bool (f i j)) (gI0 fun i j => .bool (f' i j)) ta tb tc)) := PE.wk (B9y ho ho' ha hb hc hm) fun _ _ _ h => B5a h
theorem A9b {op op' : CmpOp} {f f' : Int -> Int -> Bool} (ho : OpR X (compareOp op) (rI0 fun i j => .bl (f i j))) (ho' : OpR X (compareOp op') (rI0 fun i j => .bl (f' i j))) (ha : PE X a (eOf C ta)) (hb : PE X b (eOf C tb)) (hc : PE X c (eOf C tc))
  (hm : lastMarks [op, op'] [b, c] = false := by with_unfolding_all rfl) : PT X (.Compare a [op, op'] [b, c] pos) (cOf C (dT (d8 (gI0 fun i j => .bool (f i j)) (gI0 fun i j => .bool (f' i j)) ta tb tc))) := PT.wk (B9z ho ho' ha hb hc hm) fun _ _ _ h => B5a (A89 h)
end
end My
namespace My
open PySem L2
section
variable {X : Cx} {C : DC} {e a b : Expr} {es : List Expr} {t ta tb : DE} {u : DF} {pos : Pos}
theorem B5b {P P' : List Pe} {x : Pe} (h : ∀ p ∈ P, p ∈ P') : ∀ p ∈ x :: P, p ∈ x :: P' := fun p hp => (O7.mp hp).elim (fun e => e ▸ C6) fun hp => C3 _ (h p hp)
def A0k  (ρ : List Sl) (Q : List PyData -> List Sl -> Prop) : Prop := Q [] ρ
def A0l (t : DE) (u : DF)  (ρ : List Sl) (Q : List PyData -> List Sl -> Prop) : Prop := t ρ fun d ρ1 => u ρ1 fun ds ρ2 => Q (d :: ds) ρ2
theorem D0 : PA X [] (vOf C A0k) := PA.wk D3 fun _ _ _ zz1 => el3 zz1 fun _ _ _ R ht k => k [] [] _ _ _ R (fun _ h => h) .nil ht
theorem A7 (ha : PE X e (eOf C t)) (hr : PA X es (vOf C u)) (hs : starEach (e :: es) X.env = (false, eval e X.env) :: starEach es X.env := by rfl) : PA X (e :: es) (vOf C (A0l t u)) := PA.wk (A9 ha hr hs) fun _ _ _ zz2 => el3 zz2 fun ρ P _ R ht k =>
 ⟨ρ, P, _, R, ht, fun _ _ ρ1 _ R1 h1 => ⟨ρ1, _, _, R1, h1, fun _ _ _ _ _ R2 s2 p2 h2 => k _ _ _ _ _ R2 (fun p hp => s2 p (C3 _ hp)) (.cons (s2 _ C6) p2) h2⟩⟩
def A0m (t : DF)  (ρ : List Sl) (Q : PyData -> List Sl -> Prop) : Prop := t ρ fun ds ρ' => ds.length <= 1000 /\ Q (.tuple ds) ρ'
theorem P5 {x1} (h : PA X es (vOf C u)) : PE X (.Tuple es x1 pos) (eOf C (A0m u)) := PE.wk (A49 h) fun _ _ _ zz3 => el3 zz3 fun ρ P _ R ht k => ⟨ρ, P, _, R, ht, fun vs ds ρ' P' H' zz4 s p q => zz4.elim fun col r =>
 ⟨by rw [(p.th r).len]; exact A8k (A84 q.1), fun b hb => k _ _ _ _ ⟨col, (r.tup (p.th r) hb).sub (B5b s)⟩ q.2⟩⟩
def A0n (t : DF)  (ρ : List Sl) (Q : List PyData -> List Sl -> Prop) : Prop := t ρ fun ds ρ' => ds.length <= 1000 /\ Q ds ρ'
theorem M1 (h : PA X es (vOf C u)) : PE X (.List es pos) (fOf C (A0n u)) := PE.wk (B05 h) fun _ _ _ zz5 => el3 zz5 fun ρ P _ R ht k => ⟨ρ, P, _, R, ht, fun vs ds ρ' P' H' zz6 s p q => zz6.elim fun col r =>
 ⟨by rw [(p.th r).len]; exact A8k (A84 q.1), fun b hb => k _ _ _ _ _ ⟨col, r.sub s, p.th r⟩ hb q.2⟩⟩
def dF (t : DF)  (ρ : List Sl) (Q : PyData -> List Sl -> Prop) : Prop := t ρ fun ds ρ' => Q (.list ds) ρ'
theorem J7 (h : PE X e (fOf C u)) : PE X e (eOf C (dF u)) := PE.wk h fun _ _ _ zz7 => el3 zz7 fun ρ P _ R ht k => ⟨ρ, P, _, R, ht, fun _ _ _ _ _ zz8 hp q => el2 zz8 fun col r t => k _ _ _ _ ⟨col, r.lst t hp⟩ q⟩
def ixD (a b : PyData) : Option PyData := match a, b with
 | .list xs, .int i => atI xs i
 | .tuple xs, .int i => atI xs i
 | _, _ => none
theorem A0o {F : Addr -> Prop} {H : Hp} {vs : List V} {ds : List PyData} {i : Int} {d : PyData} (t : B4 F H vs ds) (h : atI ds i = some d) : ∃ v, atI vs i = some v /\ ThV F H v d := by
 unfold atI at h ⊢
 rw [t.len]
 cases q : ixN ds.length i with
 | none => rw [q] at h; cases h
 | some j =>
  rw [q] at h
  exact t.at h
theorem B5c {K : A3} {col : Addr -> Nat} {H : Hp} {v w : V} {a b d : PyData} (t1 : Red col H v a) (t2 : ThV (Z col) H w b) (h : ixD a b = some d) : ∃ u, ThV (Z col) H u d /\ ∀ Q : VK, Q u H -> rIx K v w H Q := by
 unfold ixD at h
 split at h
 ·cases t2
  obtain ⟨p, vs, rfl, e, t⟩ := t1.lst
  obtain ⟨u, hu, tu⟩ := A0o t h
  exact ⟨u, tu, fun Q q => .inl ⟨p, vs, _, u, rfl, rfl, SqL.of e, hu, q⟩⟩
 ·cases t2
  obtain ⟨p, vs, rfl, e, t⟩ := t1.tup
  obtain ⟨u, hu, tu⟩ := A0o t h
  exact ⟨u, tu, fun Q q => .inr (.inl ⟨p, vs, _, u, rfl, rfl, SqT.of e, hu, q⟩)⟩
 ·cases h
def dIx (ta tb : DE)  (ρ : List Sl) (Q : PyData -> List Sl -> Prop) : Prop := ta ρ fun a ρ1 => tb ρ1 fun b ρ2 => bnd (ixD a b) fun d => Q d ρ2
theorem L6 (ha : PE X a (eOf C ta)) (hb : PE X b (eOf C tb)) (hs : A81 b) : PE X (.Subscript a b pos) (eOf C (dIx ta tb)) := PE.wk (J0 L9 ha hb hs) fun _ _ _ zz9 => el3 zz9 fun ρ P _ R ht k => ⟨ρ, P, _, R, ht, fun v _ ρ1 H1 R1 h1 => ⟨ρ1, _, _, R1, h1, fun w _ ρ2 H2 R2 h2 => by
 obtain ⟨d, hd, q⟩ := L0 h2
 obtain ⟨col, r, t1, t2⟩ := th2 R2
 obtain ⟨u, tu, f⟩ := B5c (K := X.K) (.th t1) t2 hd
 exact f _ (k _ _ _ _ ⟨col, r.push tu⟩ q)⟩⟩
def A0p (i : Nat) (tb : DE)  (ρ : List Sl) (Q : PyData -> List Sl -> Prop) : Prop := bnd (N6 ρ i) fun _ => tb ρ fun b ρ2 => bnd (N6 ρ2 i) fun a => bnd (ixD a b) fun d => Q d ρ2
theorem C2 {i : Nat} (ha : PE X a (S1 i)) (hb : PE X b (eOf C tb)) (hs : A81 b) : PE X (.Subscript a b pos) (eOf C (A0p i tb)) := PE.wk (J0 L9 ha hb hs) fun σ H Q zz10 => el3 zz10 fun ρ P Qd zz11 ht k => zz11.elim fun col0 r0 => by
 obtain ⟨_, h0, ht⟩ := L0 ht
 obtain ⟨v, ev, _⟩ := r0.slot h0
 refine ⟨v, ev, ρ, P, _, ⟨col0, r0⟩, ht, fun w b ρ2 H2 R2 h2 => ?_⟩
 obtain ⟨a, ha, h2⟩ := L0 h2
 obtain ⟨d, hd, q⟩ := L0 h2
 obtain ⟨col, r⟩ := R2
 obtain ⟨v', ev', t1⟩ := r.slot ha
 rw [ev] at ev'
 cases ev'
 obtain ⟨u, tu, f⟩ := B5c (K := X.K) t1 (r.pd _ C6) hd
 exact f _ (k _ _ _ _ ⟨col, (r.sub fun _ h => C3 _ h).push tu⟩ q)
def A5i (C : DC) (r : List V -> Hp -> VK -> Prop) (g : List PyData -> (PyData -> Prop) -> Prop) : Prop :=
 ∀ {ρ : List Sl} {σ : St} {P : List Pe} {col : Addr -> Nat} {H : Hp} {vs : List V} {ds : List PyData} {Qd : PyData -> Prop} {Q : VK}, C0 C col ρ σ P H -> B4 (Z col) H vs ds -> g ds Qd -> (∀ u d H', Rel C ρ σ (.v u d :: P) H' -> Qd d -> Q u H') -> r vs H Q
def dCb (g : List PyData -> (PyData -> Prop) -> Prop) (u : DF)  (ρ : List Sl) (Q : PyData -> List Sl -> Prop) : Prop := u ρ fun ds ρ' => g ds fun d => Q d ρ'
theorem P6 {r : List V -> Hp -> VK -> Prop} {g : List PyData -> (PyData -> Prop) -> Prop} (hr : A5i C r g) (h : PE X e (tCB r (vOf C u))) : PE X e (eOf C (dCb g u)) := PE.wk h fun _ _ _ zz12 => el3 zz12 fun ρ P _ R ht k => ⟨ρ, P, _, R, ht, fun vs ds ρ' P' H' zz13 s p q => zz13.elim fun col r =>
 hr (r.sub s) (p.th r) q fun u d H2 R2 q2 => k _ _ _ _ R2 q2⟩
theorem A5j {F : Addr -> Prop} {H : Hp} {vs : List V} {d : PyData} (t : B4 F H vs [d]) : ∃ v, vs = [v] /\ ThV F H v d := by
 cases t with
 | cons x y => cases y; exact ⟨_, rfl, x⟩
theorem X6 {F : Addr -> Prop} {H : Hp} {vs : List V} {d d' : PyData} (t : B4 F H vs [d, d']) : ∃ v w, vs = [v, w] /\ ThV F H v d /\ ThV F H w d' := by
 cases t with
 | cons x y =>
  obtain ⟨w, rfl, z⟩ := A5j y
  exact ⟨_, w, rfl, x, z⟩
def lenD : PyData -> Option Nat
 | .list xs => some xs.length
 | .tuple xs => some xs.length
 | _ => none
def m9  (ds : List PyData) (Q : PyData -> Prop) : Prop := match ds with
 | [d] => bnd (lenD d) fun n => Q (.int n)
 | _ => False
abbrev A9c (K : A3) : List V -> Hp -> VK -> Prop := fun xs H Q => ∃ p ys, xs = [.ref p] /\ (SqL K H p ys \/ SqT K H p ys) /\ Q (.int ys.length) H
theorem B5d {K : A3} {col : Addr -> Nat} {H : Hp} {v : V} {a : PyData} {n : Nat} {Q : VK} (t : Red col H v a) (h : lenD a = some n) (q : Q (.int n) H) : A9c K [v] H Q := by
 cases a with
 | list ds =>
  cases h
  obtain ⟨p, vs, rfl, e, t⟩ := t.lst
  exact ⟨p, vs, rfl, .inl (SqL.of e), by rw [t.len]; exact q⟩
 | tuple ds =>
  cases h
  obtain ⟨p, vs, rfl, e, t⟩ := t.tup
  exact ⟨p, vs, rfl, .inr (SqT.of e), by rw [t.len]; exact q⟩
 | _ => cases h
theorem A9d {K : A3} : A5i C (A9c K) m9 := by
 intro ρ σ P col H vs ds Qd Q r t g k
 unfold m9 at g
 split at g
 ·obtain ⟨v, rfl, t1⟩ := A5j t
  obtain ⟨n, hn, q⟩ := L0 g
  exact B5d (.th t1) hn (k _ _ _ ⟨col, r.push (.int _)⟩ q)
 ·exact g.elim
def A0q (i : Nat)  (ρ : List Sl) (Q : PyData -> List Sl -> Prop) : Prop := bnd (N6 ρ i) fun a => bnd (lenD a) fun n => Q (.int n) ρ
theorem e7 {i : Nat} {K : A3} (h : PE X e (tCB (A9c K) (P3 (S1 i) T8))) : PE X e (eOf C (A0q i)) := PE.wk h fun _ _ _ zz14 => el3 zz14 fun ρ P _ zz15 ht k => zz15.elim fun col r => by
 obtain ⟨a, ha, ht⟩ := L0 ht
 obtain ⟨n, hn, q⟩ := L0 ht
 obtain ⟨v, ev, t⟩ := r.slot ha
 exact ⟨v, ev, B5d t hn (k _ _ _ _ ⟨col, r.push (.int _)⟩ q)⟩
def gI2 (f : Int -> Int -> Int)  (ds : List PyData) (Q : PyData -> Prop) : Prop := match ds with
 | [.int i, .int j] => Q (.int (f i j))
 | _ => False
theorem B5e {f : Int -> Int -> Int} : A5i C (fun xs H Q => ∃ i j, xs = [.int i, .int j] /\ Q (.int (f i j)) H) (gI2 f) := by
 intro ρ σ P col H vs ds Qd Q r t g k
 unfold gI2 at g
 split at g
 ·obtain ⟨v, w, rfl, t1, t2⟩ := X6 t
  cases t1; cases t2
  exact ⟨_, _, rfl, k _ _ _ ⟨col, r.push (.int _)⟩ g⟩
 ·exact g.elim
def A0r := gI2 fun i j => if j < i then j else i
def A0s := gI2 fun i j => if j > i then j else i
theorem e8 : A5i C (fun xs H Q => ∃ i j, xs = [.int i, .int j] /\ Q (.int (if j < i then j else i)) H) A0r := B5e (f := fun i j => if j < i then j else i)
theorem B1r : A5i C (fun xs H Q => ∃ i j, xs = [.int i, .int j] /\ Q (.int (if j > i then j else i)) H) A0s := B5e (f := fun i j => if j > i then j else i)
def A16  (ds : List PyData) (Q : PyData -> Prop) : Prop := match ds with
 | [.int i] => Q (.int (if i < 0 then -i else i))
 | _ => False
def n4  (ds : List PyData) (Q : PyData -> Prop) : Prop := match ds with
 | [.int i] => Q (.int i)
 | [.bool b] => Q (.int (if b then 1 else 0))
 | _ => False
theorem B1s : A5i C (fun xs H Q => (∃ i, xs = [.int i] /\ Q (.int i) H) \/ ∃ k, xs = [.bl k] /\ Q (.int (if k then 1 else 0)) H) n4 := by
 intro ρ σ P col H vs ds Qd Q r t g k
 unfold n4 at g
 split at g
 ·obtain ⟨v, rfl, t1⟩ := A5j t
  cases t1
  exact .inl ⟨_, rfl, k _ _ _ ⟨col, r.push (.int _)⟩ g⟩
 ·obtain ⟨v, rfl, t1⟩ := A5j t
  cases t1
  exact .inr ⟨_, rfl, k _ _ _ ⟨col, r.push (.int _)⟩ g⟩
 ·exact g.elim
def B5f : List PyData -> Option (List Bool)
 | [] => some []
 | .bool b :: r => (B5f r).map (b :: ·)
 | _ :: _ => none
def gBs (f : List Bool -> Bool)  (ds : List PyData) (Q : PyData -> Prop) : Prop := match ds with
 | [.list xs] => bnd (B5f xs) fun bs => Q (.bool (f bs))
 | _ => False
def A17 := gBs fun bs => bs.all id
def A18 := gBs fun bs => bs.any id
abbrev B5g (K : A3) : List V -> Hp -> VK -> Prop := fun xs H Q => ∃ p ys, xs = [.ref p] /\ (SqL K H p ys \/ SqT K H p ys) /\ ∀ l, H l = none -> Q (.ref l) (upd H l (.lst ys))
def Z1 : PyData -> Option (List PyData)
 | .list xs => some xs
 | .tuple xs => some xs
 | _ => none
theorem B5h {col : Addr -> Nat} {H : Hp} {v : V} {a : PyData} {ds : List PyData} (t : Red col H v a) (h : Z1 a = some ds) : ∃ p vs, v = .ref p /\ (H p = some (.lst vs) \/ H p = some (.tup vs)) /\ B4 (Z col) H vs ds := by
 cases a with
 | list ds =>
  cases h
  obtain ⟨p, vs, rfl, e, t⟩ := t.lst
  exact ⟨p, vs, rfl, .inl e, t⟩
 | tuple ds =>
  cases h
  obtain ⟨p, vs, rfl, e, t⟩ := t.tup
  exact ⟨p, vs, rfl, .inr e, t⟩
 | _ => cases h
def A0t (i : Nat)  (ρ : List Sl) (Q : List PyData -> List Sl -> Prop) : Prop := bnd (N6 ρ i) fun a => bnd (Z1 a) fun ds => Q ds ρ
theorem A7r {i : Nat} {K : A3} (h : PE X e (tCB (B5g K) (P3 (S1 i) T8))) : PE X e (fOf C (A0t i)) := PE.wk h fun _ _ _ zz16 => el3 zz16 fun ρ P _ zz17 ht k => zz17.elim fun col r => by
 obtain ⟨a, ha, ht⟩ := L0 ht
 obtain ⟨ds, hn, q⟩ := L0 ht
 obtain ⟨v, ev, t⟩ := r.slot ha
 obtain ⟨p, vs, rfl, e, t⟩ := B5h t hn
 exact ⟨_, ev, p, vs, rfl, e.elim (fun e => .inl (SqL.of e)) (fun e => .inr (SqT.of e)), fun l hl => k _ _ _ _ _ ⟨col, r, t⟩ hl q⟩
def A0u (ta : DE)  (ρ : List Sl) (Q : List PyData -> List Sl -> Prop) : Prop := ta ρ fun a ρ' => bnd (Z1 a) fun ds => Q ds ρ'
theorem C1i {K : A3} (h : PE X e (tCB (B5g K) (P3 (eOf C ta) T8))) : PE X e (fOf C (A0u ta)) := PE.wk h fun _ _ _ zz18 => el3 zz18 fun ρ P _ R ht k => ⟨ρ, P, _, R, ht, fun v d ρ' H' zz19 q => zz19.elim fun col r => by
 obtain ⟨ds, hn, q⟩ := L0 q
 obtain ⟨p, vs, rfl, e, t⟩ := B5h (.th (r.pd _ C6)) hn
 exact ⟨p, vs, rfl, e.elim (fun e => .inl (SqL.of e)) (fun e => .inr (SqT.of e)), fun l hl => k _ _ _ _ _ ⟨col, r.sub fun _ h => C3 _ h, t⟩ hl q⟩⟩
abbrev DO := List Sl -> (Option Int -> List Sl -> Prop) -> Prop
def oOf (C : DC) (t : DO) : TO := fun σ H Q => ∃ ρ P Qd, Rel C ρ σ P H /\ t ρ Qd /\ ∀ o ρ' H', Rel C ρ' σ P H' -> Qd o ρ' -> Q o H'
def oN  (ρ : List Sl) (Q : Option Int -> List Sl -> Prop) : Prop := Q none ρ
def oS (t : DE)  (ρ : List Sl) (Q : Option Int -> List Sl -> Prop) : Prop := t ρ fun d ρ' => match d with
 | .int i => Q (some i) ρ'
 | _ => False
theorem B1t : PO X none (oOf C oN) := PO.wk B4d fun _ _ _ zz20 => el3 zz20 fun _ _ _ R ht k => k _ _ _ R ht
theorem A7s (h : PE X e (eOf C t)) : PO X (some e) (oOf C (oS t)) := PO.wk (B4e h) fun _ _ _ zz21 => el3 zz21 fun ρ P _ R ht k => ⟨ρ, P, _, R, ht, fun v d ρ' H' R' q => by
 split at q
 ·obtain ⟨col, r⟩ := R'
  have t := r.pd _ C6
  cases (show ThV (Z col) H' v (.int _) from t)
  exact ⟨_, rfl, k _ _ _ (Rel.pop ⟨col, r⟩) q⟩
 ·exact q.elim⟩
def Z2 (xs : List PyData) (lo hi : Option Int) : List PyData := (xs.drop (HT.sIx xs.length 0 lo)).take (HT.sIx xs.length xs.length hi - HT.sIx xs.length 0 lo)
theorem B4.drop {F : Addr -> Prop} {H : Hp} : ∀ {vs : List V} {ds : List PyData} (n : Nat), B4 F H vs ds -> B4 F H (vs.drop n) (ds.drop n)
 | _, _, 0, h => h
 | _, _, _ + 1, .nil => .nil
 | _, _, n + 1, .cons _ t => B4.drop n t
theorem B4.take {F : Addr -> Prop} {H : Hp} : ∀ {vs : List V} {ds : List PyData} (n : Nat), B4 F H vs ds -> B4 F H (vs.take n) (ds.take n)
 | _, _, 0, _ => .nil
 | _, _, _ + 1, .nil => .nil
 | _, _, n + 1, .cons x t => .cons x (B4.take n t)
theorem B5i {F : Addr -> Prop} {H : Hp} {vs : List V} {ds : List PyData} (t : B4 F H vs ds) (lo hi : Option Int) : B4 F H (A33 vs lo hi) (Z2 ds lo hi) := by
 unfold A33 Z2
 rw [t.len]
 exact (t.drop _).take _
def M0 : PyData -> Option (List PyData)
 | .list xs => some xs
 | _ => none
def A0v (i : Nat) (tl th : DO)  (ρ : List Sl) (Q : List PyData -> List Sl -> Prop) : Prop := bnd (N6 ρ i) fun _ => tl ρ fun lo ρ1 => th ρ1 fun hi ρ2 => bnd (N6 ρ2 i) fun a => bnd (M0 a) fun xs => Q (Z2 xs lo hi) ρ2
theorem B5j {i : Nat} {lo hi : Option Expr} {p2 : Pos} {tl th : DO} (ha : PE X a (S1 i)) (hl : PO X lo (oOf C tl)) (hh : PO X hi (oOf C th)) : PE X (.Subscript a (.Slice lo hi none p2) pos) (fOf C (A0v i tl th)) := PE.wk (B07 B08 ha hl hh) fun σ H Q zz22 => el3 zz22 fun ρ P Qd zz23 ht k => zz23.elim fun col0 r0 => by
 obtain ⟨_, h0, ht⟩ := L0 ht
 obtain ⟨v, ev, _⟩ := r0.slot h0
 refine ⟨v, ev, ρ, P, _, ⟨col0, r0⟩, ht, fun lo ρ1 H1 R1 h1 => ⟨ρ1, P, _, R1, h1, fun hi ρ2 H2 R2 h2 => ?_⟩⟩
 obtain ⟨a, ha, h2⟩ := L0 h2
 obtain ⟨xs, hx, q⟩ := L0 h2
 obtain ⟨col, r⟩ := R2
 obtain ⟨v', ev', t1⟩ := r.slot ha
 rw [ev] at ev'
 cases ev'
 cases a with
 | list ds =>
  cases hx
  obtain ⟨p, vs, rfl, e, t⟩ := t1.lst
  exact ⟨p, vs, rfl, SqL.of e, fun b hb => k _ _ _ _ _ ⟨col, r, B5i t lo hi⟩ hb q⟩
 | _ => cases hx
def dSl (ta : DE) (tl th : DO)  (ρ : List Sl) (Q : List PyData -> List Sl -> Prop) : Prop := ta ρ fun a ρ0 => tl ρ0 fun lo ρ1 => th ρ1 fun hi ρ2 => bnd (M0 a) fun xs => Q (Z2 xs lo hi) ρ2
theorem B5k {lo hi : Option Expr} {p2 : Pos} {tl th : DO} (ha : PE X a (eOf C ta)) (hl : PO X lo (oOf C tl)) (hh : PO X hi (oOf C th)) : PE X (.Subscript a (.Slice lo hi none p2) pos) (fOf C (dSl ta tl th)) := PE.wk (B07 B08 ha hl hh) fun σ H Q zz24 => el3 zz24 fun ρ P Qd R ht k =>
 ⟨ρ, P, _, R, ht, fun v a ρ0 H0 R0 h0 => ⟨ρ0, _, _, R0, h0, fun lo ρ1 H1 R1 h1 => ⟨ρ1, _, _, R1, h1, fun hi ρ2 H2 R2 h2 => by
  obtain ⟨xs, hx, q⟩ := L0 h2
  obtain ⟨col, r⟩ := R2
  cases a with
  | list ds =>
   cases hx
   obtain ⟨p, vs, rfl, e, t⟩ := Red.lst (.th (r.pd _ C6))
   exact ⟨p, vs, rfl, SqL.of e, fun b hb => k _ _ _ _ _ ⟨col, r.sub fun _ h => C3 _ h, B5i t lo hi⟩ hb q⟩
  | _ => cases hx⟩⟩⟩
def A0w (ta tb : DE)  (ρ : List Sl) (Q : List PyData -> List Sl -> Prop) : Prop := ta ρ fun a ρ1 => tb ρ1 fun b ρ2 => bnd (M0 a) fun xs => bnd (M0 b) fun ys => xs.length + ys.length <= 100000 /\ Q (xs ++ ys) ρ2
theorem A9e (ha : PE X a (eOf C ta)) (hb : PE X b (eOf C tb)) : PE X (.BinOp a .Add b pos) (fOf C (A0w ta tb)) := PE.wk (M4 A83 ha hb) fun σ H Q zz25 => el3 zz25 fun ρ P Qd R ht k =>
 ⟨ρ, P, _, R, ht, fun v a ρ1 H1 R1 h1 => ⟨ρ1, _, _, R1, h1, fun w b ρ2 H2 R2 h2 => by
  obtain ⟨xs, hx, h2⟩ := L0 h2
  obtain ⟨ys, hy, h3, q⟩ := L0 h2
  obtain ⟨col, r, t1, t2⟩ := th2 R2
  cases a with
  | list ds =>
   cases b with
   | list es =>
    cases hx; cases hy
    obtain ⟨p, vs, rfl, e, t⟩ := Red.lst (.th t1)
    obtain ⟨p', vs', rfl, e', t'⟩ := Red.lst (.th t2)
    exact ⟨p, p', vs, vs', rfl, rfl, e, e', by rw [t.len, t'.len, sizeLine_eq]; lia, fun b hb => k _ _ _ _ _ ⟨col, r, t.append t'⟩ hb q⟩
   | _ => cases hy
  | _ => cases hx⟩⟩
def A35 (xs : List PyData) (n : Nat) : List PyData := (G8 n xs).flatten
theorem B5l {F : Addr -> Prop} {H : Hp} {vs : List V} {ds : List PyData} (t : B4 F H vs ds) : ∀ n : Nat, B4 F H (G8 n vs).flatten (A35 ds n)
 | 0 => .nil
 | n + 1 => by
  unfold A35
  rw [j3, j3, A4s, A4s]
  exact t.append (B5l t n)
def A0x (ta tb : DE)  (ρ : List Sl) (Q : List PyData -> List Sl -> Prop) : Prop := ta ρ fun a ρ1 => tb ρ1 fun b ρ2 => match b with
 | .int k => bnd (M0 a) fun xs => (-1000 <= k /\ k <= 1000 /\ xs.length <= 100) /\ Q (A35 xs k.toNat) ρ2
 | _ => False
theorem B1u (ha : PE X a (eOf C ta)) (hb : PE X b (eOf C tb)) : PE X (.BinOp a .Mult b pos) (fOf C (A0x ta tb)) := PE.wk (M4 C0p ha hb) fun σ H Q zz26 => el3 zz26 fun ρ P Qd R ht k =>
 ⟨ρ, P, _, R, ht, fun v a ρ1 H1 R1 h1 => ⟨ρ1, _, _, R1, h1, fun w b ρ2 H2 R2 h2 => by
  split at h2
  ·obtain ⟨xs, hx, ⟨h3, h4, h5⟩, q⟩ := L0 h2
   obtain ⟨col, r, t1, t2⟩ := th2 R2
   cases t2
   cases a with
   | list ds =>
    cases hx
    obtain ⟨p, vs, rfl, e, t⟩ := Red.lst (.th t1)
    rename_i kk
    refine ⟨p, kk, vs, rfl, rfl, e, by lia, by lia, ?_, fun b hb => k _ _ _ _ _ ⟨col, r, B5l t _⟩ hb q⟩
    have hl := t.len
    rw [<- hl] at h5
    have : vs.length * kk.toNat <= 100 * 1000 := Nat.mul_le_mul h5 (by lia)
    rw [sizeLine_eq]
    lia
   | _ => cases hx
  ·exact h2.elim⟩⟩
def tyD : PyData -> Option String
 | .none => some "NoneType"
 | .bool _ => some "bool"
 | .int _ => some "int"
 | .str _ => some "str"
 | .list _ => some "list"
 | .tuple _ => some "tuple"
 | .dict _ => some "dict"
theorem B1v {K : A3} {col : Addr -> Nat} {H : Hp} {v : V} {a : PyData} (t : Red col H v a) : ∃ T, tyD a = some T /\ A5c K H v (.type T) := by
 cases t with
 | th t => cases t with
  | non => exact ⟨_, rfl, .o .non⟩
  | bl b => exact ⟨_, rfl, .o (.bl b)⟩
  | int i => exact ⟨_, rfl, .o (.int i)⟩
  | str x => exact ⟨_, rfl, .o (.str x)⟩
  | lst _ e _ => exact ⟨_, rfl, .o (.lst e)⟩
  | tup _ e _ => exact ⟨_, rfl, .o (.tup e)⟩
  | dic _ e u => cases u with
   | t => exact ⟨_, rfl, .o (.dT e)⟩
   | k i j => exact ⟨_, rfl, .o (.dK e)⟩
   | f o ks => exact ⟨_, rfl, .f e⟩
 | ls e _ => exact ⟨_, rfl, .o (.lst e)⟩
def U3 (T : String) (d : PyData) : Bool := match tyD d with
 | some t => t == T || (T == "int" && t == "bool")
 | none => false
def A5k (K : A3) (T : String) : Prop := ∀ d t, tyD d = some t -> A4p K (.type t) (.type T) = some (U3 T d)
abbrev B1w (K : A3) : List V -> Hp -> VK -> Prop := fun xs H Q => ∃ x cv c t b, xs = [x, cv] /\ F5 cv c /\ A5c K H x t /\ A4p K t c = some b /\ Q (.bl b) H
def A0y (i : Nat) (T : String)  (ρ : List Sl) (Q : PyData -> List Sl -> Prop) : Prop := bnd (N6 ρ i) fun a => Q (.bool (U3 T a)) ρ
theorem A0z {i : Nat} {K : A3} {T : String} (hT : A5k K T) (h : PE X e (tCB (B1w K) (P3 (S1 i) (P3 (tC (.ty T)) T8)))) : PE X e (eOf C (A0y i T)) := PE.wk h fun _ _ _ zz27 => el3 zz27 fun ρ P _ zz28 ht k => zz28.elim fun col r => by
 obtain ⟨a, ha, q⟩ := L0 ht
 obtain ⟨v, ev, t⟩ := r.slot ha
 obtain ⟨t', e1, e2⟩ := B1v (K := K) t
 exact ⟨v, ev, v, .ty T, .type T, _, _, rfl, rfl, e2, hT a t' e1, k _ _ _ _ ⟨col, r.push (.bl _)⟩ q⟩
def A00 (ta : DE) (T : String)  (ρ : List Sl) (Q : PyData -> List Sl -> Prop) : Prop := ta ρ fun a ρ' => Q (.bool (U3 T a)) ρ'
theorem C1j {K : A3} {T : String} (hT : A5k K T) (h : PE X e (tCB (B1w K) (P3 (eOf C ta) (P3 (tC (.ty T)) T8)))) : PE X e (eOf C (A00 ta T)) := PE.wk h fun _ _ _ zz29 => el3 zz29 fun ρ P _ R ht k => ⟨ρ, P, _, R, ht, fun v d ρ' H' zz30 q => zz30.elim fun col r => by
 obtain ⟨t', e1, e2⟩ := B1v (K := K) (.th (r.pd _ C6))
 exact ⟨v, .ty T, .type T, _, _, rfl, rfl, e2, hT d t' e1, k _ _ _ _ ⟨col, (r.sub fun _ h => C3 _ h).push (.bl _)⟩ q⟩⟩
theorem B5m {K : A3} : A5k K "int" := fun d t h => by cases d <;> cases h <;> with_unfolding_all rfl
theorem B5n {K : A3} : A5k K "bool" := fun d t h => by cases d <;> cases h <;> with_unfolding_all rfl
theorem A7t {K : A3} : A5k K "list" := fun d t h => by cases d <;> cases h <;> with_unfolding_all rfl
theorem B1x {K : A3} : A5k K "tuple" := fun d t h => by cases d <;> cases h <;> with_unfolding_all rfl
end
inductive Md where
 | sh
 | bo
 | hd
 | b2
 | bd
def A19 : List PyData -> Option (List (List PyData))
 | [] => some []
 | .list ds :: r => (A19 r).map (ds :: ·)
 | _ => none
def B1y : PyData -> Option (List (List PyData))
 | .list xs => A19 xs
 | _ => none
abbrev lls (dss : List (List PyData)) : List PyData := dss.map PyData.list
theorem C1k {xs : List PyData} {dss : List (List PyData)} (h : A19 xs = some dss) : xs = lls dss := by
 induction xs generalizing dss with
 | nil => cases h; rfl
 | cons x r ih =>
  cases x with
  | list ds =>
   have h' : (A19 r).map (ds :: ·) = some dss := h
   cases q : A19 r with
   | none => rw [q] at h'; cases h'
   | some ess =>
    rw [q] at h'
    cases h'
    rw [ih q]; rfl
  | _ => cases h
theorem C1l {d : PyData} {dss : List (List PyData)} (h : B1y d = some dss) : d = .list (lls dss) := by
 cases d with
 | list xs => rw [C1k h]
 | _ => cases h
theorem C1m {F : Addr -> Prop} {H : Hp} {dss : List (List PyData)} {vs : List V} (t : B4 F H vs (lls dss)) : ∃ as : List Addr, vs = as.map V.ref /\ Rws F F H as dss := by
 induction dss generalizing vs with
 | nil => cases t; exact ⟨[], rfl, .nil⟩
 | cons ds dss ih =>
  cases t with
  | cons x y =>
   obtain ⟨as, rfl, r⟩ := ih y
   cases x with
   | lst n e z => exact ⟨_ :: as, rfl, .cons n e z r⟩
def slot2 (ρ : List Sl) (i : Nat) : Option (List (List PyData)) := match ρ[i]? with
 | some (.o2 dss) => some dss
 | some (.b2 dss) => some dss
 | some (.sh d) => B1y d
 | _ => none
def A5l (F : Addr -> Prop) (hand : Option (Addr × Addr)) (H : Hp) (v : V) (d : PyData) : Md -> Prop
 | .sh => ThV F H v d
 | .bo => ∃ a vs ds, v = .ref a /\ d = .list ds /\ (∀ q, hand = some q -> a ≠ q.1) /\ H a = some (.lst vs) /\ B4 F H vs ds
 | .hd => ∃ q, hand = some q /\ v = .ref q.1
 | .b2 => ∃ a as dss, v = .ref a /\ d = .list (lls dss) /\ (∀ q, hand = some q -> a ≠ q.1) /\ H a = some (.lst (as.map V.ref)) /\ Rws (fun b => ∀ q, hand = some q -> b ≠ q.1) F H as dss
 | .bd => ThV (fun b => ∀ q, hand = some q -> b ≠ q.1) H v d
inductive X7 (F : Addr -> Prop) (hand : Option (Addr × Addr)) (H : Hp) : List Md -> List V -> List PyData -> Prop
 | nil : X7 F hand H [] [] []
 | cons {m v d ms vs ds} : A5l F hand H v d m -> X7 F hand H ms vs ds -> X7 F hand H (m :: ms) (v :: vs) (d :: ds)
theorem X7.len {F : Addr -> Prop} {hand : Option (Addr × Addr)} {H : Hp} {ms : List Md} {vs : List V} {ds : List PyData} (t : X7 F hand H ms vs ds) : vs.length = ms.length /\ ds.length = ms.length := by
 induction t with
 | nil => exact ⟨rfl, rfl⟩
 | cons _ t ih => exact ⟨congrArg (· + 1) ih.1, congrArg (· + 1) ih.2⟩
abbrev DSp := List PyData -> (PyData -> Prop) -> Prop
def spD (ms : List Md) (sp : DSp) : Sp := fun vs H Q _ => ∃ F hand ds Qd, ((∀ b, H b = none -> F b) /\ ∀ b xs, H b = some (.tup xs) -> F b) /\ (∀ q, hand = some q -> ¬ F q.1) /\ Hq hand H /\ X7 F hand H ms vs ds /\ sp ds Qd /\ ∀ d v H', Qd d -> ThV F H' v d -> Kq hand H H' -> Hq hand H' -> Q v H'
inductive Ar where
 | v (d : PyData)
 | s (i : Nat)
 | w (d : PyData)
inductive ArV (σ : St) (P : List Pe) : List V -> List Ar -> Prop
 | nil : ArV σ P [] []
 | v {v d vs as} : Pe.v v d ∈ P -> ArV σ P vs as -> ArV σ P (v :: vs) (.v d :: as)
 | s {i v vs as} : σ[i]? = some (some v) -> ArV σ P vs as -> ArV σ P (v :: vs) (.s i :: as)
 | w {v d vs as} : Pe.w v d ∈ P -> ArV σ P vs as -> ArV σ P (v :: vs) (.w d :: as)
abbrev DA := List Sl -> (List Ar -> List Sl -> Prop) -> Prop
def aOf (C : DC) (t : DA) : TA := fun σ H Q => ∃ ρ P Qd, Rel C ρ σ P H /\ t ρ Qd /\ ∀ vs as ρ' P' H', Rel C ρ' σ P' H' -> (∀ p ∈ P, p ∈ P') -> ArV σ P' vs as -> Qd as ρ' -> Q vs H'
def e9 (ρ : List Sl) (i : Nat) : Bool := match ρ[i]? with
 | some .no => false
 | none => false
 | _ => true
section
variable {X : Cx} {C : DC} {e : Expr} {es : List Expr} {t : DE} {u : DA}
def A01  (ρ : List Sl) (Q : List Ar -> List Sl -> Prop) : Prop := Q [] ρ
def aV (t : DE) (u : DA)  (ρ : List Sl) (Q : List Ar -> List Sl -> Prop) : Prop := t ρ fun d ρ1 => u ρ1 fun as ρ2 => Q (.v d :: as) ρ2
def aS (i : Nat) (u : DA)  (ρ : List Sl) (Q : List Ar -> List Sl -> Prop) : Prop := e9 ρ i = true /\ u ρ fun as ρ2 => Q (.s i :: as) ρ2
theorem C5 : PA X [] (aOf C A01) := PA.wk D3 fun _ _ _ zz31 => el3 zz31 fun _ _ _ R ht k => k [] [] _ _ _ R (fun _ h => h) .nil ht
theorem A5 (ha : PE X e (eOf C t)) (hr : PA X es (aOf C u)) (hs : starEach (e :: es) X.env = (false, eval e X.env) :: starEach es X.env := by rfl) : PA X (e :: es) (aOf C (aV t u)) := PA.wk (A9 ha hr hs) fun _ _ _ zz32 => el3 zz32 fun ρ P _ R ht k =>
 ⟨ρ, P, _, R, ht, fun _ _ ρ1 _ R1 h1 => ⟨ρ1, _, _, R1, h1, fun _ _ _ _ _ R2 s2 p2 h2 => k _ _ _ _ _ R2 (fun p hp => s2 p (C3 _ hp)) (.v (s2 _ C6) p2) h2⟩⟩
theorem C1n {col : Addr -> Nat} {ρ : List Sl} {σ : St} {P : List Pe} {H : Hp} {i : Nat} (r : C0 C col ρ σ P H) (h : e9 ρ i = true) : ∃ v, σ[i]? = some (some v) := by
 unfold e9 at h
 split at h
 ·cases h
 ·cases h
 ·rename_i s n1 n2
  cases q : ρ[i]? with
  | none => exact absurd q n2
  | some s =>
   have z := r.sl i s q
   cases s with
   | no => exact absurd q n1
   | sh d => obtain ⟨v, e, _⟩ := z; exact ⟨v, K7 e⟩
   | ow d => obtain ⟨a, _, e, _⟩ := z; exact ⟨_, K7 e⟩
   | bo d => obtain ⟨a, _, e, _⟩ := z; exact ⟨_, K7 e⟩
   | hd => obtain ⟨q, _, e⟩ := z; exact ⟨_, K7 e⟩
   | o2 d => obtain ⟨a, _, e, _⟩ := z; exact ⟨_, K7 e⟩
   | b2 d => obtain ⟨a, _, e, _⟩ := z; exact ⟨_, K7 e⟩
   | di f ks => obtain ⟨a, e, _⟩ := z; exact ⟨_, K7 e⟩
   | dm f ks => obtain ⟨a, e, _⟩ := z; exact ⟨_, K7 e⟩
   | bd d => obtain ⟨v, e, _⟩ := z; exact ⟨v, K7 e⟩
   | ot d => obtain ⟨v, e, _⟩ := z; exact ⟨v, K7 e⟩
   | ob R => obtain ⟨v, e, _⟩ := z; exact ⟨v, K7 e⟩
def g3 (ρ : List Sl) (i : Nat) : Option PyData := match ρ[i]? with
 | some (.bd d) => some d
 | _ => none
theorem C0.lent {col : Addr -> Nat} {ρ : List Sl} {σ : St} {P : List Pe} {H : Hp} (r : C0 C col ρ σ P H) {i : Nat} {d : PyData} (h : g3 ρ i = some d) : ∃ v, σ[i]? = some (some v) /\ ThV (Le C) C.H0 v d := by
 unfold g3 at h
 split at h
 ·rename_i d' e
  cases h
  obtain ⟨v, e1, t⟩ := r.sl i _ e
  exact ⟨v, K7 e1, t⟩
 ·cases h
theorem C0.le {col : Addr -> Nat} {ρ : List Sl} {σ : St} {P : List Pe} {H : Hp} (r : C0 C col ρ σ P H) {v : V} {d : PyData} (t : ThV (Le C) C.H0 v d) : ThV (Le C) H v d := t.mv fun b o g e => ⟨g, r.kq b o e g.2⟩
theorem C0.slot2 {col : Addr -> Nat} {ρ : List Sl} {σ : St} {P : List Pe} {H : Hp} (r : C0 C col ρ σ P H) {i : Nat} {dss : List (List PyData)} (h : slot2 ρ i = some dss) : ∃ a as, σ[i]? = some (some (.ref a)) /\ (∀ q, C.hand = some q -> a ≠ q.1) /\ H a = some (.lst (as.map V.ref)) /\ Rws (fun b => ∀ q, C.hand = some q -> b ≠ q.1) (Z col) H as dss := by
 unfold My.slot2 at h
 split at h
 ·rename_i dss' e
  cases h
  obtain ⟨a, as, e1, c, e2, nd, t⟩ := r.sl i _ e
  exact ⟨a, as, K7 e1, r.notH (by have := c.1; lia), e2, t.mv (fun b o z e => ⟨z, e⟩) fun b o g e => ⟨r.notH (by have := g.1; lia), e⟩⟩
 ·rename_i dss' e
  cases h
  obtain ⟨a, as, e1, c, e2, t⟩ := r.sl i _ e
  exact ⟨a, as, K7 e1, c.2, e2, t.mv (fun b o z e => ⟨z, e⟩) fun b o g e => ⟨g.2, e⟩⟩
 ·rename_i d e
  cases C1l h
  obtain ⟨v, e1, t⟩ := r.sl i _ e
  cases t with
  | lst n e2 t =>
   obtain ⟨as, rfl, t2⟩ := C1m t
   exact ⟨_, as, K7 e1, r.notH (by rw [show col _ = 0 from n]; decide), e2, t2.mv (fun b o z e => ⟨z, e⟩) fun b o g e => ⟨r.notH (by rw [show col b = 0 from g]; decide), e⟩⟩
 ·cases h
theorem F3 {i : Nat} (ha : PE X e (S1 i)) (hr : PA X es (aOf C u)) (hs : starEach (e :: es) X.env = (false, eval e X.env) :: starEach es X.env := by rfl) : PA X (e :: es) (aOf C (aS i u)) := PA.wk (A9 ha hr hs) fun σ H Q zz33 => el3 zz33 fun ρ P Qd zz34 ht k => zz34.elim fun col r => by
 obtain ⟨v, ev⟩ := C1n r ht.1
 exact ⟨v, ev, ρ, P, _, ⟨col, r⟩, ht.2, fun _ _ _ _ _ R2 s2 p2 h2 => k _ _ _ _ _ R2 s2 (.s ev p2) h2⟩
def arD (ρ : List Sl) (m : Md) (a : Ar) : Option PyData := match m, a with
 | .sh, .v d => some d
 | .bo, .v (.list ds) => some (.list ds)
 | .bo, .s i => (N6 ρ i).bind fun d => (M0 d).map PyData.list
 | .hd, .s i => match ρ[i]? with
  | some .hd => some .none
  | _ => none
 | .b2, .s i => (slot2 ρ i).map fun dss => .list (lls dss)
 | .bd, .v d => some d
 | .bd, .w d => some d
 | .bd, .s i => match ρ[i]? with
  | some (.bd d) => some d
  | some (.sh d) => some d
  | _ => none
 | _, _ => none
def O5 (ρ : List Sl) : List Md -> List Ar -> Option (List PyData)
 | [], [] => some []
 | m :: ms, a :: as => (arD ρ m a).bind fun d => (O5 ρ ms as).map (d :: ·)
 | _, _ => none
theorem A2a {d : PyData} {xs : List PyData} (h : M0 d = some xs) : d = .list xs := by
 cases d <;> cases h
 rfl
theorem A9f {col : Addr -> Nat} {ρ : List Sl} {σ : St} {P : List Pe} {H : Hp} (r : C0 C col ρ σ P H) {m : Md} {v : V} {d : PyData} {a : Ar} (ha : match a with | .v d => Pe.v v d ∈ P | .s i => σ[i]? = some (some v) | .w d => Pe.w v d ∈ P) (h : arD ρ m a = some d) : A5l (Z col) C.hand H v d m := by
 unfold arD at h
 split at h
 ·cases h; exact r.pd _ ha
 ·cases h
  have z : ThV (Z col) H v (.list _) := r.pd _ ha
  cases z with
  | lst za e t => exact ⟨_, _, _, rfl, rfl, r.notH (by rw [show col _ = 0 from za]; decide), e, t⟩
 ·rename_i i
  have ha' : σ[i]? = some (some v) := ha
  cases q : N6 ρ i with
  | none => rw [q] at h; cases h
  | some d' =>
   rw [q] at h
   cases q2 : M0 d' with
   | none =>
    have h' : (M0 d').map PyData.list = some d := h
    rw [q2] at h'; cases h'
   | some xs =>
    have h' : (M0 d').map PyData.list = some d := h
    rw [q2] at h'
    cases h'
    have := A2a q2
    subst this
    unfold N6 at q
    split at q
    ·rename_i d'' e
     cases q
     obtain ⟨v', e1, t⟩ := r.sl i _ e
     rw [K7 e1] at ha'
     cases ha'
     cases t with
     | lst za e t => exact ⟨_, _, _, rfl, rfl, r.notH (by rw [show col _ = 0 from za]; decide), e, t⟩
    ·rename_i ds e
     cases q
     obtain ⟨a, vs, e1, c, _, e2, t⟩ := r.sl i _ e
     rw [K7 e1] at ha'
     cases ha'
     exact ⟨_, _, _, rfl, rfl, r.notH (by lia), e2, t⟩
    ·rename_i ds e
     cases q
     obtain ⟨a, vs, e1, c, n, e2, t⟩ := r.sl i _ e
     rw [K7 e1] at ha'
     cases ha'
     exact ⟨_, _, _, rfl, rfl, n, e2, t⟩
    ·cases q
 ·rename_i i
  have ha' : σ[i]? = some (some v) := ha
  split at h
  ·rename_i e
   cases h
   obtain ⟨q, e1, e2⟩ := r.sl i _ e
   rw [K7 e2] at ha'
   cases ha'
   exact ⟨q, e1, rfl⟩
  ·cases h
 ·rename_i i
  have ha' : σ[i]? = some (some v) := ha
  cases q : slot2 ρ i with
  | none => rw [q] at h; cases h
  | some dss =>
   rw [q] at h
   cases h
   obtain ⟨a, as, e1, n, e2, t⟩ := r.slot2 q
   rw [e1] at ha'
   cases ha'
   exact ⟨a, as, dss, rfl, rfl, n, e2, t⟩
 ·cases h
  exact ThV.mv (fun b o z e => ⟨r.notH (by rw [show col b = 0 from z]; decide), e⟩) (r.pd _ ha)
 ·cases h
  exact ThV.mv (fun b o z e => ⟨z.2, e⟩) (r.le (r.pd _ ha))
 ·rename_i i
  have ha' : σ[i]? = some (some v) := ha
  split at h
  ·rename_i e
   cases h
   obtain ⟨v', e1, t⟩ := r.sl i _ e
   rw [K7 e1] at ha'
   cases ha'
   exact ThV.mv (fun b o z e => ⟨z.2, e⟩) (r.le t)
  ·rename_i e
   cases h
   obtain ⟨v', e1, t⟩ := r.sl i _ e
   rw [K7 e1] at ha'
   cases ha'
   exact ThV.mv (fun b o z e => ⟨r.notH (by rw [show col b = 0 from z]; decide), e⟩) t
  ·cases h
 ·cases h
theorem A7u {col : Addr -> Nat} {ρ : List Sl} {σ : St} {P : List Pe} {H : Hp} (r : C0 C col ρ σ P H) : ∀ {ms : List Md} {vs : List V} {ds : List PyData} {as : List Ar}, ArV σ P vs as -> O5 ρ ms as = some ds -> X7 (Z col) C.hand H ms vs ds
 | [], _, _, _, .nil, h => by cases h; exact .nil
 | [], _, _, _, .v _ _, h => by cases h
 | [], _, _, _, .s _ _, h => by cases h
 | [], _, _, _, .w _ _, h => by cases h
 | _ :: _, _, _, _, .nil, h => by cases h
 | m :: ms, _, ds, _, .v (d := d0) (as := as) hm t, h => by
  have h' : ((arD ρ m (.v d0)).bind fun d => (O5 ρ ms as).map (d :: ·)) = some ds := h
  cases q : arD ρ m (.v d0) with
  | none => rw [q] at h'; cases h'
  | some d =>
   rw [q] at h'
   have h2 : (O5 ρ ms as).map (d :: ·) = some ds := h'
   cases q2 : O5 ρ ms as with
   | none => rw [q2] at h2; cases h2
   | some ds' =>
    rw [q2] at h2
    cases h2
    exact .cons (A9f r (a := .v d0) hm q) (A7u r t q2)
 | m :: ms, _, ds, _, .s (i := i) (as := as) hm t, h => by
  have h' : ((arD ρ m (.s i)).bind fun d => (O5 ρ ms as).map (d :: ·)) = some ds := h
  cases q : arD ρ m (.s i) with
  | none => rw [q] at h'; cases h'
  | some d =>
   rw [q] at h'
   have h2 : (O5 ρ ms as).map (d :: ·) = some ds := h'
   cases q2 : O5 ρ ms as with
   | none => rw [q2] at h2; cases h2
   | some ds' =>
    rw [q2] at h2
    cases h2
    exact .cons (A9f r (a := .s i) hm q) (A7u r t q2)
 | m :: ms, _, ds, _, .w (d := d0) (as := as) hm t, h => by
  have h' : ((arD ρ m (.w d0)).bind fun d => (O5 ρ ms as).map (d :: ·)) = some ds := h
  cases q : arD ρ m (.w d0) with
  | none => rw [q] at h'; cases h'
  | some d =>
   rw [q] at h'
   have h2 : (O5 ρ ms as).map (d :: ·) = some ds := h'
   cases q2 : O5 ρ ms as with
   | none => rw [q2] at h2; cases h2
   | some ds' =>
    rw [q2] at h2
    cases h2
    exact .cons (A9f r (a := .w d0) hm q) (A7u r t q2)
def A02 (ms : List Md) (sp : DSp) (u : DA)  (ρ : List Sl) (Q : PyData -> List Sl -> Prop) : Prop := u ρ fun as ρ' => bnd (O5 ρ' ms as) fun ds => sp ds fun d => Q d ρ'
theorem C8 {ms : List Md} {sp : DSp} {E : XK} (h : PE X e (A8z (spD ms sp) [] E (aOf C u))) : PE X e (eOf C (A02 ms sp u)) := PE.wk h fun σ H Q zz35 => el3 zz35 fun ρ P Qd R ht k => ⟨ρ, P, _, R, ht, fun vs as ρ' P' H' zz36 s p q => zz36.elim fun col r => by
 obtain ⟨ds, hds, q⟩ := L0 q
 rw [Y3]
 obtain ⟨col, r, tp⟩ := r.norm
 refine ⟨Z col, C.hand, ds, _, ⟨r.fresh, tp⟩, fun q hq z => ?_, r.hq, A7u r p hds, q, fun d v H2 q2 t2 k2 h2 => k _ _ _ _ ⟨col, (((r.mv k2 h2).sub s)).push t2⟩ q2⟩
 have := r.hnd q hq
 rw [show col q.1 = 0 from z] at this
 cases this⟩
end
end My
namespace My
open PySem L2
structure A9g (C : DC) (J : It) (xs : List PyData) (P : List Pe) : Prop where
 go : ∀ {i : Nat} {ρ : List Sl} {σ : St} {P' : List Pe} {H : Hp}, (∀ p ∈ P, p ∈ P') -> Rel C ρ σ P' H -> i < xs.length -> J.go i H
 yld : ∀ {i : Nat} {ρ : List Sl} {σ : St} {P' : List Pe} {H H' : Hp} {x : V} {d : PyData}, (∀ p ∈ P, p ∈ P') -> Rel C ρ σ P' H -> xs[i]? = some d -> J.yld i H x H' -> Rel C ρ σ (.v x d :: P') H'
 stop : ∀ {ρ : List Sl} {σ : St} {P' : List Pe} {H : Hp}, (∀ p ∈ P, p ∈ P') -> Rel C ρ σ P' H -> J.stop xs.length H
theorem P9 {F : Addr -> Prop} {H : Hp} {v : V} {xs : List PyData} (t : ThV F H v (.list xs)) : ∃ a vs, v = .ref a /\ F a /\ H a = some (.lst vs) /\ B4 F H vs xs := by
 cases t with
 | lst za e t => exact ⟨_, _, rfl, za, e, t⟩
theorem A03 {F : Addr -> Prop} {H : Hp} {v : V} {xs : List PyData} (t : ThV F H v (.tuple xs)) : ∃ a vs, v = .ref a /\ F a /\ H a = some (.tup vs) /\ B4 F H vs xs := by
 cases t with
 | tup za e t => exact ⟨_, _, rfl, za, e, t⟩
def iOf (C : DC) (t : DF) : TI := fun σ H R => ∃ ρ P Qd, Rel C ρ σ P H /\ t ρ Qd /\ ∀ xs ρ' P' H' J, Rel C ρ' σ P' H' -> (∀ p ∈ P, p ∈ P') -> A9g C J xs P' -> Qd xs ρ' -> R J H'
section
variable {X : Cx} {C : DC} {tg e : Expr} {t : DE} {u : DF} {pos : Pos}
theorem PI.wk {tg e : Expr} {w w' : TI} (h : PI X tg e w) (f : ∀ σ H R, w' σ H R -> w σ H R) : PI X tg e w' := fun pins s σ H R I q => h pins s σ H R I (f σ H R q)
theorem A9h {K : A3} {a : Addr} {vs : List V} {xs : List PyData} {P : List Pe} : A9g C (Itl K a) xs (.n a (.lst vs) :: .s vs xs :: P) where
 go := fun {i ρ σ P' H} s R hi => by
  obtain ⟨col, r⟩ := R
  have h1 := r.pd _ (s _ C6)
  have h2 : B4 (Z col) H vs xs := r.pd _ (s _ (C3 _ C6))
  have hl := h2.len
  exact ⟨vs, vs[i], SqL.of h1.2.2, N0 (by lia)⟩
 yld := fun {i ρ σ P' H H' x d} s R hi y => by
  obtain ⟨e, y⟩ := y
  subst e
  obtain ⟨col, r⟩ := R
  have h1 := r.pd _ (s _ C6)
  have h2 : B4 (Z col) H' vs xs := r.pd _ (s _ (C3 _ C6))
  have hx := y vs (SqL.of h1.2.2)
  obtain ⟨d', e1, t⟩ := h2.get hx
  rw [hi] at e1
  cases e1
  exact ⟨col, r.push t⟩
 stop := fun {ρ σ P' H} s R => by
  obtain ⟨col, r⟩ := R
  have h1 := r.pd _ (s _ C6)
  have h2 : B4 (Z col) H vs xs := r.pd _ (s _ (C3 _ C6))
  have hl := h2.len
  exact ⟨vs, SqL.of h1.2.2, by lia⟩
def dIl (t : DE)  (ρ : List Sl) (Q : List PyData -> List Sl -> Prop) : Prop := t ρ fun d ρ' => bnd (M0 d) fun xs => Q xs ρ'
theorem A9i (h : PE X e (eOf C t)) : PI X tg e (iOf C (dIl t)) := PI.wk (A8t h) fun _ _ _ zz1 => el3 zz1 fun ρ P _ R ht k => ⟨ρ, P, _, R, ht, fun v d ρ' H' zz2 q => zz2.elim fun col r => by
 obtain ⟨xs, hx, q⟩ := L0 q
 have := A2a hx
 subst this
 obtain ⟨a, vs, rfl, za, e1, t1⟩ := P9 (show ThV (Z col) H' v (.list xs) from r.pd _ C6)
 refine ⟨a, rfl, ⟨vs, SqL.of e1⟩, k xs ρ' (.n a (.lst vs) :: .s vs xs :: P) H' _ ⟨col, ?_⟩ (fun _ h => C3 _ (C3 _ h)) A9h q⟩
 exact ((r.sub fun _ h => C3 _ h).add (x := .s vs xs) t1).add (x := .n a (.lst vs)) ⟨by rw [show col a = 0 from za]; decide, r.notH (by rw [show col a = 0 from za]; decide), e1⟩⟩
def C1o : PyData -> Option (List PyData)
 | .tuple xs => some xs
 | _ => none
def dIt (t : DE)  (ρ : List Sl) (Q : List PyData -> List Sl -> Prop) : Prop := t ρ fun d ρ' => bnd (C1o d) fun xs => Q xs ρ'
def dIv (i : Nat)  (ρ : List Sl) (Q : List PyData -> List Sl -> Prop) : Prop := match ρ[i]? with
 | some (.sh (.list xs)) => Q xs ρ
 | some (.ow xs) => Q xs (ρ.set i (.sh (.list xs)))
 | some (.bo xs) => Q xs ρ
 | _ => False
theorem A36 {i : Nat} (h : PE X e (S1 i)) : PI X tg e (iOf C (dIv i)) := PI.wk (A8t h) fun σ H R' zz5 => el3 zz5 fun ρ P Qd zz6 ht k => zz6.elim fun col r => by
 unfold dIv at ht
 split at ht
 ·rename_i xs e
  obtain ⟨v, e1, t⟩ := r.sl i _ e
  obtain ⟨a, vs, rfl, za, e2, t1⟩ := P9 t
  ·refine ⟨_, K7 e1, a, rfl, ⟨vs, SqL.of e2⟩, k xs ρ (.n a (.lst vs) :: .s vs xs :: P) H _ ⟨col, ?_⟩ (fun _ h => C3 _ (C3 _ h)) A9h ht⟩
   exact (r.add (x := .s vs xs) t1).add (x := .n a (.lst vs)) ⟨by rw [show col a = 0 from za]; decide, r.notH (by rw [show col a = 0 from za]; decide), e2⟩
 ·rename_i xs e
  obtain ⟨a, e1, col', r'⟩ := r.freeze e
  obtain ⟨a', vs, ea, za, e2, t1⟩ := P9 (show ThV (Z col') H (.ref a) (.list xs) from r'.pd _ C6)
  cases ea
  ·refine ⟨_, K7 e1, a, rfl, ⟨vs, SqL.of e2⟩, k xs _ (.n a (.lst vs) :: .s vs xs :: P) H _ ⟨col', ?_⟩ (fun _ h => C3 _ (C3 _ h)) A9h ht⟩
   exact ((r'.sub fun _ h => C3 _ h).add (x := .s vs xs) t1).add (x := .n a (.lst vs)) ⟨by rw [show col' a = 0 from za]; decide, r'.notH (by rw [show col' a = 0 from za]; decide), e2⟩
 ·rename_i xs e
  obtain ⟨a, vs, e1, c, n, e2, t⟩ := r.sl i _ e
  exact ⟨_, K7 e1, a, rfl, ⟨vs, SqL.of e2⟩, k xs ρ (.n a (.lst vs) :: .s vs xs :: P) H _ ⟨col, (r.add (x := .s vs xs) t).add (x := .n a (.lst vs)) ⟨c, n, e2⟩⟩ (fun _ h => C3 _ (C3 _ h)) A9h ht⟩
 ·exact ht.elim
def K8 (lo : Int) (n : Nat) : List PyData := (N5 n).map fun i => .int (lo + ((i : Nat) : Int))
theorem B1z {lo : Int} {n i : Nat} {d : PyData} (h : (K8 lo n)[i]? = some d) : i < n /\ d = .int (lo + i) := by
 unfold K8 at h
 rw [R8] at h
 by_cases hi : i < n
 ·rw [B0o hi] at h
  cases h
  exact ⟨hi, rfl⟩
 ·rw [j4 (by rw [b3]; lia)] at h
  cases h
theorem C1p {lo : Int} {n : Nat} {P : List Pe} : A9g C (Itr lo n) (K8 lo n) P where
 go := fun {i _ _ _ _} _ _ hi => by
  have : (K8 lo n).length = n := by unfold K8; rw [F6, b3]
  show i < n
  lia
 yld := fun {i ρ σ P' H H' x d} _ R hi y => by
  obtain ⟨e1, e2⟩ := y
  subst e1 e2
  obtain ⟨_, e3⟩ := B1z hi
  subst e3
  obtain ⟨col, r⟩ := R
  exact ⟨col, r.push (.int _)⟩
 stop := fun _ _ => by
  have : (K8 lo n).length = n := by unfold K8; rw [F6, b3]
  show n <= (K8 lo n).length
  lia
def A7v (u : DF)  (ρ : List Sl) (Q : List PyData -> List Sl -> Prop) : Prop := u ρ fun ds ρ' => match ds with
 | [.int j] => (-(2 ^ 62) <= j /\ j < 2 ^ 62) /\ Q (K8 0 j.toNat) ρ'
 | _ => False
theorem A2b (h : PI X tg e (B31 (vOf C u))) : PI X tg e (iOf C (A7v u)) := PI.wk h fun _ _ _ zz7 => el3 zz7 fun ρ P _ R ht k => ⟨ρ, P, _, R, ht, fun vs ds ρ' P' H' zz8 s p q => zz8.elim fun col r => by
 split at q
 ·have t := p.th r
  obtain ⟨v, rfl, t1⟩ := A5j t
  cases t1
  exact ⟨_, rfl, q.1.1, q.1.2, k _ _ P' _ _ ⟨col, r⟩ s C1p q.2⟩
 ·exact q.elim⟩
def A9j (u : DF)  (ρ : List Sl) (Q : List PyData -> List Sl -> Prop) : Prop := u ρ fun ds ρ' => match ds with
 | [.int i, .int j] => (-(2 ^ 62) <= i /\ i < 2 ^ 62 /\ -(2 ^ 62) <= j /\ j < 2 ^ 62) /\ Q (K8 i (j - i).toNat) ρ'
 | _ => False
def g4 (xs : List PyData) : List PyData := xs.zipIdx.map fun p => .tuple [.int (p.2 : Nat), p.1]
theorem C1q {xs : List PyData} {i : Nat} {d : PyData} (h : (g4 xs)[i]? = some d) : ∃ x, xs[i]? = some x /\ d = .tuple [.int (i : Nat), x] := by
 unfold g4 at h
 rw [R8, List.getElem?_zipIdx] at h
 cases q : xs[i]? with
 | none => rw [q] at h; cases h
 | some x => rw [q] at h; cases h; exact ⟨x, rfl, by rw [Nat.zero_add]⟩
theorem B5o {K : A3} {a : Addr} {vs : List V} {xs : List PyData} {P : List Pe} : A9g C (Ite K a) (g4 xs) (.n a (.lst vs) :: .s vs xs :: P) where
 go := fun {i ρ σ P' H} s R hi => by
  obtain ⟨col, r⟩ := R
  have h1 := r.pd _ (s _ C6)
  have h2 : B4 (Z col) H vs xs := r.pd _ (s _ (C3 _ C6))
  have hl := h2.len
  have hi' : i < xs.length := by unfold g4 at hi; rw [F6, List.length_zipIdx] at hi; exact hi
  exact ⟨vs, vs[i], SqL.of h1.2.2, N0 (by lia)⟩
 yld := fun {i ρ σ P' H H' x d} s R hi y => by
  obtain ⟨p, v, rfl, hp, rfl, y⟩ := y
  obtain ⟨col, r⟩ := R
  have h1 := r.pd _ (s _ C6)
  have h2 : B4 (Z col) H vs xs := r.pd _ (s _ (C3 _ C6))
  have hx := y vs (SqL.of h1.2.2)
  obtain ⟨x, e1, rfl⟩ := C1q hi
  obtain ⟨d', e2, t⟩ := h2.get hx
  rw [e1] at e2
  cases e2
  exact ⟨col, r.tup (.cons (.int _) (.cons t .nil)) hp⟩
 stop := fun {ρ σ P' H} s R => by
  obtain ⟨col, r⟩ := R
  have h1 := r.pd _ (s _ C6)
  have h2 : B4 (Z col) H vs xs := r.pd _ (s _ (C3 _ C6))
  have hl := h2.len
  exact ⟨vs, SqL.of h1.2.2, by unfold g4; rw [F6, List.length_zipIdx]; lia⟩
def A7w (t : DE)  (ρ : List Sl) (Q : List PyData -> List Sl -> Prop) : Prop := t ρ fun d ρ' => bnd (M0 d) fun xs => Q (g4 xs) ρ'
theorem C1r {K : A3} (h : PI X tg e (B1m K (P3 (eOf C t) T8))) : PI X tg e (iOf C (A7w t)) := PI.wk h fun _ _ _ zz11 => el3 zz11 fun ρ P _ R ht k => ⟨ρ, P, _, R, ht, fun v d ρ' H' zz12 q => zz12.elim fun col r => by
 obtain ⟨xs, hx, q⟩ := L0 q
 have := A2a hx
 subst this
 obtain ⟨a, vs, rfl, za, e1, t1⟩ := P9 (show ThV (Z col) H' v (.list xs) from r.pd _ C6)
 refine ⟨a, rfl, ⟨vs, SqL.of e1⟩, k _ ρ' (.n a (.lst vs) :: .s vs xs :: P) H' _ ⟨col, ?_⟩ (fun _ h => C3 _ (C3 _ h)) B5o q⟩
 exact ((r.sub fun _ h => C3 _ h).add (x := .s vs xs) t1).add (x := .n a (.lst vs)) ⟨by rw [show col a = 0 from za]; decide, r.notH (by rw [show col a = 0 from za]; decide), e1⟩⟩
end
def A2c (tt : DT) (te : DE) (ρ : List Sl) (Q : List PyData -> Prop) : List PyData -> List PyData -> Prop
 | [], acc => Q acc
 | x :: r, acc => tt (ρ ++ [.sh x]) fun b ρ' => ρ' = ρ ++ [.sh x] /\ if b = true then te (ρ ++ [.sh x]) fun d ρ'' => ρ'' = ρ ++ [.sh x] /\ A2c tt te ρ Q r (acc ++ [d]) else A2c tt te ρ Q r acc
def g5 (j : Nat) (it : DF) (tt : DT) (te : DE)  (ρ : List Sl) (Q : List PyData -> List Sl -> Prop) : Prop := it ρ fun xs ρ1 => (ρ1.length = j /\ xs.length <= 1000) /\ A2c tt te ρ1 (fun ds => Q ds ρ1) xs []
def B10  (ρ : List Sl) (Q : Bool -> List Sl -> Prop) : Prop := Q true ρ
section
variable {X : Cx} {C : DC}
theorem PTs.wk {es : List Expr} {t t' : TT} (h : PTs X es t) (f : ∀ σ H Q, t' σ H Q -> t σ H Q) : PTs X es t' := fun pins s σ H Q I q => h pins s σ H Q I (f σ H Q q)
theorem A9k : PTs X [] (cOf C B10) := PTs.wk B1e fun _ _ _ zz13 => el3 zz13 fun _ _ _ R ht k => k _ _ _ R ht
theorem Rel.ext {ρ : List Sl} {σ : St} {P : List Pe} {H : Hp} {x : V} {d : PyData} (R : Rel C ρ σ (.v x d :: P) H) : Rel C (ρ ++ [.sh d]) (σ ++ [some x]) P H := by
 obtain ⟨col, r⟩ := R
 have t : ThV (Z col) H x d := r.pd _ C6
 have r := r.sub fun _ h => C3 _ h
 refine ⟨col, { r with sl := fun i s e => ?_, len := by rw [O3, O3, r.len]; rfl }⟩
 by_cases hi : i < ρ.length
 ·rw [A3r hi] at e
  rw [A3r (by rw [<- r.len]; exact hi)]
  exact r.sl i s e
 ·rw [A7a (by lia)] at e
  rw [A7a (by rw [<- r.len]; lia), <- r.len]
  match q : i - ρ.length with
  | 0 =>
   rw [q] at e
   cases e
   exact ⟨x, rfl, t⟩
  | n + 1 => rw [q] at e; simp at e
theorem C0.unext {col : Addr -> Nat} {ρ ρ' : List Sl} {σ σ' : St} {P : List Pe} {H : Hp} (r : C0 C col (ρ ++ ρ') (σ ++ σ') P H) (hl : ρ.length = σ.length) : C0 C col ρ σ P H := by
 refine { r with sl := fun i s e => ?_, len := hl }
 have hi := (i8.mp e).1
 have := r.sl i s (by rw [A3r hi]; exact e)
 rw [A3r (by lia)] at this
 exact this
theorem B4.snoc {F : Addr -> Prop} {H : Hp} {vs : List V} {ds : List PyData} {v : V} {d : PyData} (t : B4 F H vs ds) (x : ThV F H v d) : B4 F H (vs ++ [v]) (ds ++ [d]) := t.append (.cons x .nil)
theorem C1s {σ : St} {n j : Nat} {x : V} (h1 : n = σ.length + 1) (h2 : j = σ.length) : (S4 n j σ).set j (some x) = σ ++ [some x] := by
 subst h1 h2
 unfold S4
 rw [B0p (by simp), List.set_append_right _ _ (J8 _), List.set_append_right _ _ (J8 _)]
 simp
theorem B5p {it : DF} {tt : DT} {te : DE} {n j : Nat} (hn : n = j + 1) {σ : St} {H : Hp} {Q : VK} (h : fOf C (g5 j it tt te) σ H Q) : A7k (iOf C it) n j (fun _ => cOf C tt) (fun _ => eOf C te) σ H Q := by
 obtain ⟨ρ, P, Qd, R, ht, k⟩ := h
 refine ⟨ρ, P, _, R, ht, fun xs ρ1 P1 H1 J R1 s1 io q => ?_⟩
 obtain ⟨⟨hj, hx⟩, q⟩ := q
 have lz : ∀ m, m <= 1000 -> m <= sizeLine := fun m hm => A8k (A84 hm)
 refine ⟨fun i m ys H' => m = xs.length - i /\ i <= xs.length /\ ys.length <= i /\ ∃ acc, Rel C ρ1 σ (.s ys acc :: P1) H' /\ A2c tt te ρ1 (fun ds => Qd ds ρ1) (xs.drop i) acc, ⟨xs.length, by simp, M9 _, J8 _, [], ?_, q⟩, ?_⟩
 ·obtain ⟨col, r⟩ := R1
  exact ⟨col, r.add (x := .s [] []) .nil⟩
 rintro i m ys H2 ⟨rfl, hi, hy, acc, R2, q2⟩
 refine ⟨lz _ (by lia), ?_⟩
 have sub2 : ∀ p ∈ P1, p ∈ Pe.s ys acc :: P1 := fun _ h => C3 _ h
 have hlen : ρ1.length = σ.length := by obtain ⟨col, r⟩ := R2; exact r.len
 by_cases hlt : i < xs.length
 ·rw [A8n hlt] at q2
  refine .inr ⟨io.go sub2 R2 hlt, fun ys' H' => ys'.length <= i + 1 /\ ∃ acc, Rel C ρ1 σ (.s ys' acc :: P1) H' /\ A2c tt te ρ1 (fun ds => Qd ds ρ1) (xs.drop (i + 1)) acc, fun ys' H' zz14 => zz14.elim fun h1 h2 => ⟨xs.length - (i + 1), by lia, rfl, hlt, h1, h2⟩, fun x H3 y a => ?_⟩
  have R3 := (io.yld sub2 R2 (N0 hlt) y).ext
  rw [C1s (by rw [hn, <- hlen, hj]) (by rw [<- hlen, hj])]
  refine ⟨_, _, _, R3, q2, fun b ρ' H4 R4 q4 => ?_⟩
  obtain ⟨rfl, q4⟩ := q4
  cases b with
  | true =>
   refine L5 ⟨_, _, _, R4, by simpa using q4, fun v d ρ'' H5 R5 q5 => ?_⟩
   obtain ⟨rfl, q5⟩ := q5
   refine ⟨by rw [O3]; simp; lia, acc ++ [d], ?_, q5⟩
   obtain ⟨col, r⟩ := R5
   have t1 : ThV (Z col) H5 v d := r.pd _ C6
   have t2 : B4 (Z col) H5 ys acc := r.pd _ (C3 _ C6)
   exact ⟨col, ((r.unext hlen).sub fun _ h => C3 _ (C3 _ h)).add (x := .s (ys ++ [v]) (acc ++ [d])) (t2.snoc t1)⟩
  | false =>
   refine G9 ⟨by lia, acc, ?_, by simpa using q4⟩
   obtain ⟨col, r⟩ := R4
   exact ⟨col, r.unext hlen⟩
 ·have e : i = xs.length := by lia
  subst e
  rw [List.drop_length] at q2
  refine .inl ⟨io.stop sub2 R2, fun p hp => k _ _ _ _ _ ?_ hp q2⟩
  obtain ⟨col, r⟩ := R2
  exact ⟨col, r.sub fun p hp => C3 _ (s1 p hp), r.pd _ C6⟩
end
structure K9 where
 nx : List Sl -> Prop
 rt : PyData -> Prop
 bk : List Sl -> Prop := fun _ => False
 ct : List Sl -> Prop := fun _ => False
 ro : Sl -> Prop := fun _ => False
abbrev DS := K9 -> List Sl -> Prop
def C1t (C : DC) (col : Addr -> Nat) (H : Hp) (v : V) : Sl -> Prop
 | .ow ds => ∃ a vs, v = .ref a /\ C.H0 a = none /\ col a ≠ 0 /\ H a = some (.lst vs) /\ B4 (Z col) H vs ds
 | .o2 dss => ∃ a as, v = .ref a /\ (C.H0 a = none /\ col a ≠ 0) /\ H a = some (.lst (as.map V.ref)) /\ (a :: as).Nodup /\ Rws (fun b => C.H0 b = none /\ col b ≠ 0) (Z col) H as dss
 | .di false ks => ∃ a, v = .ref a /\ C.H0 a = none /\ H a = some (.dT (dEn ks))
 | _ => False
structure C1u (C : DC) (P : List Pe) (Dd : K9) (D : v5) : Prop where
 nx : ∀ ρ σ H, Rel C ρ σ P H -> Dd.nx ρ -> D.nx σ H
 rt : ∀ v d ρ σ H, Rel C ρ σ (.v v d :: P) H -> Dd.rt d -> D.rt v H
 bk : ∀ ρ σ H, Rel C ρ σ P H -> Dd.bk ρ -> D.bk σ H
 ct : ∀ ρ σ H, Rel C ρ σ P H -> Dd.ct ρ -> D.ct σ H
 ro : ∀ (v : V) (s : Sl) (ρ : List Sl) σ H col, C0 C col ρ σ P H -> C1t C col H v s -> Dd.ro s -> D.rt v H
def sOf (C : DC) (t : DS) : TS := fun D σ H => ∃ ρ P Dd, Rel C ρ σ P H /\ t Dd ρ /\ C1u C P Dd D
section
variable {X : Cx} {C : DC} {st : Stmt} {sts : List Stmt} {e : Expr} {t u : DS} {te : DE} {tf : DF} {c : DT} {pos : Pos}
theorem PS.wk {t t' : TS} (h : PS X st t) (f : ∀ D σ H, t' D σ H -> t D σ H) : PS X st t' := fun pins s σ H D I q => h pins s σ H D I (f D σ H q)
theorem PSs.wk {t t' : TS} (h : PSs X sts t) (f : ∀ D σ H, t' D σ H -> t D σ H) : PSs X sts t' := fun pins s σ H D I q => h pins s σ H D I (f D σ H q)
def A04 (t u : DS)  (D : K9) (ρ : List Sl) : Prop := t { D with nx := u D } ρ
def A05  (D : K9) (ρ : List Sl) : Prop := D.nx ρ
theorem K1 : PSs X [] (sOf C A05) := PSs.wk A43 fun _ _ _ zz15 => el3 zz15 fun _ _ _ R ht E => E.nx _ _ _ R ht
theorem B6 (h : PS X st (sOf C t)) : PSs X [st] (sOf C t) := S3 h
theorem F8 (h1 : PS X st (sOf C t)) (h2 : PSs X sts (sOf C u)) : PSs X (st :: sts) (sOf C (A04 t u)) := PSs.wk (K5 h1 h2) fun _ _ _ zz16 => el3 zz16 fun ρ P Dd R ht E => ⟨ρ, P, { Dd with nx := u Dd }, R, ht, ⟨fun ρ' _ _ R' h => ⟨ρ', P, Dd, R', h, E⟩, E.rt, E.bk, E.ct, E.ro⟩⟩
def Go (f : List Sl -> Prop) (ρ : List Sl) : Prop := f ρ
theorem go {f : List Sl -> Prop} {ρ : List Sl} (h : f ρ) : Go f ρ := h
def N7 (t u : DS) (D : K9) (ρ : List Sl) : Prop := t { D with nx := Go (u D) } ρ
theorem D1 (h1 : PS X st (sOf C t)) (h2 : PSs X sts (sOf C u)) : PSs X (st :: sts) (sOf C (N7 t u)) := PSs.wk (K5 h1 h2) fun _ _ _ zz17 => el3 zz17 fun ρ P Dd R ht E => ⟨ρ, P, { Dd with nx := Go (u Dd) }, R, ht, ⟨fun ρ' _ _ R' h => ⟨ρ', P, Dd, R', h, E⟩, E.rt, E.bk, E.ct, E.ro⟩⟩
def V7 (t : DS)  (D : K9) (ρ : List Sl) : Prop := ∃ M : List Sl -> Prop, t { D with nx := M } ρ /\ ∀ ρ', M ρ' -> D.nx ρ'
theorem N1 (h : PS X st (sOf C t)) : PS X st (sOf C (V7 t)) := PS.wk h fun _ _ _ ⟨ρ, P, Dd, R, ⟨M, h1, h2⟩, E⟩ => ⟨ρ, P, { Dd with nx := M }, R, h1, ⟨fun ρ' σ' H' R' h => E.nx ρ' σ' H' R' (h2 ρ' h), E.rt, E.bk, E.ct, E.ro⟩⟩
theorem C1v : PS X st (sOf C fun _ _ => False) := PS.wk C02 fun _ _ _ zz22 => el3 zz22 fun _ _ _ _ h _ => h
def A06 (te : DE)  (D : K9) (ρ : List Sl) : Prop := te ρ fun d _ => D.rt d
theorem D2 (h : PE X e (eOf C te)) : PS X (.Return (some e) pos) (sOf C (A06 te)) := PS.wk (v7 h) fun _ _ _ zz23 => el3 zz23 fun ρ P _ R ht E => ⟨ρ, P, _, R, ht, fun v d _ _ R' q => E.rt v d _ _ _ R' q⟩
def A07 (c : DT) (t u : DS)  (D : K9) (ρ : List Sl) : Prop := c ρ fun b ρ' => if b = true then t D ρ' else u D ρ'
theorem K0 {ce : Expr} {a b : List Stmt} (hc : PT X ce (cOf C c)) (ha : PSs X a (sOf C t)) (hb : PSs X b (sOf C u)) : PS X (.If ce a b pos) (sOf C (A07 c t u)) := PS.wk (A30 hc ha hb) fun _ _ _ zz26 => el3 zz26 fun ρ P Dd R ht E => ⟨ρ, P, _, R, ht, fun b ρ' _ R' q => by
 cases b with
 | true => exact L5 ⟨ρ', P, Dd, R', by simpa using q, E⟩
 | false => exact G9 ⟨ρ', P, Dd, R', by simpa using q, E⟩⟩
def A2d (te : DE)  (D : K9) (ρ : List Sl) : Prop := te ρ fun _ ρ' => D.nx ρ'
def A08 (i : Nat) (te : DE)  (D : K9) (ρ : List Sl) : Prop := te ρ fun d ρ' => D.nx (ρ'.set i (.sh d))
theorem E1 {i : Nat} (hp : PS X st (A31 (eOf C te) (Q4 i))) : PS X st (sOf C (A08 i te)) := PS.wk hp fun _ _ _ zz28 => el3 zz28 fun ρ P _ R ht E => ⟨ρ, P, _, R, ht, fun v d ρ' H' zz29 q => zz29.elim fun col r => E.nx _ _ _ ⟨col, ((r.store (i := i) (r.pd _ C6)).sub fun _ h => C3 _ h)⟩ q⟩
def n5 (i : Nat) (tf : DF)  (D : K9) (ρ : List Sl) : Prop := tf ρ fun ds ρ' => D.nx (ρ'.set i (.ow ds))
theorem g6 {i : Nat} (hp : PS X st (A31 (fOf C tf) (Q4 i))) : PS X st (sOf C (n5 i tf)) := PS.wk hp fun _ _ _ zz30 => el3 zz30 fun ρ P _ R ht E => ⟨ρ, P, _, R, ht, fun p vs ds ρ' H1 zz31 hp q => el2 zz31 fun col r t => E.nx _ _ _ (r.own t hp) q⟩
theorem C1w {i n j : Nat} {it : DF} {tt : DT} (hn : n = j + 1) (hp : PS X st (fun D σ H => A7k (iOf C it) n j (fun _ => cOf C tt) (fun _ => eOf C te) σ H fun v H1 => D.nx (σ.set i (some v)) H1)) : PS X st (sOf C (n5 i (g5 j it tt te))) :=
 PS.wk hp fun _ _ _ zz32 => el3 zz32 fun ρ P _ R ht E => B5p hn ⟨ρ, P, _, R, ht, fun p vs ds ρ' H1 zz33 hp q => el2 zz33 fun col r t => E.nx _ _ _ (r.own t hp) q⟩
def n6 (i : Nat) (te : DE)  (D : K9) (ρ : List Sl) : Prop := match ρ[i]? with
 | some (.ow _) => te ρ fun d ρ' => match ρ'[i]? with
  | some (.ow ds) => ds.length <= 1000 /\ D.nx (ρ'.set i (.ow (ds ++ [d])))
  | _ => False
 | _ => False
theorem A2e {i : Nat} {K : A3} (hp : PS X st (A8r (tBM K "list" A82 (S1 i) (P3 (eOf C te) T8)))) : PS X st (sOf C (n6 i te)) := PS.wk hp fun D σ H zz36 => el3 zz36 fun ρ P Dd zz37 ht E => zz37.elim fun col r => by
 unfold n6 at ht
 split at ht
 ·rename_i ds0 e0
  obtain ⟨a, vs, e1, c, n, e2, t⟩ := r.sl i _ e0
  refine ⟨.ref a, K7 e1, .inl ⟨rfl, vs, SqL.of e2⟩, ρ, P, _, ⟨col, r⟩, ht, fun v d ρ' H' zz38 q => zz38.elim fun col' r' => ?_⟩
  split at q
  ·rename_i ds e0'
   obtain ⟨a', vs', e1', c', n', e2', t'⟩ := r'.sl i _ e0'
   rw [e1] at e1'
   cases e1'
   exact ⟨a, vs', v, rfl, rfl, e2', by rw [t'.len]; exact A84 q.1, E.nx _ _ _ ⟨col', ((r'.write e0' e1 (t'.snoc (r'.pd _ C6)))).sub fun _ h => C3 _ h⟩ q.2⟩
  ·exact q.elim
 ·exact ht.elim
def A09 (i : Nat) (te tk : DE)  (D : K9) (ρ : List Sl) : Prop := te ρ fun d ρ1 => match ρ1[i]? with
 | some (.ow _) => tk ρ1 fun k ρ2 => match ρ2[i]? with
  | some (.ow ds) => match k with
   | .int k => bnd (ixN ds.length k) fun j => D.nx (ρ2.set i (.ow (ds.set j d)))
   | _ => False
  | _ => False
 | _ => False
theorem B4.set {F : Addr -> Prop} {H : Hp} {v : V} {d : PyData} (x : ThV F H v d) : ∀ {vs : List V} {ds : List PyData} (j : Nat), B4 F H vs ds -> B4 F H (vs.set j v) (ds.set j d)
 | _, _, _, .nil => .nil
 | _, _, 0, .cons _ t => .cons x t
 | _, _, j + 1, .cons y t => .cons y (B4.set x j t)
theorem A7x {i : Nat} {tk : DE} (hp : PS X st (A31 (eOf C te) (B3v (S1 i) (eOf C tk) B4k))) : PS X st (sOf C (A09 i te tk)) := PS.wk hp fun D σ H zz39 => el3 zz39 fun ρ P Dd R ht E => ⟨ρ, P, _, R, ht, fun v d ρ1 H1 zz40 q1 => zz40.elim fun col1 r1 => by
 split at q1
 ·rename_i ds0 e0
  obtain ⟨a, vs, e1, c, n, e2, t⟩ := r1.sl i _ e0
  refine ⟨.ref a, K7 e1, ρ1, _, _, ⟨col1, r1⟩, q1, fun w k ρ2 H2 zz41 q2 => zz41.elim fun col2 r2 => ?_⟩
  split at q2
  ·rename_i ds e0'
   cases k with
   | int k' =>
    obtain ⟨j, hj, q⟩ := L0 q2
    obtain ⟨a', vs', e1', c', n', e2', t'⟩ := r2.sl i _ e0'
    rw [e1] at e1'
    cases e1'
    have tw : ThV (Z col2) H2 w (.int k') := r2.pd _ C6
    cases tw
    refine ⟨a, vs', k', j, rfl, rfl, e2', by rw [t'.len]; exact hj, E.nx _ _ _ ⟨col2, ((r2.write e0' e1 (B4.set (r2.pd (.v v d) (C3 _ C6)) j t'))).sub fun _ h => C3 _ (C3 _ h)⟩ q⟩
   | _ => exact q2.elim
  ·exact q2.elim
 ·exact q1.elim⟩
abbrev DG := PyData -> List Sl -> (List Sl -> Prop) -> Prop
def gOf (C : DC) (g : DG) : TG := fun v σ H Q => ∃ ρ P d Qd, Rel C ρ σ (.v v d :: P) H /\ g d ρ Qd /\ ∀ ρ' σ', Rel C ρ' σ' P H -> Qd ρ' -> Q σ' H
theorem PG.wk {tg : Expr} {g g' : TG} (h : PG X tg g) (f : ∀ v σ H Q, g' v σ H Q -> g v σ H Q) : PG X tg g' := fun pins s σ H v u Q I r q => h pins s σ H v u Q I r (f v σ H Q q)
def gN (i : Nat)  (d : PyData) (ρ : List Sl) (Q : List Sl -> Prop) : Prop := Q (ρ.set i (.sh d))
theorem Z3 {tg : Expr} {i : Nat} (h : PG X tg (Q4 i)) : PG X tg (gOf C (gN i)) := PG.wk h fun _ _ _ _ ⟨_, _, _, _, ⟨col, r⟩, ht, k⟩ => k _ _ ⟨col, ((r.store (i := i) (r.pd _ C6)).sub fun _ h => C3 _ h)⟩ ht
def gT2 (i j : Nat)  (d : PyData) (ρ : List Sl) (Q : List Sl -> Prop) : Prop := match d with
 | .tuple [a, b] => Q ((ρ.set i (.sh a)).set j (.sh b))
 | _ => False
def gT3 (i j k : Nat)  (d : PyData) (ρ : List Sl) (Q : List Sl -> Prop) : Prop := match d with
 | .tuple [a, b, c] => Q (((ρ.set i (.sh a)).set j (.sh b)).set k (.sh c))
 | _ => False
theorem A7y {tg : Expr} {i j : Nat} {K : A3} (h : PG X tg (A8s K 2 (Y5 (Q4 i) (Y5 (Q4 j) A7f)))) : PG X tg (gOf C (gT2 i j)) := PG.wk h fun v σ H Q ⟨ρ, P, d, Qd, ⟨col, r⟩, ht, k⟩ => by
 unfold gT2 at ht
 split at ht
 ·rename_i a b
  have z : ThV (Z col) H v (.tuple [a, b]) := r.pd _ C6
  cases z with
  | tup za e t =>
   obtain ⟨x, y, rfl, t1, t2⟩ := X6 t
   exact ⟨_, _, rfl, SqT.of e, rfl, x, [y], rfl, y, [], rfl, rfl, k _ _ ⟨col, (((r.store (i := i) t1).store (i := j) t2).sub fun _ h => C3 _ h)⟩ ht⟩
 ·exact ht.elim
theorem C1x {tg : Expr} {i j l : Nat} {K : A3} (h : PG X tg (A8s K 3 (Y5 (Q4 i) (Y5 (Q4 j) (Y5 (Q4 l) A7f))))) : PG X tg (gOf C (gT3 i j l)) := PG.wk h fun v σ H Q ⟨ρ, P, d, Qd, ⟨col, r⟩, ht, k⟩ => by
 unfold gT3 at ht
 split at ht
 ·rename_i a b c
  have z : ThV (Z col) H v (.tuple [a, b, c]) := r.pd _ C6
  cases z with
  | tup za e t =>
   cases t with
   | cons t1 t =>
    obtain ⟨y, z, rfl, t2, t3⟩ := X6 t
    exact ⟨_, _, rfl, SqT.of e, rfl, _, [y, z], rfl, y, [z], rfl, z, [], rfl, rfl, k _ _ ⟨col, ((((r.store (i := i) t1).store (i := j) t2).store (i := l) t3).sub fun _ h => C3 _ h)⟩ ht⟩
 ·exact ht.elim
def A1a (te : DE) (g : DG)  (D : K9) (ρ : List Sl) : Prop := te ρ fun d ρ' => g d ρ' D.nx
theorem A37 {g : DG} (hp : PS X st (A31 (eOf C te) (gOf C g))) : PS X st (sOf C (A1a te g)) := PS.wk hp fun _ _ _ zz45 => el3 zz45 fun ρ P _ R ht E => ⟨ρ, P, _, R, ht, fun v d ρ' H' R' q => ⟨ρ', P, d, _, R', q, fun ρ2 σ2 R2 q2 => E.nx _ _ _ R2 q2⟩⟩
def Blk (t : DS) (D : K9) (ρ : List Sl) : Prop := t D ρ
def A9l (it : DF) (g : DG) (tb : DS) (D : K9) (ρ : List Sl) : Prop := it ρ fun xs ρ1 => ∃ I : List PyData -> List Sl -> Prop, I xs ρ1 /\ (∀ x r ρ, I (x :: r) ρ -> g x ρ (Blk tb { nx := I r, ct := I r, bk := D.nx, rt := D.rt })) /\ ∀ ρ, I [] ρ -> D.nx ρ
theorem W6 {it : DF} {g : DG} {tb : DS} (hp : PS X st (A8u (iOf C it) (gOf C g) (sOf C tb))) : PS X st (sOf C (A9l it g tb)) := PS.wk hp fun D σ H zz46 => el3 zz46 fun ρ P Dd R ht E => ⟨ρ, P, _, R, ht, fun xs ρ1 P1 H1 J R1 s1 io q => by
 obtain ⟨I, q0, qs, qd⟩ := q
 refine ⟨fun i m σ' H' => m = xs.length - i /\ i <= xs.length /\ ∃ ρ', Rel C ρ' σ' P1 H' /\ I (xs.drop i) ρ', ⟨xs.length, by simp, M9 _, ρ1, R1, q0⟩, ?_⟩
 rintro i m σ2 H2 ⟨rfl, hi, ρ2, R2, q2⟩
 by_cases hlt : i < xs.length
 ·rw [A8n hlt] at q2
  refine .inr ⟨io.go (fun _ h => h) R2 hlt, fun σ' H' => ∃ ρ', Rel C ρ' σ' P1 H' /\ I (xs.drop (i + 1)) ρ', fun σ' H' h => ⟨xs.length - (i + 1), by lia, rfl, hlt, h⟩, fun x H3 y => ?_⟩
  refine ⟨ρ2, P1, _, _, io.yld (fun _ h => h) R2 (N0 hlt) y, qs _ _ _ q2, fun ρ3 σ3 R3 q3 => ?_⟩
  refine ⟨ρ3, P1, ⟨I (xs.drop (i + 1)), Dd.rt, Dd.nx, I (xs.drop (i + 1)), fun _ => False⟩, R3, q3, ⟨fun ρ4 σ4 H4 R4 q4 => ⟨ρ4, R4, q4⟩, fun v d ρ4 σ4 H4 R4 q4 => E.rt v d ρ4 σ4 H4 (R4.sub (B5b s1)) q4, fun ρ4 σ4 H4 R4 q4 => E.nx ρ4 σ4 H4 (R4.sub s1) q4, fun ρ4 σ4 H4 R4 q4 => ⟨ρ4, R4, q4⟩, fun _ _ _ _ _ _ _ _ h => h.elim⟩⟩
 ·have e : i = xs.length := by lia
  subst e
  rw [List.drop_length] at q2
  exact .inl ⟨io.stop (fun _ h => h) R2, E.nx _ _ _ (R2.sub s1) (qd _ q2)⟩⟩
def A9m (c : DT) (tb : DS)  (D : K9) (ρ : List Sl) : Prop := ∃ W : Nat -> List Sl -> Prop, (∃ m, W m ρ) /\ ∀ m ρ, W m ρ -> c ρ fun b ρ1 => if b = true then Blk tb { nx := fun ρ' => ∃ m', m' < m /\ W m' ρ', ct := fun ρ' => ∃ m', m' < m /\ W m' ρ', bk := D.nx, rt := D.rt } ρ1 else D.nx ρ1
theorem B11 {tb : DS} (hp : PS X st (B0w (cOf C c) (sOf C tb))) : PS X st (sOf C (A9m c tb)) := PS.wk hp fun D σ H ⟨ρ, P, Dd, R, ⟨W, ⟨m0, w0⟩, turn⟩, E⟩ => by
 refine ⟨fun m σ' H' => ∃ ρ', Rel C ρ' σ' P H' /\ W m ρ', ⟨m0, ρ, R, w0⟩, ?_⟩
 rintro m σ1 H1 ⟨ρ1, R1, w1⟩
 refine ⟨ρ1, P, _, R1, turn m ρ1 w1, fun b ρ2 H2 R2 q2 => ?_⟩
 cases b with
 | true =>
  refine L5 ⟨fun σ' H' => ∃ ρ', Rel C ρ' σ' P H' /\ ∃ m', m' < m /\ W m' ρ', fun σ' H' zz48 => zz48.elim fun ρ' zz49 => zz49.elim fun R' zz50 => zz50.elim fun m' zz51 => zz51.elim fun hm w => ⟨m', hm, ρ', R', w⟩, ρ2, P, ⟨fun ρ' => ∃ m', m' < m /\ W m' ρ', Dd.rt, Dd.nx, fun ρ' => ∃ m', m' < m /\ W m' ρ', fun _ => False⟩, R2, by simpa [Blk] using q2, ⟨fun ρ4 σ4 H4 R4 q4 => ⟨ρ4, R4, q4⟩, E.rt, fun ρ4 σ4 H4 R4 q4 => E.nx ρ4 σ4 H4 R4 q4, fun ρ4 σ4 H4 R4 q4 => ⟨ρ4, R4, q4⟩, fun _ _ _ _ _ _ _ _ h => h.elim⟩⟩
 | false => exact G9 (E.nx _ _ _ R2 (by simpa using q2))
end
open PySem.Spec PyProof.Rows
def V2 : Md -> PyData -> Sl
 | .sh, d => .sh d
 | .bo, .list ds => .bo ds
 | .bo, _ => .no
 | .hd, _ => .hd
 | .b2, d => match B1y d with
  | some dss => .b2 dss
  | none => .no
 | .bd, d => .bd d
theorem B5q : ∀ dss : List (List PyData), A19 (lls dss) = some dss
 | [] => rfl
 | ds :: dss => by
  show (A19 (lls dss)).map (ds :: ·) = some (ds :: dss)
  rw [B5q dss]; rfl
theorem C1y (dss : List (List PyData)) : V2 .b2 (.list (lls dss)) = .b2 dss := by
 show (match A19 (lls dss) with
  | some dss => Sl.b2 dss
  | none => .no) = _
 rw [B5q]
def A2f (n : Nat) : List Md -> List PyData -> List Sl
 | m :: ms, d :: ds => V2 m d :: A2f (n - 1) ms ds
 | _, _ => G8 n .no
def W7 : List Str -> List Md -> List PyData -> List Sl
 | [], _, _ => []
 | _ :: N, ms, ds => (match ms, ds with
  | m :: _, d :: _ => V2 m d
  | _, _ => .no) :: W7 N ms.tail ds.tail
theorem B5r : ∀ N : List Str, W7 N [] [] = G8 N.length .no
 | [] => rfl
 | _ :: N => by
  show Sl.no :: W7 N [] [] = _
  rw [B5r N]; rfl
theorem B5s : ∀ {N : List Str} {ms : List Md} {ds : List PyData}, ms.length <= N.length -> ds.length = ms.length -> W7 N ms ds = A2f N.length ms ds
 | N, [], [], _, _ => B5r N
 | _ :: N, m :: ms, d :: ds, h1, h2 => by
  show V2 m d :: W7 N ms ds = V2 m d :: A2f (N.length + 1 - 1) ms ds
  rw [B5s (by simpa using h1) (by simpa using h2)]; rfl
 | [], _ :: _, _, h, _ => by simp at h
 | _, [], _ :: _, _, h => by simp at h
 | _, _ :: _, [], _, h => by simp at h
section
variable {P : Program} {w : World} {K : A3} {mg : Str -> Option Value} {base : Heap}
theorem C1z {C : DC} {col : Addr -> Nat} {H : Hp} {F : Addr -> Prop} {hand : Option (Addr × Addr)} (hC : C.hand = hand) (hH : C.H0 = H) (f : ∀ b, F b -> col b = 0) (lo : ∀ b, col b <= 1) {ms : List Md} {vs : List V} {ds : List PyData} {n : Nat} (ar : X7 F hand H ms vs ds) :
  ∀ (i : Nat) (s : Sl), (A2f n ms ds)[i]? = some s -> ∀ j : Nat, SlR C col H j ((vs.map some ++ G8 (n - vs.length) none)[i]?).join s := by
 induction ar generalizing n with
 | nil =>
  intro i s e j
  have e' : (G8 n Sl.no)[i]? = some s := e
  rw [B3a] at e'
  split at e'
  ·cases e'; trivial
  ·cases e'
 | @cons m v d ms vs ds a t ih =>
  intro i s e j
  have e' : (V2 m d :: A2f (n - 1) ms ds)[i]? = some s := e
  cases i with
  | zero =>
   cases e'
   show SlR C col H j (some v) (V2 m d)
   have mv0 : ∀ b o, F b -> H b = some o -> Z col b /\ H b = some o := fun b o z e => ⟨f b z, e⟩
   cases m with
   | sh => exact ⟨v, rfl, ThV.mv mv0 a⟩
   | bo =>
    obtain ⟨ad, us, es, rfl, rfl, nh, e2, t2⟩ := a
    exact ⟨ad, us, rfl, lo ad, by rw [hC]; exact nh, e2, B4.mv mv0 t2⟩
   | hd =>
    obtain ⟨q, hq, rfl⟩ := a
    exact ⟨q, hC.trans hq, rfl⟩
   | b2 =>
    obtain ⟨ad, as, dss, rfl, rfl, nh, e2, t2⟩ := a
    rw [C1y]
    exact ⟨ad, as, rfl, ⟨lo ad, by rw [hC]; exact nh⟩, e2, t2.mv mv0 fun b o g e => ⟨⟨lo b, by rw [hC]; exact g⟩, e⟩⟩
   | bd => exact ⟨v, rfl, ThV.mv (fun b o g e => ⟨⟨(by rw [hH, e]; exact fun q => nomatch q), by rw [hC]; exact g⟩, by rw [hH]; exact e⟩) a⟩
  | succ i =>
   have := ih (n := n - 1) i s e' j
   rw [j1, A1x, A3t, M2, show n - (vs.length + 1) = n - 1 - vs.length by lia]
   exact this
theorem C10 {F : Addr -> Prop} {hand : Option (Addr × Addr)} {H : Hp} {ms : List Md} {vs : List V} {ds : List PyData} {n : Nat} (a : X7 F hand H ms vs ds) (h : ms.length <= n) : (A2f n ms ds).length = n := by
 induction a generalizing n with
 | nil => show (G8 n Sl.no).length = n; rw [B0l]
 | @cons m v d ms vs ds a t ih =>
  show (V2 m d :: A2f (n - 1) ms ds).length = n
  rw [M2] at h
  rw [M2, ih (by lia)]
  lia
open Classical in
theorem J3 {x qual : Str} {st : Stmt} {f : Addr} {fd : FuncData} {N ps : List Str} {k : Nat} {sp : DSp} {ms : List Md} (F : Fun K x qual st f fd) (S : F1 N ps (B0 st)) (hm : ms.length = ps.length)
  (hb : ∀ (C : DC) (cdv : Value) (A : Around) (outer : List Env) (s : Shared) (H : Hp) (E : XK), Q6 k (A.deeper (envOfC qual (B0 st) s.heap.objs.size f cdv)) ->
   ∃ t, PSs (A32 CX0 P w K mg base N qual (B0 st) f cdv A outer s H E).nox (E4 st) (sOf C t) /\ ∀ ds Q, ds.length = ms.length -> sp ds Q -> t { nx := fun _ => Q .none, rt := Q } (W7 N ms ds)) :
  D4 P w K mg base CX0 (k + 1) f fd ps (spD ms sp) := by
 refine F.ok S (fun vs H Q E h => ?_) (fun cdv A outer s H vs Q E hr h => ?_)
 ·obtain ⟨_, _, _, _, _, _, _, a, _⟩ := h
  rw [a.len.1, hm]
 ·obtain ⟨G, hand, ds, Qd, h1, h2, h3, a, h4, h5⟩ := h
  obtain ⟨t, ht, q⟩ := hb ⟨G, hand, H⟩ cdv A outer s H E hr
  have hN : ps.length <= N.length := by have := congrArg A3q S.pre; rw [A4q] at this; lia
  let col : Addr -> Nat := fun b => if G b then 0 else 1
  have c0 : ∀ b, G b -> col b = 0 := fun b hb => if_pos hb
  have c1 : ∀ b, ¬ G b -> col b = 1 := fun b hb => if_neg hb
  have lo : ∀ b, col b <= 1 := fun b => by
   by_cases z : G b
   ·rw [c0 b z]; lia
   ·rw [c1 b z]; lia
  refine ⟨_, ht, A2f N.length ms ds, [], ⟨fun _ => Qd .none, Qd, fun _ => False, fun _ => False, fun _ => False⟩, ⟨col, fun b hb => c0 b (h1.1 b hb), fun b hb => ?_, fun q hq => c1 _ (h2 q hq), fun i s e => C1z (C := ⟨G, hand, H⟩) rfl rfl c0 lo a i s e i, fun p hp => (nomatch hp), Kq.refl, h3, h3, h1, ?_⟩, by rw [<- B5s (by lia) a.len.2]; exact q ds Qd a.len.2 h4, ⟨fun ρ σ H' R h => ?_, fun v d ρ σ H' R h => ?_, fun _ _ _ _ h => h.elim, fun _ _ _ _ h => h.elim, fun _ _ _ _ _ _ _ _ h => h.elim⟩⟩
  ·by_cases z : G b
   ·exact z
   ·rw [c1 b z] at hb; cases hb
  ·rw [C10 a (by lia)]
   unfold L2.start
   rw [O3, F6, B0l, a.len.1]
   lia
  ·obtain ⟨col', r⟩ := R
   exact h5 _ _ _ h .non r.kq r.hq
  ·obtain ⟨col', r⟩ := R
   exact h5 _ _ _ h (ThV.mv (fun b o z e => ⟨r.inF b z, e⟩) (r.pd _ C6)) r.kq r.hq
open Classical in
end
end My
namespace My
open PySem L2
section
variable {X : Cx} {C : DC} {tg e a b : Expr} {t ta tb : DE} {u : DF} {pos : Pos}
def A2g : List PyData -> Option (List Int)
 | [] => some []
 | .int b :: r => (A2g r).map (b :: ·)
 | _ :: _ => none
theorem B5t {F : Addr -> Prop} {H : Hp} {ds : List PyData} {vs : List V} {bs : List Int} (t : B4 F H vs ds) (h : A2g ds = some bs) : vs = bs.map V.int := by
 induction ds generalizing vs bs with
 | nil => cases t; cases h; rfl
 | cons d r ih =>
  cases t with
  | cons x y =>
   cases x with
   | int b =>
    have h' : (A2g r).map (b :: ·) = some bs := h
    cases q : A2g r with
    | none => rw [q] at h'; cases h'
    | some cs =>
     rw [q] at h'
     cases h'
     rw [ih y q]; rfl
   | _ => cases h
theorem A9n : ∀ ns : List Int, A2g (ns.map PyData.int) = some ns
 | [] => rfl
 | n :: ns => by
  show (A2g (ns.map PyData.int)).map (n :: ·) = some (n :: ns)
  rw [A9n ns]; rfl
def gIn (neg : Bool)  (a b : PyData) (Q : PyData -> Prop) : Prop := match a, b with
 | .int i, .list xs => bnd (A2g xs) fun ns => Q (.bool (if neg then !(ns.contains i) else ns.contains i))
 | _, _ => False
theorem B5u (i : Int) : ∀ ns : List Int, inV (V.int i) (ns.map V.int) = ns.contains i
 | [] => rfl
 | n :: ns => by
  have := B5u i ns
  unfold inV at this ⊢
  rw [j1, List.any_cons, this, List.contains_cons]
  congr 1
  show (n == i) = (i == n)
  exact Bool.beq_comm
theorem B5v : ∀ ns : List Int, (ns.map V.int).all x6 = true
 | [] => rfl
 | n :: ns => by rw [j1, List.all_cons, B5v ns]; rfl
theorem C11 {K : A3} {neg : Bool} : P4 C (rIn K neg) (gIn neg) := by
 intro ρ σ P H v w a b Qd Q R hg k
 unfold gIn at hg
 split at hg
 ·obtain ⟨ns, hn, q⟩ := L0 hg
  obtain ⟨col, r, t1, t2⟩ := th2 R
  cases t1
  cases t2 with
  | lst za e t =>
   have z := B5t t hn
   subst z
   refine ⟨_, _, rfl, .inl (SqL.of e), rfl, B5v ns, k _ _ _ ⟨col, r.push ?_⟩ q⟩
   rw [B5u]
   exact .bl _
 ·exact hg.elim
def A1b (i : Nat) (tk : DE)  (ρ : List Sl) (Q : PyData -> List Sl -> Prop) : Prop := bnd (N6 ρ i) fun a0 => bnd (M0 a0) fun _ => tk ρ fun k ρ2 => match k with
 | .int k => bnd (N6 ρ2 i) fun a => bnd (M0 a) fun xs => bnd (A2g xs) fun ns => (k ∈ ns /\ ns.length <= 100000) /\ Q (.int (ns.idxOf k : Nat)) ρ2
 | _ => False
theorem B5w {i : Nat} {K : A3} (h : PE X e (tBM K "list" (B40 K) (S1 i) (P3 (eOf C t) T8))) : PE X e (eOf C (A1b i t)) := PE.wk h fun σ H Q zz1 => el3 zz1 fun ρ P Qd zz2 ht k => zz2.elim fun col0 r0 => by
 obtain ⟨a0, h0, ht⟩ := L0 ht
 obtain ⟨xs0, hx0, ht⟩ := L0 ht
 have := A2a hx0
 subst this
 obtain ⟨v, ev, t0⟩ := r0.slot h0
 obtain ⟨a, vs, rfl, e0, _⟩ := t0.lst
 refine ⟨_, ev, .inl ⟨rfl, vs, SqL.of e0⟩, ρ, P, _, ⟨col0, r0⟩, ht, fun w d ρ2 H2 R2 h2 => ?_⟩
 split at h2
 ·rename_i kk
  obtain ⟨a1, h1, h2⟩ := L0 h2
  obtain ⟨xs, hx, h2⟩ := L0 h2
  obtain ⟨ns, hn, ⟨hk, hz⟩, q⟩ := L0 h2
  have := A2a hx
  subst this
  obtain ⟨col, r⟩ := R2
  obtain ⟨v', ev', t1⟩ := r.slot h1
  rw [ev] at ev'
  cases ev'
  obtain ⟨a', vs', e', e1, t1⟩ := t1.lst
  cases e'
  have z := B5t t1 hn
  subst z
  have tw : ThV (Z col) H2 w (.int kk) := r.pd _ C6
  cases tw
  exact ⟨a, ns, kk, rfl, rfl, SqL.of e1, hk, hz, k _ _ _ _ ⟨col, (r.sub fun _ h => C3 _ h).push (.int _)⟩ q⟩
 ·exact h2.elim
def A1c (t : DE)  (ρ : List Sl) (Q : List PyData -> List Sl -> Prop) : Prop := t ρ fun d ρ' => bnd (M0 d) fun xs => Q xs.reverse ρ'
theorem B4.rev {F : Addr -> Prop} {H : Hp} {vs : List V} {ds : List PyData} (t : B4 F H vs ds) : B4 F H vs.reverse ds.reverse := by
 induction vs generalizing ds with
 | nil => cases t; exact .nil
 | cons v vs ih =>
  cases t with
  | cons x t =>
   rw [B3d, B3d]
   exact (ih t).append (.cons x .nil)
theorem C12 {K : A3} (h : PE X e (fun σ H Q => P3 (eOf C t) T8 σ H fun vs H1 => ∃ a xs, vs = [.ref a] /\ SqL K H1 a xs /\ ∀ p, H1 p = none -> Q (.ref p) (upd H1 p (.lst xs.reverse)))) : PE X e (fOf C (A1c t)) := PE.wk h fun _ _ _ zz3 => el3 zz3 fun ρ P _ R ht k => ⟨ρ, P, _, R, ht, fun v d ρ' H' zz4 q => zz4.elim fun col r => by
 obtain ⟨xs, hx, q⟩ := L0 q
 have := A2a hx
 subst this
 obtain ⟨a, vs, rfl, e, t⟩ := Red.lst (.th (r.pd _ C6))
 exact ⟨a, vs, rfl, SqL.of e, fun p hp => k _ _ _ _ _ ⟨col, r.sub fun _ h => C3 _ h, t.rev⟩ hp q⟩⟩
def A9o (t : DE)  (ρ : List Sl) (Q : List PyData -> List Sl -> Prop) : Prop := t ρ fun d ρ' => bnd (M0 d) fun xs => Q xs.reverse ρ'
theorem A5m {n j : Nat} {it : DF} {tt : DT} {te : DE} (hn : n = j + 1) (h : PE X e (A7k (iOf C it) n j (fun _ => cOf C tt) (fun _ => eOf C te))) : PE X e (fOf C (g5 j it tt te)) := PE.wk h fun _ _ _ h => B5p hn h
def gB2 (f : Bool -> Bool -> Bool)  (a b : PyData) (Q : PyData -> Prop) : Prop := match a, b with
 | .bool i, .bool j => Q (.bool (f i j))
 | _, _ => False
end
theorem B5x {α : Type} {x : α} {xs : List α} : atI (x :: xs) 0 = some x := Y8 (j := 0) rfl
theorem A2h {α : Type} {x : α} : atI [x] 0 = some x := rfl
theorem A2i {α : Type} {x y : α} : atI [x, y] 0 = some x := rfl
theorem A2j {α : Type} {x y : α} : atI [x, y] 1 = some y := rfl
theorem A2k {α : Type} {x y z : α} : atI [x, y, z] 0 = some x := rfl
theorem A2l {α : Type} {x y z : α} : atI [x, y, z] 1 = some y := rfl
theorem A2m {α : Type} {x y z : α} : atI [x, y, z] 2 = some z := rfl
theorem A2n {a b : Prop} : (if true = true then a else b) = a := rfl
theorem A2o {a b : Prop} : (if false = true then a else b) = b := rfl
theorem A2p {a b : Bool} : (if true = true then a else b) = a := rfl
theorem A2q {a b : Bool} : (if false = true then a else b) = b := rfl
theorem A2r {a b : Int} : (if true = true then a else b) = a := rfl
theorem A2s {a b : Int} : (if false = true then a else b) = b := rfl
theorem A2t {α : Type} {a : α} {Q : α -> Prop} : bnd (some a) Q = Q a := rfl
theorem A9p {α : Type} {te : DE} {ρ : List Sl} {Q : List PyData -> Prop} {g f : α -> PyData} : ∀ {xs : List α} {acc : List PyData}, (∀ x ∈ xs, ∀ Q' : PyData -> List Sl -> Prop, Q' (f x) (ρ ++ [.sh (g x)]) -> te (ρ ++ [.sh (g x)]) Q') -> Q (acc ++ xs.map f) -> A2c B10 te ρ Q (xs.map g) acc
 | [], acc, _, q => by
  have q' : Q (acc ++ []) := q
  rw [Y3] at q'
  exact q'
 | x :: r, acc, h, q => by
  refine ⟨rfl, ?_⟩
  rw [if_pos rfl]
  refine h x C6 _ ⟨rfl, A9p (fun y hy => h y (C3 _ hy)) ?_⟩
  rw [A3s]
  exact q
theorem A7z {α : Type} {tt : DT} {te : DE} {ρ : List Sl} {Q : List PyData -> Prop} {g f : α -> PyData} {p : α -> Bool} : ∀ {xs : List α} {acc : List PyData}, (∀ x ∈ xs, ∀ Q' : Bool -> List Sl -> Prop, Q' (p x) (ρ ++ [.sh (g x)]) -> tt (ρ ++ [.sh (g x)]) Q') -> (∀ x ∈ xs, p x = true -> ∀ Q' : PyData -> List Sl -> Prop, Q' (f x) (ρ ++ [.sh (g x)]) -> te (ρ ++ [.sh (g x)]) Q') ->
  Q (acc ++ (xs.filter p).map f) -> A2c tt te ρ Q (xs.map g) acc
 | [], acc, _, _, q => by
  have q' : Q (acc ++ []) := q
  rw [Y3] at q'
  exact q'
 | x :: r, acc, h1, h2, q => by
  refine h1 x C6 _ ⟨rfl, ?_⟩
  cases e : p x with
  | true =>
   rw [if_pos rfl]
   refine h2 x C6 e _ ⟨rfl, A7z (fun y hy => h1 y (C3 _ hy)) (fun y hy => h2 y (C3 _ hy)) ?_⟩
   rw [List.filter_cons_of_pos e] at q
   rw [A3s]
   exact q
  | false =>
   rw [if_neg Q2]
   refine A7z (fun y hy => h1 y (C3 _ hy)) (fun y hy => h2 y (C3 _ hy)) ?_
   rw [List.filter_cons_of_neg (by rw [e]; exact Q2)] at q
   exact q
theorem B12 {xs : List PyData} {k : Nat} : Z2 xs none (some ((k : Nat) : Int)) = xs.take k := by
 unfold Z2
 rw [HT.sIx_none, HT.sIx_nat, List.drop_zero, Nat.sub_zero]
 by_cases h : k <= xs.length
 ·rw [A8o h]
 ·rw [Nat.min_eq_right (by lia), B0p (J8 _), B0p (by lia)]
theorem C13 {xs : List PyData} {i j : Nat} (h1 : i <= xs.length) (h2 : j <= xs.length) : Z2 xs (some ((i : Nat) : Int)) (some ((j : Nat) : Int)) = (xs.drop i).take (j - i) := by
 unfold Z2
 rw [HT.sIx_nat, HT.sIx_nat, A8o h1, A8o h2]
end My
namespace My
open PySem L2
def B13 (tt : DT) (te : DE) (ρ : List Sl) (Q : List PyData -> Prop) : List PyData -> List PyData -> Prop
 | [], acc => Q acc
 | .tuple [x, y, z] :: r, acc => tt (ρ ++ [.sh x, .sh y, .sh z]) fun b ρ' => ρ' = ρ ++ [.sh x, .sh y, .sh z] /\ if b = true then te (ρ ++ [.sh x, .sh y, .sh z]) fun d ρ'' => ρ'' = ρ ++ [.sh x, .sh y, .sh z] /\ B13 tt te ρ Q r (acc ++ [d]) else B13 tt te ρ Q r acc
 | _ :: _, _ => False
def A2u (it : DF) (tt : DT) (te : DE) (ρ : List Sl) (Q : List PyData -> List Sl -> Prop) : Prop := it ρ fun xs ρ1 => xs.length <= 1000 /\ B13 tt te ρ1 (fun ds => Q ds ρ1) xs []
section
variable {X : Cx} {C : DC}
end
theorem B5y {te : DE} {ρ : List Sl} {Q : List PyData -> Prop} {R : PyData -> Prop} : ∀ {xs acc : List PyData}, (∀ x ∈ xs, ∀ Q' : PyData -> List Sl -> Prop, (∀ d, R d -> Q' d (ρ ++ [.sh x])) -> te (ρ ++ [.sh x]) Q') -> (∀ ds : List PyData, ds.length = xs.length -> (∀ d ∈ ds, R d) -> Q (acc ++ ds)) -> A2c B10 te ρ Q xs acc
 | [], acc, _, q => by
  have q' := q [] rfl (fun d hd => nomatch hd)
  rw [Y3] at q'
  exact q'
 | x :: r, acc, h, q => by
  refine ⟨rfl, ?_⟩
  rw [if_pos rfl]
  refine h x C6 _ fun d hd => ⟨rfl, B5y (fun y hy => h y (C3 _ hy)) fun ds hl hR => ?_⟩
  rw [A3s]
  refine q ([d] ++ ds) (by simp [hl]) fun e he => ?_
  rcases O8.mp he with z | z
  ·have : e = d := by simpa using z
   subst this; exact hd
  ·exact hR e z
section
variable {X : Cx} {C : DC}
theorem C14 {sts : List Stmt} {t : DS} (h : ∀ C, PSs X sts (sOf C t)) : PSs X sts (fun D σ H => ∃ C, sOf C t D σ H) := fun pins s σ H D I zz2 => zz2.elim fun C q => h C pins s σ H D I q
open Classical in
theorem C15 {H : Hp} {hd hl : Addr} {v0 : V} {k : Nat} {t : DS} {D : v5} (d : Hd H hd hl) (hD : ∀ H', D.rt (.bl true) H') (ht : t { nx := fun _ => False, rt := fun d => d = .bool true } (.no :: .hd :: G8 k .no)) :
  ∃ C, sOf C t D (some v0 :: some (.ref hd) :: G8 k none) H := by
 refine ⟨⟨fun b => b ≠ hd, some (hd, hl), H⟩, _, [], ⟨fun _ => False, fun d => d = .bool true, fun _ => False, fun _ => False, fun _ => False⟩, ⟨fun b => if b = hd then 1 else 0, fun b hb => ?_, fun b hb => ?_, fun q hq => ?_, fun i s e => ?_, fun p hp => (nomatch hp), Kq.refl, fun q hq => ?_, fun q hq => ?_, ⟨fun b hb => ?_, fun b xs hb => ?_⟩, ?_⟩, ht, ⟨fun _ _ _ _ h => h.elim, fun v d ρ σ H' R h => ?_, fun _ _ _ _ h => h.elim, fun _ _ _ _ h => h.elim, fun _ _ _ _ _ _ _ _ h => h.elim⟩⟩
 ·obtain ⟨o, e⟩ := d.at1
  exact if_neg fun z => by rw [z, e] at hb; cases hb
 ·intro z
  have hb' : (if b = hd then 1 else 0) = 0 := hb
  rw [if_pos z] at hb'
  cases hb'
 ·cases hq
  exact if_pos rfl
 ·match i with
  | 0 => cases e; trivial
  | 1 => cases e; exact ⟨(hd, hl), rfl, rfl⟩
  | i + 2 =>
   have e' : (G8 k Sl.no)[i]? = some s := e
   rw [B3a] at e'
   split at e'
   ·cases e'; trivial
   ·cases e'
 ·cases hq; exact d
 ·cases hq; exact d
 ·intro z
  obtain ⟨o, e⟩ := d.at1
  rw [z] at hb
  have hb' : H hd = none := hb
  rw [e] at hb'; cases hb'
 ·intro z
  obtain ⟨_, _, _, _, _, _, _, _, e⟩ := id d
  rw [z] at hb
  have hb' : H hd = some (.tup xs) := hb
  rw [e] at hb'; cases hb'
 ·simp
 ·obtain ⟨col, r⟩ := R
  have t := r.pd _ C6
  subst h
  cases (show ThV (Z col) H' v (.bool true) from t)
  exact hD H'
end
end My
namespace My
open PySem L2
section
variable {X : Cx} {C : DC}
def gT5 (i j k l n : Nat)  (d : PyData) (ρ : List Sl) (Q : List Sl -> Prop) : Prop := match d with
 | .tuple [a, b, c, e, f] => Q (((((ρ.set i (.sh a)).set j (.sh b)).set k (.sh c)).set l (.sh e)).set n (.sh f))
 | _ => False
def n8 : List PyData -> Option (List Str)
 | [] => some []
 | .str b :: r => (n8 r).map (b :: ·)
 | _ :: _ => none
def A2v (neg : Bool)  (a b : PyData) (Q : PyData -> Prop) : Prop := match a, b with
 | .str i, .tuple xs => bnd (n8 xs) fun ns => Q (.bool (if neg then !(inV (.str i) (ns.map V.str)) else inV (.str i) (ns.map V.str)))
 | _, _ => False
def A2w  (ds : List PyData) (Q : PyData -> Prop) : Prop := match ds with
 | [.list xs] => xs ≠ [] /\ (∀ x ∈ xs, ∃ i j : Int, x = .tuple [.int i, .int j]) /\ ∀ x ∈ xs, Q x
 | _ => False
end
end My
namespace My
open PySem L2
section
variable {X : Cx} {C : DC} {e : Expr} {u : DF}
def A2x (i : Nat) (tk : DE)  (ρ : List Sl) (Q : PyData -> List Sl -> Prop) : Prop := match ρ[i]? with
 | some (.ow _) => tk ρ fun k ρ' => match ρ'[i]? with
  | some (.ow ds) => match k with
   | .int k => bnd (ixN ds.length k) fun j => bnd (ds[j]?) fun d => ds.length <= 1000 /\ Q d (ρ'.set i (.ow (ds.eraseIdx j)))
   | _ => False
  | _ => False
 | _ => False
def A2y (t : DE)  (ρ : List Sl) (Q : List PyData -> List Sl -> Prop) : Prop := t ρ fun d ρ' => match d with
 | .int n => (0 <= n /\ n <= 1000) /\ Q (K8 0 n.toNat) ρ'
 | _ => False
end
end My
namespace My
open PySem L2
def C16 (xs ys : List PyData) : List PyData := (xs.zip ys).map fun p => .tuple [p.1, p.2]
section
variable {X : Cx} {C : DC} {tg e : Expr} {t u : DE}
def A2z (t u : DE)  (ρ : List Sl) (Q : List PyData -> List Sl -> Prop) : Prop := t ρ fun d ρ1 => u ρ1 fun d2 ρ2 => bnd (M0 d) fun xs => bnd (M0 d2) fun ys => Q (C16 xs ys) ρ2
end
def B14 (tt : DT) (te : DE) (ρ : List Sl) (Q : List PyData -> Prop) : List PyData -> List PyData -> Prop
 | [], acc => Q acc
 | .tuple [x, y] :: r, acc => tt (ρ ++ [.sh x, .sh y]) fun b ρ' => ρ' = ρ ++ [.sh x, .sh y] /\ if b = true then te (ρ ++ [.sh x, .sh y]) fun d ρ'' => ρ'' = ρ ++ [.sh x, .sh y] /\ B14 tt te ρ Q r (acc ++ [d]) else B14 tt te ρ Q r acc
 | _ :: _, _ => False
def A20 (it : DF) (tt : DT) (te : DE) (ρ : List Sl) (Q : List PyData -> List Sl -> Prop) : Prop := it ρ fun xs ρ1 => xs.length <= 1000 /\ B14 tt te ρ1 (fun ds => Q ds ρ1) xs []
section
variable {X : Cx} {C : DC}
end
section
variable {X : Cx} {C : DC} {st : Stmt} {te : DE}
end
end My
namespace My
open PySem L2
section
variable {X : Cx} {C : DC} {st : Stmt}
def C8h (i : Nat) (tk te : DE)  (D : K9) (ρ : List Sl) : Prop := match ρ[i]? with
 | some (.ow _) => tk ρ fun k ρ1 => te ρ1 fun d ρ2 => match ρ2[i]? with
  | some (.ow ds) => ∃ n : Nat, k = .int ((n : Nat) : Int) /\ n <= ds.length /\ ds.length <= 1000 /\ D.nx (ρ2.set i (.ow (ds.take n ++ [d] ++ ds.drop n)))
  | _ => False
 | _ => False
end
end My
namespace My
open PySem L2
section
variable {C : DC} {col col' : Addr -> Nat} {ρ : List Sl} {σ σ' : St} {P : List Pe} {H H' : Hp} {p : Addr}
theorem C0.chg (r : C0 C col ρ σ P H) (i : Nat) (s : Sl) (hl : ρ.length = σ'.length) (fr : ∀ b, H' b = none -> col' b = 0) (inF : ∀ b, col' b = 0 -> C.F b) (hnd : ∀ q, C.hand = some q -> col' q.1 = 1)
  (z : ∀ b o, col b = 0 -> H b = some o -> col' b = 0 /\ H' b = some o)
  (lo : ∀ b o, col b <= 1 -> (∀ q, C.hand = some q -> b ≠ q.1) -> H b = some o -> col' b <= 1 /\ H' b = some o)
  (c2 : ∀ c as dss, Pe.o c as dss ∈ P -> ∀ b o, col b = 2 * c + 2 -> H b = some o -> col' b = 2 * c + 2 /\ H' b = some o)
  (ow : ∀ b o j, j ≠ i -> col b = 2 * j + 3 -> H b = some o -> col' b = 2 * j + 3 /\ H' b = some o)
  (kq : Kq C.hand C.H0 H') (hq : Hq C.hand H') (same : ∀ j, j ≠ i -> σ'[j]? = σ[j]?)
  (new : i < ρ.length -> SlR C col' H' i (σ'[i]?).join s) : C0 C col' (ρ.set i s) σ' P H' := by
 have mv0 : ∀ b o, Z col b -> H b = some o -> Z col' b /\ H' b = some o := z
 refine ⟨fr, inF, hnd, fun j s' es => ?_, fun x hx => ?_, kq, hq, r.hq0, r.nf, by rw [N3]; exact hl⟩
 ·by_cases hj : j = i
  ·subst hj
   rw [Y4] at es
   simp only [if_true] at es
   split at es
   ·rename_i hl'
    cases es
    exact new hl'
   ·cases es
  ·rw [Q1 (Ne.symm hj)] at es
   rw [same j hj]
   have h := r.sl j s' es
   cases s' with
   | no => trivial
   | sh d => obtain ⟨v, e1, t⟩ := h; exact ⟨v, e1, t.mv mv0⟩
   | ow ds => obtain ⟨a, vs, e1, c, n, e2, t⟩ := h; exact ⟨a, vs, e1, (ow a _ j hj c e2).1, n, (ow a _ j hj c e2).2, t.mv mv0⟩
   | bo ds => obtain ⟨a, vs, e1, c, n, e2, t⟩ := h; exact ⟨a, vs, e1, (lo a _ c n e2).1, n, (lo a _ c n e2).2, t.mv mv0⟩
   | hd => exact h
   | o2 dss => obtain ⟨a, as, e1, c, e2, nd, t⟩ := h; exact ⟨a, as, e1, ⟨(ow a _ j hj c.1 e2).1, c.2⟩, (ow a _ j hj c.1 e2).2, nd, t.mv mv0 fun b o g e => ⟨⟨(ow b o j hj g.1 e).1, g.2⟩, (ow b o j hj g.1 e).2⟩⟩
   | b2 dss => obtain ⟨a, as, e1, c, e2, t⟩ := h; exact ⟨a, as, e1, ⟨(lo a _ c.1 c.2 e2).1, c.2⟩, (lo a _ c.1 c.2 e2).2, t.mv mv0 fun b o g e => ⟨⟨(lo b o g.1 g.2 e).1, g.2⟩, (lo b o g.1 g.2 e).2⟩⟩
   | di f ks =>
    obtain ⟨a, e1, c, n, e2⟩ := h
    obtain ⟨o, ho⟩ := Option.ne_none_iff_exists'.mp e2.ne
    exact ⟨a, e1, (ow a o j hj c ho).1, n, e2.mv fun o e => (ow a o j hj c e).2⟩
   | dm f ks =>
    obtain ⟨a, e1, c, n, e2⟩ := h
    obtain ⟨o, ho⟩ := Option.ne_none_iff_exists'.mp e2.ne
    exact ⟨a, e1, (ow a o j hj c ho).1, n, e2.mv fun o e => (ow a o j hj c e).2⟩
   | bd d => exact h
   | ot d =>
    obtain ⟨v, e1, t⟩ := h
    refine ⟨v, e1, t.mv fun b o g e => ?_⟩
    rcases g with g | ⟨g, xs, gt⟩
    ·exact ⟨.inl ⟨(ow b o j hj g.1 e).1, g.2⟩, (ow b o j hj g.1 e).2⟩
    ·have := z b o g e
     exact ⟨.inr ⟨this.1, xs, by rw [e] at gt; rw [this.2]; exact gt⟩, this.2⟩
   | ob R =>
    obtain ⟨v, e1, t⟩ := h
    refine ⟨v, e1, R.mv (fun b o g e => ?_) t⟩
    rcases g with g | ⟨g, xs, gt⟩
    ·exact ⟨.inl ⟨(ow b o j hj g.1 e).1, g.2⟩, (ow b o j hj g.1 e).2⟩
    ·have := z b o g e
     exact ⟨.inr ⟨this.1, xs, by rw [e] at gt; rw [this.2]; exact gt⟩, this.2⟩
 ·have h := r.pd x hx
  cases x with
  | v v d => exact ThV.mv mv0 h
  | n a o => exact ⟨(lo a o h.1 h.2.1 h.2.2).1, h.2.1, (lo a o h.1 h.2.1 h.2.2).2⟩
  | s vs ds => exact B4.mv mv0 h
  | o c as dss => exact ⟨h.1, h.2.mv mv0 fun b o g e => ⟨⟨(c2 c as dss hx b o g.1 e).1, g.2⟩, (c2 c as dss hx b o g.1 e).2⟩⟩
  | w v d => exact h
end
end My
namespace My
open PySem L2
section
variable {X : Cx} {C : DC} {a b e : Expr} {pos : Pos}
end
end My
namespace My
open PySem L2
section
variable {X : Cx} {C : DC} {e : Expr}
end
end My
namespace My
open PySem L2
section
variable {X : Cx} {C : DC} {st : Stmt} {e : Expr} {te : DE} {pos : Pos} {u : DA}
end
end My
namespace My
open PySem L2
section
variable {X : Cx} {C : DC} {e : Expr} {ta : DE}
end
end My
namespace My
abbrev Tb := List (Option Int)
abbrev Rn := List (Option Nat)
abbrev Wy := Nat × Nat × Int
def K4 (st lv c : Int) : Option Int := if lv + c < 0 then none else some (if st < lv + c then st else lv + c)
def gt {α : Type} (t : List (Option α)) (p : Nat) : Option α := (t[p]?).join
def M5 (st : Int) (t : Tb) (w : Wy) : Option Int := match gt t w.1 with
 | none => none
 | some l => K4 st l w.2.2
def S6 : Option Int -> Option Int -> Bool
 | none, _ => false
 | some _, none => true
 | some a, some b => decide (b < a)
def leO (a b : Option Int) : Prop := S6 a b = false
theorem Q7 {a b : Int} : leO (some a) (some b) ↔ a <= b := by unfold leO S6; simp
theorem B15 {b : Option Int} : leO none b := rfl
theorem g7 {a : Int} : ¬ leO (some a) none := by unfold leO S6; simp
theorem g8 (a : Option Int) : leO a a := by
 cases a with
 | none => rfl
 | some x => exact Q7.mpr (B0q x)
theorem Z4 {a b c : Option Int} (h1 : leO a b) (h2 : leO b c) : leO a c := by
 cases a with
 | none => rfl
 | some x =>
  cases b with
  | none => exact absurd h1 g7
  | some y =>
   cases c with
   | none => exact absurd h2 g7
   | some z => exact Q7.mpr (Int.le_trans (Q7.mp h1) (Q7.mp h2))
theorem B16 {a b : Option Int} (h1 : leO a b) (h2 : leO b a) : a = b := by
 cases a with
 | none => cases b with
  | none => rfl
  | some y => exact absurd h2 g7
 | some x => cases b with
  | none => exact absurd h1 g7
  | some y => rw [Int.le_antisymm (Q7.mp h1) (Q7.mp h2)]
theorem B5z {a b : Option Int} (h : S6 a b = true) : leO b a := by
 cases a with
 | none => cases h
 | some x => cases b with
  | none => rfl
  | some y => unfold S6 at h; exact Q7.mpr (by have := of_decide_eq_true h; lia)
theorem B17 {a b : Option Int} (h : S6 a b = true) : ¬ leO a b := fun z => by unfold leO at z; rw [z] at h; cases h
theorem B18 {a b : Option Int} : S6 a b = true \/ leO a b := by
 cases e : S6 a b with
 | true => exact .inl rfl
 | false => exact .inr e
theorem B19 {st a b c : Int} (h : a <= b) : leO (K4 st a c) (K4 st b c) := by
 unfold K4
 by_cases h1 : a + c < 0
 ·rw [if_pos h1]; rfl
 ·have h2 : ¬ b + c < 0 := by lia
  rw [if_neg h1, if_neg h2]
  apply Q7.mpr
  split <;> split <;> lia
theorem A9q {st l c x : Int} (h0 : 0 <= st) (h : K4 st l c = some x) : 0 <= x /\ x <= st := by
 unfold K4 at h
 split at h
 ·cases h
 ·have := Option.some.inj h
  subst this
  split <;> lia
def leT (t u : Tb) : Prop := ∀ p, leO (gt t p) (gt u p)
theorem B50 (t : Tb) : leT t t := fun _ => g8 _
theorem B2a {t u v : Tb} (a : leT t u) (b : leT u v) : leT t v := fun p => Z4 (a p) (b p)
theorem C17 {st : Int} {t u : Tb} {w : Wy} (h : leT t u) : leO (M5 st t w) (M5 st u w) := by
 have := h w.1
 unfold M5
 cases e : gt t w.1 with
 | none => rfl
 | some a =>
  rw [e] at this
  cases e2 : gt u w.1 with
  | none => rw [e2] at this; exact absurd this g7
  | some b => rw [e2] at this; exact B19 (Q7.mp this)
theorem C18 {st : Int} {t : Tb} {w : Wy} {x : Int} (h0 : 0 <= st) (h : M5 st t w = some x) : 0 <= x /\ x <= st := by
 unfold M5 at h
 split at h
 ·cases h
 ·exact A9q h0 h
structure G7 (m : Nat) (st : Int) (t : Tb) : Prop where
 len : t.length = m
 bd : ∀ p x, gt t p = some x -> 0 <= x /\ x <= st
structure K2 (m : Nat) (ws : List Wy) : Prop where
 m1 : 1 <= m
 m2 : m <= 12
 few : ws.length <= 40
 st : ∀ w ∈ ws, w.1 < m
 en : ∀ w ∈ ws, w.2.1 < m
 lo : ∀ w ∈ ws, -1000000000000000000 <= w.2.2
 hi : ∀ w ∈ ws, w.2.2 <= 1000000000000000000
theorem A21 {α : Type} {t : List (Option α)} {p : Nat} (h : t.length <= p) : gt t p = none := by unfold gt; rw [j4 h]; rfl
theorem A9r {α : Type} {t : List (Option α)} {p : Nat} (h : p < t.length) : t[p]? = some (gt t p) := by unfold gt; rw [N0 h]; rfl
theorem Z5 {α : Type} {t : List (Option α)} {i j : Nat} {x : Option α} (h : i < t.length) : gt (t.set i x) j = if i = j then x else gt t j := by
 unfold gt
 rw [Y4]
 by_cases e : i = j
 ·rw [if_pos e, if_pos h, if_pos e]; rfl
 ·rw [if_neg e, if_neg e]
theorem A38 {α : Type} {m p : Nat} : gt (G8 m (none : Option α)) p = none := by
 unfold gt
 rw [B3a]
 split <;> rfl
theorem B2b {t u : Tb} (hl : t.length = u.length) (h : ∀ p, gt t p = gt u p) : t = u := by
 apply List.ext_getElem?
 intro i
 by_cases hi : i < t.length
 ·rw [A9r hi, A9r (by lia), h i]
 ·rw [j4 (by lia), j4 (by lia)]
theorem C19 {t u : Tb} (hl : t.length = u.length) (h1 : leT t u) (h2 : leT u t) : t = u := B2b hl fun p => B16 (h1 p) (h2 p)
def A22 (st : Int) (t : Tb) (acc : Tb × Rn) (p : Wy × Nat) : Tb × Rn :=
 if S6 (M5 st t p.1) (gt acc.1 p.1.2.1) = true then (acc.1.set p.1.2.1 (M5 st t p.1), acc.2.set p.1.2.1 (some p.2)) else acc
def M6 (m : Nat) (ws : List Wy) (st : Int) (t s : Tb) : Tb × Rn := ws.zipIdx.foldl (A22 st t) (s, G8 m none)
structure A5n (m : Nat) (ws : List Wy) (st : Int) (t s : Tb) (L : List (Wy × Nat)) (acc : Tb × Rn) : Prop where
 l1 : acc.1.length = m
 l2 : acc.2.length = m
 up : leT s acc.1
 no : ∀ p, gt acc.2 p = none -> gt acc.1 p = gt s p
 yes : ∀ p n, gt acc.2 p = some n -> ∃ w, ws[n]? = some w /\ w.2.1 = p /\ gt acc.1 p = M5 st t w /\ S6 (M5 st t w) (gt s p) = true
 top : ∀ q ∈ L, leO (M5 st t q.1) (gt acc.1 q.1.2.1)
theorem C2a {m : Nat} {ws : List Wy} {st : Int} {t s : Tb} {L : List (Wy × Nat)} {acc : Tb × Rn} (ok : K2 m ws) (I : A5n m ws st t s L acc) {q : Wy × Nat} (hq : ws[q.2]? = some q.1) : A5n m ws st t s (L ++ [q]) (A22 st t acc q) := by
 have hw : q.1 ∈ ws := R9 hq
 have he : q.1.2.1 < m := ok.en _ hw
 unfold A22
 by_cases c : S6 (M5 st t q.1) (gt acc.1 q.1.2.1) = true
 ·rw [if_pos c]
  have g1 : ∀ j, gt (acc.1.set q.1.2.1 (M5 st t q.1)) j = if q.1.2.1 = j then M5 st t q.1 else gt acc.1 j := fun j => Z5 (by rw [I.l1]; exact he)
  have g2 : ∀ j, gt (acc.2.set q.1.2.1 (some q.2)) j = if q.1.2.1 = j then some q.2 else gt acc.2 j := fun j => Z5 (by rw [I.l2]; exact he)
  have hup : ∀ j, leO (gt acc.1 j) (gt (acc.1.set q.1.2.1 (M5 st t q.1)) j) := fun j => by
   rw [g1]
   by_cases e : q.1.2.1 = j
   ·rw [if_pos e, <- e]; exact B5z c
   ·rw [if_neg e]; exact g8 _
  refine ⟨by rw [N3]; exact I.l1, by rw [N3]; exact I.l2, fun p => Z4 (I.up p) (hup p), fun p hp => ?_, fun p n hp => ?_, fun r hr => ?_⟩
  ·rw [g2] at hp
   by_cases e : q.1.2.1 = p
   ·rw [if_pos e] at hp; cases hp
   ·rw [if_neg e] at hp; rw [g1, if_neg e]; exact I.no p hp
  ·rw [g2] at hp
   by_cases e : q.1.2.1 = p
   ·rw [if_pos e] at hp
    cases hp
    refine ⟨q.1, hq, e, by rw [g1, if_pos e], ?_⟩
    rcases B18 (a := M5 st t q.1) (b := gt s p) with z | z
    ·exact z
    ·exact absurd (Z4 z (I.up p)) (B17 (e ▸ c))
   ·rw [if_neg e] at hp; rw [g1, if_neg e]; exact I.yes p n hp
  ·rcases O8.mp hr with hr | hr
   ·exact Z4 (I.top r hr) (hup _)
   ·have : r = q := by simpa using hr
    subst this
    rw [g1, if_pos rfl]; exact g8 _
 ·rw [if_neg c]
  refine ⟨I.l1, I.l2, I.up, I.no, I.yes, fun r hr => ?_⟩
  rcases O8.mp hr with hr | hr
  ·exact I.top r hr
  ·have : r = q := by simpa using hr
   subst this
   rcases B18 (a := M5 st t r.1) (b := gt acc.1 r.1.2.1) with z | z
   ·exact absurd z c
   ·exact z
theorem B51 {m : Nat} {ws : List Wy} {st : Int} {t s : Tb} (ok : K2 m ws) : ∀ (R L : List (Wy × Nat)) (acc : Tb × Rn), A5n m ws st t s L acc -> (∀ q ∈ R, ws[q.2]? = some q.1) -> A5n m ws st t s (L ++ R) (R.foldl (A22 st t) acc)
 | [], L, acc, I, _ => by rw [Y3]; exact I
 | q :: R, L, acc, I, h => by
  have := B51 ok R (L ++ [q]) _ (C2a ok I (h q C6)) fun r hr => h r (C3 _ hr)
  rw [A3s] at this
  exact this
theorem g9 {m : Nat} {ws : List Wy} {st : Int} {t s : Tb} (ok : K2 m ws) (hs : s.length = m) : A5n m ws st t s ws.zipIdx (M6 m ws st t s) := by
 have h0 : A5n m ws st t s [] (s, G8 m none) := ⟨hs, by rw [B0l], B50 s, fun _ _ => rfl, fun p n h => (by rw [A38] at h; cases h), fun q hq => (nomatch hq)⟩
 have := B51 ok ws.zipIdx [] _ h0 fun q hq => by
  obtain ⟨w, n⟩ := q
  rw [B8q] at hq
  exact hq
 rw [W3] at this
 exact this
theorem B52 {m : Nat} {ws : List Wy} {st : Int} {t s : Tb} (ok : K2 m ws) (hs : s.length = m) {w : Wy} (hw : w ∈ ws) : leO (M5 st t w) (gt (M6 m ws st t s).1 w.2.1) := by
 obtain ⟨n, hn, e⟩ := B3e.mp hw
 exact (g9 ok hs).top (w, n) (by rw [B8q]; show ws[n]? = some w; rw [N0 hn, e])
theorem C2b {m : Nat} {ws : List Wy} {st : Int} {t s : Tb} (ok : K2 m ws) (h0 : 0 <= st) (hs : G7 m st s) : G7 m st (M6 m ws st t s).1 := by
 have I := g9 (st := st) (t := t) ok hs.len
 refine ⟨I.l1, fun p x h => ?_⟩
 cases e : gt (M6 m ws st t s).2 p with
 | none => rw [I.no p e] at h; exact hs.bd p x h
 | some n =>
  obtain ⟨w, _, _, e2, _⟩ := I.yes p n e
  rw [e2] at h
  exact C18 h0 h
def A23 (ws : List Wy) (st : Int) (t : Tb) : Prop := ∀ w ∈ ws, leO (M5 st t w) (gt t w.2.1)
theorem C2c {m : Nat} {ws : List Wy} {st : Int} {t s L : Tb} (ok : K2 m ws) (hs : s.length = m) (h1 : leT t L) (h2 : leT s L) (c : A23 ws st L) : leT (M6 m ws st t s).1 L := fun p => by
 have I := g9 (st := st) (t := t) ok hs
 cases e : gt (M6 m ws st t s).2 p with
 | none => rw [I.no p e]; exact h2 p
 | some n =>
  obtain ⟨w, hw, e1, e2, _⟩ := I.yes p n e
  rw [e2, <- e1]
  exact Z4 (C17 h1) (c w (R9 hw))
structure Q8 (m : Nat) (ws : List Wy) (st : Int) (b t : Tb) : Prop where
 tab : G7 m st t
 up : leT b t
 cl : A23 ws st t
 le : ∀ L, G7 m st L -> leT b L -> A23 ws st L -> leT t L
theorem Q8.uniq {m : Nat} {ws : List Wy} {st : Int} {b t u : Tb} (h : Q8 m ws st b t) (h' : Q8 m ws st b u) : t = u := C19 (h.tab.len.trans h'.tab.len.symm) (h.le u h'.tab h'.up h'.cl) (h'.le t h.tab h.up h.cl)
abbrev Rw := Tb × Rn
def P7 (m : Nat) (ws : List Wy) (st : Int) : Nat -> Rw -> List Rw
 | 0, r => [r]
 | k + 1, r => if (M6 m ws st r.1 r.1).1 = r.1 then [r] else r :: P7 m ws st k (M6 m ws st r.1 r.1)
inductive Rows (m : Nat) (ws : List Wy) (st : Int) (b : Tb) : List Rw -> Prop
 | one : Rows m ws st b [(b, G8 m none)]
 | more {r rs} : Rows m ws st b (r :: rs) -> (M6 m ws st r.1 r.1).1 ≠ r.1 -> Rows m ws st b (M6 m ws st r.1 r.1 :: r :: rs)
theorem B53 {m : Nat} {ws : List Wy} {st : Int} {b : Tb} : ∀ (k : Nat) (r : Rw) (rs : List Rw), Rows m ws st b (r :: rs) -> ∃ r' rs', (rs.reverse ++ P7 m ws st k r).reverse = r' :: rs' /\ Rows m ws st b (r' :: rs') /\ ((M6 m ws st r'.1 r'.1).1 = r'.1 \/ (r' :: rs').length = rs.length + k + 1)
 | 0, r, rs, h => ⟨r, rs, by simp [P7], h, .inr (by simp)⟩
 | k + 1, r, rs, h => by
  unfold P7
  by_cases c : (M6 m ws st r.1 r.1).1 = r.1
  ·rw [if_pos c]
   exact ⟨r, rs, by simp, h, .inl c⟩
  ·rw [if_neg c]
   obtain ⟨r', rs', e, h', z⟩ := B53 k _ (r :: rs) (.more h c)
   refine ⟨r', rs', ?_, h', ?_⟩
   ·rw [<- e]; simp
   ·rcases z with z | z
    ·exact .inl z
    ·refine .inr ?_
     rw [z, M2]; lia
section
variable {m : Nat} {ws : List Wy} {st : Int} {b : Tb}
theorem Rows.ok (ok : K2 m ws) (h0 : 0 <= st) (hb : G7 m st b) : ∀ {r : Rw} {rs : List Rw}, Rows m ws st b (r :: rs) -> G7 m st r.1 /\ r.2.length = m /\ leT b r.1
 | _, _, .one => ⟨hb, by simp, B50 b⟩
 | _, _, .more (r := r) h c => by
  obtain ⟨a1, _, a3⟩ := Rows.ok ok h0 hb h
  have I := g9 (st := st) (t := r.1) ok a1.len
  exact ⟨C2b ok h0 a1, I.l2, B2a a3 I.up⟩
theorem Rows.under (ok : K2 m ws) (hb : b.length = m) {L : Tb} (h1 : leT b L) (c : A23 ws st L) : ∀ {r : Rw} {rs : List Rw}, Rows m ws st b (r :: rs) -> r.1.length = m /\ leT r.1 L
 | _, _, .one => ⟨hb, h1⟩
 | _, _, .more (r := r) h _ => by
  obtain ⟨a1, a2⟩ := Rows.under ok hb h1 c h
  exact ⟨(g9 (st := st) (t := r.1) ok a1).l1, C2c ok a1 a2 a2 c⟩
theorem Rows.least (ok : K2 m ws) (h0 : 0 <= st) (hb : G7 m st b) {r : Rw} {rs : List Rw} (h : Rows m ws st b (r :: rs)) (c : (M6 m ws st r.1 r.1).1 = r.1) : Q8 m ws st b r.1 := by
 obtain ⟨a1, _, a3⟩ := h.ok ok h0 hb
 refine ⟨a1, a3, fun w hw => ?_, fun L _ h1 cl => (h.under ok hb.len h1 cl).2⟩
 have := B52 (st := st) (t := r.1) (s := r.1) ok a1.len hw
 rw [c] at this
 exact this
end
end My
namespace My
abbrev Ef := Option (Int × Int × Int)
def EOk (st : Int) (e : Int × Int × Int) : Prop := 0 <= e.1 /\ e.1 <= st /\ 0 <= e.2.2 /\ e.2.2 <= st /\ 0 <= e.1 + e.2.1 /\ e.2.2 <= st + e.2.1
def L4 (e : Ef) (x : Int) : Option Int := match e with
 | none => none
 | some (l, g, t) => if x < l then none else some (if t < x + g then t else x + g)
def Q9 (a b : Ef) : Ef := match a, b with
 | some (l1, g1, t1), some (l2, g2, t2) => if t1 < l2 then none else some (if l2 - g1 > l1 then l2 - g1 else l1, g1 + g2, if t2 < t1 + g2 then t2 else t1 + g2)
 | _, _ => none
theorem A39 {a b : Int × Int × Int} (h : ¬ a.2.2 < b.1) : Q9 (some a) (some b) = some (if b.1 - a.2.1 > a.1 then b.1 - a.2.1 else a.1, a.2.1 + b.2.1, if b.2.2 < a.2.2 + b.2.1 then b.2.2 else a.2.2 + b.2.1) := by
 obtain ⟨l1, g1, t1⟩ := a
 obtain ⟨l2, g2, t2⟩ := b
 unfold Q9
 simp only at h
 simp only [if_neg h]
theorem A5o {a b : Int × Int × Int} (h : a.2.2 < b.1) : Q9 (some a) (some b) = none := by
 obtain ⟨l1, g1, t1⟩ := a
 obtain ⟨l2, g2, t2⟩ := b
 unfold Q9
 simp only at h
 simp only [if_pos h]
theorem C2d {st : Int} {a b r : Int × Int × Int} (ha : EOk st a) (hb : EOk st b) (h : Q9 (some a) (some b) = some r) : EOk st r := by
 by_cases c : a.2.2 < b.1
 ·rw [A5o c] at h; cases h
 ·rw [A39 c] at h
  cases h
  obtain ⟨l1, g1, t1⟩ := a
  obtain ⟨l2, g2, t2⟩ := b
  obtain ⟨h1, h2, h3, h4, h5, h6⟩ := ha
  obtain ⟨i1, i2, i3, i4, i5, i6⟩ := hb
  simp only at h1 h2 h3 h4 h5 h6 i1 i2 i3 i4 i5 i6 c
  refine ⟨?_, ?_, ?_, ?_, ?_, ?_⟩ <;> dsimp only <;> (repeat' split) <;> lia
theorem C2e {a b r : Int × Int × Int} (h : Q9 (some a) (some b) = some r) (x : Int) : L4 (some r) x = (L4 (some a) x).bind (L4 (some b)) := by
 by_cases c : a.2.2 < b.1
 ·rw [A5o c] at h; cases h
 ·rw [A39 c] at h
  cases h
  obtain ⟨l1, g1, t1⟩ := a
  obtain ⟨l2, g2, t2⟩ := b
  simp only at c
  unfold L4
  dsimp only
  by_cases c1 : x < l1
  ·rw [if_pos c1, if_pos (by split <;> lia)]
   rfl
  ·rw [if_neg c1]
   show _ = (if (if t1 < x + g1 then t1 else x + g1) < l2 then none else some (if t2 < (if t1 < x + g1 then t1 else x + g1) + g2 then t2 else (if t1 < x + g1 then t1 else x + g1) + g2))
   obtain ⟨y, ey, y1, y2, y3⟩ : ∃ y, (if t1 < x + g1 then t1 else x + g1) = y /\ y <= t1 /\ y <= x + g1 /\ (y = t1 \/ y = x + g1) := ⟨_, rfl, by split <;> lia, by split <;> lia, by split <;> lia⟩
   obtain ⟨m, em, m1, m2, m3⟩ : ∃ m, (if l2 - g1 > l1 then l2 - g1 else l1) = m /\ l1 <= m /\ l2 - g1 <= m /\ (m = l1 \/ m = l2 - g1) := ⟨_, rfl, by split <;> lia, by split <;> lia, by split <;> lia⟩
   obtain ⟨n, en, n1, n2, n3⟩ : ∃ n, (if t2 < t1 + g2 then t2 else t1 + g2) = n /\ n <= t2 /\ n <= t1 + g2 /\ (n = t2 \/ n = t1 + g2) := ⟨_, rfl, by split <;> lia, by split <;> lia, by split <;> lia⟩
   rw [ey, em, en]
   by_cases c2 : x < m
   ·rw [if_pos c2, if_pos (show y < l2 by lia)]
   ·rw [if_neg c2, if_neg (show ¬ y < l2 by lia)]
    congr 1
    split <;> split <;> lia
def OkE (st : Int) : Ef -> Prop
 | none => True
 | some e => EOk st e
theorem OkE.join {st : Int} {a b : Ef} (ha : OkE st a) (hb : OkE st b) : OkE st (Q9 a b) := by
 rcases a with _ | a
 ·exact trivial
 ·rcases b with _ | b
  ·exact trivial
  ·cases q : Q9 (some a) (some b) with
   | none => exact trivial
   | some r => exact C2d ha hb q
theorem B54 {st : Int} (h : 0 <= st) : EOk st (0, 0, st) := ⟨B0q _, h, h, B0q _, by simp, by simp⟩
def U4 (st c : Int) : Ef := if st + c < 0 then none else some (if -c > 0 then -c else 0, c, if st + c < st then st + c else st)
def foF (st : Int) (w : Ef) (cs : List Int) : Ef := cs.foldl (fun w c => Q9 w (U4 st c)) w
def fxF (st : Int) (cs : List Int) : Ef := foF st (some (0, 0, st)) cs
theorem B55 {st : Int} (h : 0 <= st) (c : Int) : OkE st (U4 st c) := by
 unfold U4
 split
 ·exact trivial
 ·refine ⟨?_, ?_, ?_, ?_, ?_, ?_⟩ <;> dsimp only <;> (repeat' split) <;> lia
theorem B56 {st : Int} (h : 0 <= st) : ∀ (cs : List Int) {w : Ef}, OkE st w -> OkE st (foF st w cs)
 | [], _, hw => hw
 | c :: cs, w, hw => B56 h cs (hw.join (B55 h c))
theorem B57 {st : Int} (h : 0 <= st) (cs : List Int) : OkE st (fxF st cs) := B56 h cs (B54 h)
theorem C2f (a b : Ef) (x : Int) : L4 (Q9 a b) x = (L4 a x).bind (L4 b) := by
 rcases a with _ | a
 ·rfl
 ·rcases b with _ | b
  ·show none = (L4 (some a) x).bind (L4 none)
   cases L4 (some a) x <;> rfl
  ·by_cases c : a.2.2 < b.1
   ·rw [A5o c]
    obtain ⟨l1, g1, t1⟩ := a
    obtain ⟨l2, g2, t2⟩ := b
    simp only at c
    show none = _
    unfold L4
    dsimp only
    by_cases c1 : x < l1
    ·rw [if_pos c1]; rfl
    ·rw [if_neg c1]
     show none = if (if t1 < x + g1 then t1 else x + g1) < l2 then none else _
     rw [if_pos (by split <;> lia)]
   ·exact C2e (A39 c) x |>.symm ▸ (by rw [A39 c])
def wkF (st : Int) (o : Option Int) (cs : List Int) : Option Int := cs.foldl (fun o c => o.bind (fun x => K4 st x c)) o
theorem A70 (st : Int) : ∀ cs : List Int, wkF st none cs = none
 | [] => rfl
 | _ :: cs => A70 st cs
theorem C2g {st x c : Int} (h0 : 0 <= x) (h1 : x <= st) : L4 (U4 st c) x = K4 st x c := by
 unfold U4 K4
 by_cases d : st + c < 0
 ·rw [if_pos d, if_pos (by lia)]
  rfl
 ·rw [if_neg d]
  unfold L4
  dsimp only
  by_cases e : x + c < 0
  ·rw [if_pos e, if_pos (by split <;> lia)]
  ·rw [if_neg e, if_neg (by split <;> lia)]
   congr 1
   split <;> split <;> (try split) <;> lia
theorem B58 {st : Int} (h : 0 <= st) (x : Int) : ∀ (cs : List Int) (w : Ef), (∀ y, L4 w x = some y -> 0 <= y /\ y <= st) -> L4 (foF st w cs) x = wkF st (L4 w x) cs
 | [], _, _ => rfl
 | c :: cs, w, hw => by
  have e : L4 (Q9 w (U4 st c)) x = (L4 w x).bind (fun y => K4 st y c) := by
   rw [C2f]
   cases q : L4 w x with
   | none => rfl
   | some y => exact C2g (hw y q).1 (hw y q).2
  show L4 (foF st (Q9 w (U4 st c)) cs) x = wkF st ((L4 w x).bind (fun y => K4 st y c)) cs
  rw [B58 h x cs _ ?_, e]
  intro y q
  rw [e] at q
  cases q2 : L4 w x with
  | none => rw [q2] at q; cases q
  | some z => rw [q2] at q; exact A9q h q
theorem B59 {st x : Int} (h0 : 0 <= x) (h1 : x <= st) : L4 (some (0, 0, st)) x = some x := by
 unfold L4
 dsimp only
 rw [if_neg (by lia)]
 congr 1
 split <;> lia
theorem A5p {st x : Int} (h0 : 0 <= x) (h1 : x <= st) (cs : List Int) : L4 (fxF st cs) x = wkF st (some x) cs := by
 unfold fxF
 rw [B58 (by lia) x cs _ ?_, B59 h0 h1]
 intro y q
 rw [B59 h0 h1] at q
 cases q
 exact ⟨h0, h1⟩
theorem B6a {st : Int} : ∀ (cs : List Int) {w : Int × Int × Int} {r : Int × Int × Int}, foF st (some w) cs = some r -> r.2.1 = w.2.1 + cs.sum
 | [], w, r, q => by
  have q' : some w = some r := q
  cases q'
  simp
 | c :: cs, w, r, q => by
  have q' : foF st (Q9 (some w) (U4 st c)) cs = some r := q
  cases q2 : Q9 (some w) (U4 st c) with
  | none =>
   rw [q2] at q'
   have : ∀ cs : List Int, foF st none cs = none := by
    intro cs
    induction cs with
    | nil => rfl
    | cons c cs ih => exact ih
   rw [this] at q'
   cases q'
  | some a =>
   rw [q2] at q'
   rw [B6a cs q']
   have ga : a.2.1 = w.2.1 + c := by
    unfold U4 at q2
    split at q2
    ·cases q2
    ·by_cases d : w.2.2 < (if -c > 0 then -c else 0)
     ·rw [A5o (by exact d)] at q2; cases q2
     ·rw [A39 (by exact d)] at q2; cases q2; rfl
   rw [ga, B3f]
   lia
theorem B6b {st : Int} {cs : List Int} {r : Int × Int × Int} (q : fxF st cs = some r) : r.2.1 = cs.sum := by
 rw [B6a cs q]
 show 0 + cs.sum = cs.sum
 lia
end My
namespace My
def N9 (ws : List Wy) (n : Nat) : Nat := match ws[n]? with
 | some w => w.1
 | none => 0
def A1d (ws : List Wy) (n : Nat) : Nat := match ws[n]? with
 | some w => w.2.1
 | none => 0
def R6 (ws : List Wy) (n : Nat) : Int := match ws[n]? with
 | some w => w.2.2
 | none => 0
def wlk (ws : List Wy) : List Rw -> Nat -> Nat × List Nat
 | [], p => (p, [])
 | r :: rs, p => match gt r.2 p with
  | none => wlk ws rs p
  | some n => ((wlk ws rs (N9 ws n)).1, (wlk ws rs (N9 ws n)).2 ++ [n])
structure Wk (ws : List Wy) (st : Int) (b : Tb) (N : List Nat) (P : Nat -> Nat) (L : Nat -> Int) : Prop where
 way : ∀ k n, N[k]? = some n -> ∃ w, ws[n]? = some w /\ w.1 = P k /\ w.2.1 = P (k + 1) /\ K4 st (L k) w.2.2 = some (L (k + 1))
 beg : gt b (P 0) = some (L 0)
 rise : ∀ k, 1 <= k -> k <= N.length -> S6 (some (L k)) (gt b (P k)) = true
 strict : ∀ i j, i < j -> j <= N.length -> P i = P j -> L i < L j
theorem C2h {a b c : Option Int} (h : S6 a c = true) (z : leO b c) : S6 a b = true := by
 rcases B18 (a := a) (b := b) with q | q
 ·exact q
 ·exact absurd (Z4 q z) (B17 h)
section
variable {m : Nat} {ws : List Wy} {st : Int} {b : Tb}
theorem B6c (ok : K2 m ws) (h0 : 0 <= st) (hb : G7 m st b) : ∀ {r : Rw} {rs : List Rw}, Rows m ws st b (r :: rs) -> ∀ p, ((rs = [] /\ ∃ l, gt b p = some l) \/ (∃ n, gt r.2 p = some n)) ->
  ∃ N P L, wlk ws (r :: rs) p = (P 0, N) /\ N.length = rs.length /\ P N.length = p /\ gt r.1 p = some (L N.length) /\ Wk ws st b N P L /\ ∀ k, k <= N.length -> leO (some (L k)) (gt r.1 (P k))
 | _, _, .one, p, h => by
  rcases h with ⟨_, l, hl⟩ | ⟨n, hn⟩
  ·refine ⟨[], fun _ => p, fun _ => l, ?_, rfl, rfl, hl, ⟨fun k n e => by simp at e, hl, fun k h1 h2 => ?_, fun i j h1 h2 => ?_⟩, fun k _ => by show leO (some l) (gt b p); rw [hl]; exact g8 _⟩
   ·unfold wlk
    rw [A38]
    rfl
   ·simp at h2; lia
   ·simp at h2; lia
  ·rw [A38] at hn; cases hn
 | _, _, .more (r := r) (rs := rs) h c, p, hp => by
  obtain ⟨a1, _, a3⟩ := h.ok ok h0 hb
  have I := g9 (st := st) (t := r.1) ok a1.len
  have hp' : ∃ n, gt (M6 m ws st r.1 r.1).2 p = some n := by
   rcases hp with ⟨z, _⟩ | z
   ·cases z
   ·exact z
  obtain ⟨n, hn⟩ := hp'
  obtain ⟨w, hw, e1, e2, e3⟩ := I.yes p n hn
  obtain ⟨l, hl⟩ : ∃ l, M5 st r.1 w = some l := by
   cases q : M5 st r.1 w with
   | none => rw [q] at e3; cases e3
   | some l => exact ⟨l, rfl⟩
  obtain ⟨l', hl', hs⟩ : ∃ l', gt r.1 w.1 = some l' /\ K4 st l' w.2.2 = some l := by
   have hl2 := hl
   unfold M5 at hl2
   split at hl2
   ·cases hl2
   ·rename_i l' e; exact ⟨l', e, hl2⟩
  rw [hl] at e2 e3
  have hq : (rs = [] /\ ∃ l, gt b w.1 = some l) \/ (∃ n, gt r.2 w.1 = some n) := by
   cases h with
   | one => exact .inl ⟨rfl, l', hl'⟩
   | @more r0 rs0 h' c' =>
    obtain ⟨b1, _, _⟩ := h'.ok ok h0 hb
    have I0 := g9 (st := st) (t := r0.1) ok b1.len
    cases e : gt (M6 m ws st r0.1 r0.1).2 w.1 with
    | some n' => exact .inr ⟨n', rfl⟩
    | none =>
     have e4 := I0.no w.1 e
     have e5 : M5 st r0.1 w = some l := by
      unfold M5
      rw [<- e4, hl']
      exact hs
     have := B52 (st := st) (t := r0.1) (s := r0.1) ok b1.len (R9 hw)
     rw [e5, e1] at this
     exact absurd this (B17 e3)
  obtain ⟨N, P, L, f1, f2, f3, f4, W, f6⟩ := B6c ok h0 hb h w.1 hq
  have eL : L N.length = l' := by rw [hl'] at f4; exact (Option.some.inj f4).symm
  let P' : Nat -> Nat := fun k => if k <= N.length then P k else p
  let L' : Nat -> Int := fun k => if k <= N.length then L k else l
  have p1 : ∀ k, k <= N.length -> P' k = P k := fun k hk => if_pos hk
  have p2 : ∀ k, ¬ k <= N.length -> P' k = p := fun k hk => if_neg hk
  have l1 : ∀ k, k <= N.length -> L' k = L k := fun k hk => if_pos hk
  have l2 : ∀ k, ¬ k <= N.length -> L' k = l := fun k hk => if_neg hk
  have hlen : (N ++ [n]).length = N.length + 1 := by simp
  refine ⟨N ++ [n], P', L', ?_, by rw [hlen, f2]; rfl, by rw [hlen]; exact p2 _ (by lia), by rw [hlen, l2 _ (by lia)]; exact e2, ⟨fun k n' e => ?_, by rw [p1 0 (M9 _), l1 0 (M9 _)]; exact W.beg, fun k k1 k2 => ?_, fun i j hij hj hp => ?_⟩, fun k hk => ?_⟩
  ·show (match gt (M6 m ws st r.1 r.1).2 p with
    | none => wlk ws (r :: rs) p
    | some n => ((wlk ws (r :: rs) (N9 ws n)).1, (wlk ws (r :: rs) (N9 ws n)).2 ++ [n])) = _
   rw [hn]
   have : N9 ws n = w.1 := by unfold N9; rw [hw]
   show ((wlk ws (r :: rs) (N9 ws n)).1, (wlk ws (r :: rs) (N9 ws n)).2 ++ [n]) = _
   rw [this, f1, p1 0 (M9 _)]
  ·by_cases hk : k < N.length
   ·rw [A3r hk] at e
    rw [p1 k (by lia), p1 (k + 1) (by lia), l1 k (by lia), l1 (k + 1) (by lia)]
    exact W.way k n' e
   ·rw [A7a (by lia)] at e
    have hk' : k = N.length := by
     match q : k - N.length with
     | 0 => lia
     | z + 1 => rw [q] at e; simp at e
    subst hk'
    rw [Nat.sub_self] at e
    cases e
    refine ⟨w, hw, ?_, ?_, ?_⟩
    ·rw [p1 _ (J8 _), f3]
    ·rw [p2 _ (by lia), e1]
    ·rw [l1 _ (J8 _), l2 _ (by lia), eL]; exact hs
  ·by_cases hk : k <= N.length
   ·rw [p1 k hk, l1 k hk]; exact W.rise k k1 hk
   ·rw [p2 k hk, l2 k hk]; exact C2h e3 (a3 p)
  ·by_cases hk : j <= N.length
   ·rw [l1 i (by lia), l1 j hk]
    rw [p1 i (by lia), p1 j hk] at hp
    exact W.strict i j hij hk hp
   ·rw [hlen] at hj
    rw [p1 i (by lia), p2 j hk] at hp
    rw [l1 i (by lia), l2 j hk]
    have z := f6 i (by lia)
    rw [hp] at z
    cases q : gt r.1 p with
    | none => rw [q] at z; exact absurd z g7
    | some y =>
     rw [q] at z e3
     have z1 := Q7.mp z
     have z2 : y < l := of_decide_eq_true e3
     lia
  ·by_cases hk' : k <= N.length
   ·rw [p1 k hk', l1 k hk']; exact Z4 (f6 k hk') (I.up _)
   ·rw [p2 k hk', l2 k hk', e2]; exact g8 _
end
def seg (N : List Nat) (i j : Nat) : List Nat := (N.drop i).take (j - i)
def chs (ws : List Wy) (ns : List Nat) : List Int := ns.map (R6 ws)
theorem A5q (N : List Nat) (i : Nat) : seg N i i = [] := by unfold seg; rw [Nat.sub_self]; rfl
theorem B2c {N : List Nat} {i j : Nat} (h : i <= j) (h2 : j < N.length) : seg N i (j + 1) = seg N i j ++ [N[j]] := by
 unfold seg
 have e : j + 1 - i = j - i + 1 := by lia
 rw [e, List.take_add_one, List.getElem?_drop, show i + (j - i) = j by lia, N0 h2]
 rfl
theorem A71 {N : List Nat} {i j : Nat} (h : j <= N.length) : (seg N i j).length = j - i := by
 unfold seg
 rw [A4q, List.length_drop]
 lia
theorem B2d (st : Int) (o : Option Int) (xs ys : List Int) : wkF st o (xs ++ ys) = wkF st (wkF st o xs) ys := by unfold wkF; rw [List.foldl_append]
section
variable {ws : List Wy} {st : Int} {b : Tb} {N : List Nat} {P : Nat -> Nat} {L : Nat -> Int}
theorem Wk.ch (W : Wk ws st b N P L) {k : Nat} (h : k < N.length) : K4 st (L k) (R6 ws N[k]) = some (L (k + 1)) := by
 obtain ⟨w, hw, _, _, e⟩ := W.way k N[k] (N0 h)
 unfold R6
 rw [hw]
 exact e
theorem Wk.seg (W : Wk ws st b N P L) {i : Nat} : ∀ {j : Nat}, i <= j -> j <= N.length -> wkF st (some (L i)) (chs ws (My.seg N i j)) = some (L j)
 | 0, h1, _ => by
  have : i = 0 := by lia
  subst this
  rw [A5q]; rfl
 | j + 1, h1, h2 => by
  by_cases e : i = j + 1
  ·subst e
   rw [A5q]; rfl
  ·rw [B2c (by lia) (by lia)]
   unfold chs
   rw [S0, B2d]
   have := W.seg (i := i) (j := j) (by lia) (by lia)
   unfold chs at this
   rw [this]
   exact W.ch (by lia)
theorem Wk.bd (W : Wk ws st b N P L) (h0 : 0 <= st) {m : Nat} (hb : G7 m st b) : ∀ k, k <= N.length -> 0 <= L k /\ L k <= st
 | 0, _ => hb.bd _ _ W.beg
 | k + 1, h => A9q h0 (W.ch (k := k) (by lia))
theorem Wk.pl (W : Wk ws st b N P L) {m : Nat} (ok : K2 m ws) (hb : G7 m st b) : ∀ k, k <= N.length -> P k < m
 | 0, _ => by
  by_cases h : P 0 < m
  ·exact h
  ·have := W.beg
   rw [A21 (by rw [hb.len]; lia)] at this
   cases this
 | k + 1, h => by
  obtain ⟨w, hw, _, e, _⟩ := W.way k N[k] (N0 (by lia))
  rw [<- e]
  exact ok.en w (R9 hw)
theorem Wk.lid (W : Wk ws st b N P L) {T : Tb} (c : A23 ws st T) {i : Nat} {x : Int} (hx : leO (some x) (gt T (P i))) : ∀ {j : Nat} {y : Int}, i <= j -> j <= N.length -> wkF st (some x) (chs ws (My.seg N i j)) = some y -> leO (some y) (gt T (P j))
 | 0, y, h1, _, e => by
  have : i = 0 := by lia
  subst this
  rw [A5q] at e
  cases e
  exact hx
 | j + 1, y, h1, h2, e => by
  by_cases q : i = j + 1
  ·subst q
   rw [A5q] at e
   cases e
   exact hx
  ·rw [B2c (by lia) (by lia)] at e
   unfold chs at e
   rw [S0, B2d] at e
   obtain ⟨w, hw, e1, e2, _⟩ := W.way j N[j] (N0 (by lia))
   cases z : wkF st (some x) ((My.seg N i j).map (R6 ws)) with
   | none => rw [z] at e; cases e
   | some v =>
    rw [z] at e
    have e' : K4 st v (R6 ws N[j]) = some y := e
    have ih := W.lid c hx (j := j) (y := v) (by lia) (by lia) z
    have hc : R6 ws N[j] = w.2.2 := by unfold R6; rw [hw]
    cases g : gt T (P j) with
    | none => rw [g] at ih; exact absurd ih g7
    | some u =>
     rw [g] at ih
     have s1 := B19 (st := st) (c := w.2.2) (Q7.mp ih)
     rw [<- hc, e', hc] at s1
     have s2 := c w (R9 hw)
     unfold M5 at s2
     rw [e1, g, e2] at s2
     exact Z4 s1 s2
end
def M7 (st lv : Int) : List Int -> List Int
 | [] => [lv]
 | c :: cs => match K4 st lv c with
  | none => [lv]
  | some x => lv :: M7 st x cs
theorem C2i {st lv c : Int} {cs : List Int} (h : K4 st lv c = none) : M7 st lv (c :: cs) = [lv] := by rw [M7, h]
theorem C2j {st lv c x : Int} {cs : List Int} (h : K4 st lv c = some x) : M7 st lv (c :: cs) = lv :: M7 st x cs := by rw [M7, h]
theorem B2e {st : Int} : ∀ {cs : List Int} {x y : Int}, wkF st (some x) cs = some y -> ∀ k, k <= cs.length -> ∃ z, (M7 st x cs)[k]? = some z /\ wkF st (some x) (cs.take k) = some z
 | [], x, y, _, k, hk => by
  have : k = 0 := by simpa using hk
  subst this
  exact ⟨x, rfl, rfl⟩
 | c :: cs, x, y, h, k, hk => by
  cases e : K4 st x c with
  | none =>
   have h' : wkF st (K4 st x c) cs = some y := h
   rw [e, A70] at h'
   cases h'
  | some x1 =>
   have h' : wkF st (K4 st x c) cs = some y := h
   rw [e] at h'
   unfold M7
   rw [e]
   cases k with
   | zero => exact ⟨x, rfl, rfl⟩
   | succ k =>
    obtain ⟨z, z1, z2⟩ := B2e h' k (by simpa using hk)
    refine ⟨z, z1, ?_⟩
    show wkF st (K4 st x c) (cs.take k) = some z
    rw [e]; exact z2
theorem B2f {st : Int} : ∀ {cs : List Int} {x y : Int}, wkF st (some x) cs = some y -> (M7 st x cs).length = cs.length + 1
 | [], _, _, _ => rfl
 | c :: cs, x, y, h => by
  have h' : wkF st (K4 st x c) cs = some y := h
  cases e : K4 st x c with
  | none => rw [e, A70] at h'; cases h'
  | some x1 =>
   rw [e] at h'
   unfold M7
   rw [e, M2, M2, B2f h']
theorem B6d {st : Int} : ∀ {cs : List Int} {x y : Int}, wkF st (some x) cs = some y -> y = x + cs.sum \/ st ∈ M7 st x cs
 | [], x, y, h => by
  cases h
  exact .inl (by simp)
 | c :: cs, x, y, h => by
  have h' : wkF st (K4 st x c) cs = some y := h
  cases e : K4 st x c with
  | none => rw [e, A70] at h'; cases h'
  | some x1 =>
   rw [e] at h'
   have hd : (M7 st x1 cs).head? = some x1 := by
    cases cs with
    | nil => rfl
    | cons d ds =>
     unfold M7
     cases K4 st x1 d <;> rfl
   by_cases q : x1 = st
   ·refine .inr ?_
    unfold M7
    rw [e]
    refine C3 _ ?_
    have hm := List.mem_of_head? hd
    have e3 : (st ∈ M7 st x1 cs) = (x1 ∈ M7 st x1 cs) := congrArg (· ∈ M7 st x1 cs) q.symm
    rw [e3]
    exact hm
   ·have e1 : x1 = x + c := by
     unfold K4 at e
     split at e
     ·cases e
     ·have e2 := Option.some.inj e
      split at e2
      ·exact absurd e2.symm q
      ·exact e2.symm
    rcases B6d h' with z | z
    ·refine .inl ?_
     rw [z, e1, B3f]; lia
    ·refine .inr ?_
     unfold M7
     rw [e]
     exact C3 _ z
structure Rnd (st : Int) (cs : List Int) (x : Int) (le g tp : Int) (k : Nat) : Prop where
 fx : fxF st cs = some (le, g, tp)
 g0 : 0 < g
 gs : g = cs.sum
 xt : x < tp
 tst : tp <= st
 kl : k <= cs.length
 ki : (M7 st tp cs).idxOf st = k
 km : st ∈ M7 st tp cs
 kw : wkF st (some tp) (cs.take k) = some st
 ll : (M7 st tp cs).length = cs.length + 1
theorem C2k {st : Int} {cs : List Int} {x y : Int} (h0 : 0 <= x) (h1 : x <= st) (w : wkF st (some x) cs = some y) (hy : x < y) : ∃ le g tp k, Rnd st cs x le g tp k /\ le <= x := by
 have hp := A5p h0 h1 cs
 rw [w] at hp
 have hok := B57 (by lia) cs (st := st)
 cases e : fxF st cs with
 | none => rw [e] at hp; cases hp
 | some r =>
  obtain ⟨le, g, tp⟩ := r
  rw [e] at hp hok
  have gs := B6b e
  obtain ⟨o1, o2, o3, o4, o5, o6⟩ := hok
  simp only at o1 o2 o3 o4 o5 o6 gs
  unfold L4 at hp
  dsimp only at hp
  split at hp
  ·cases hp
  ·rename_i hle
   have hy2 := Option.some.inj hp
   have g0 : 0 < g := by split at hy2 <;> lia
   have xt : x < tp := by split at hy2 <;> lia
   have wt := A5p (st := st) (x := tp) o3 o4 cs
   rw [e] at wt
   unfold L4 at wt
   dsimp only at wt
   rw [if_neg (by lia), if_pos (by lia)] at wt
   have km : st ∈ M7 st tp cs := by
    rcases B6d wt.symm with z | z
    ·lia
    ·exact z
   have hlt := B0n.mpr km
   have ll := B2f wt.symm
   rw [ll] at hlt
   obtain ⟨z, z1, z2⟩ := B2e wt.symm ((M7 st tp cs).idxOf st) (by lia)
   have ez : z = st := by
    have hl2 := B0n.mpr km
    rw [N0 hl2, B8p hl2] at z1
    exact (Option.some.inj z1).symm
   subst ez
   exact ⟨le, g, tp, _, ⟨e, g0, gs, xt, o4, by lia, rfl, km, z2, ll⟩, by lia⟩
section
variable {m : Nat} {ws : List Wy} {st : Int} {b : Tb} {N : List Nat} {P : Nat -> Nat} {L : Nat -> Int}
theorem B2g {N : List Nat} {i j k : Nat} (h : k <= j - i) : (seg N i j).take k = seg N i (i + k) := by
 unfold seg
 rw [List.take_take, show min k (j - i) = k by lia, show i + k - i = k by lia]
theorem C2l (W : Wk ws st b N P L) {i j : Nat} (hij : i < j) (hj : j <= N.length) (hp : P i = P j) {le g tp : Int} {k : Nat} (hle : le <= L i) (R : Rnd st (chs ws (seg N i j)) (L i) le g tp k) {T : Tb} (hT : G7 m st T) (hb : leT b T) (c : A23 ws st T) :
  leO (some st) (gt T (P (i + k))) := by
 have kl : k <= j - i := by
  have := R.kl
  unfold chs at this
  rw [F6, A71 hj] at this
  exact this
 have h0 : leO (some (L 0)) (gt T (P 0)) := by rw [<- W.beg]; exact hb _
 have hi := W.lid c h0 (j := i) (M9 _) (by lia) (W.seg (M9 _) (by lia))
 cases q : gt T (P i) with
 | none => rw [q] at hi; exact absurd hi g7
 | some z =>
  rw [q] at hi
  have hz := Q7.mp hi
  obtain ⟨z0, z1⟩ := hT.bd _ _ q
  have wz := A5p z0 z1 (chs ws (seg N i j))
  rw [R.fx] at wz
  unfold L4 at wz
  dsimp only at wz
  rw [if_neg (by lia)] at wz
  have hr := W.lid c (x := z) (by rw [q]; exact g8 _) (j := j) (by lia) hj wz.symm
  rw [<- hp, q] at hr
  have hr' := Q7.mp hr
  have := R.g0
  have htz : tp <= z := by split at hr' <;> lia
  have ht : leO (some tp) (gt T (P i)) := by rw [q]; exact Q7.mpr htz
  refine W.lid c ht (j := i + k) (by lia) (by lia) ?_
  have kw := R.kw
  unfold chs at kw ⊢
  rw [<- j5, B2g kl] at kw
  exact kw
theorem C2m (W : Wk ws st b N P L) (h0 : 0 <= st) (hb : G7 m st b) {i j k : Nat} (hij : i < j) (hj : j <= N.length) (hp : P i = P j) (hk : i + k <= j) : gt b (P (i + k)) ≠ some st := fun e => by
 have key : ∀ q, 1 <= q -> q <= N.length -> gt b (P q) ≠ some st := fun q h1 h2 e => by
  have r := W.rise q h1 h2
  rw [e] at r
  have := of_decide_eq_true r
  have := (W.bd h0 hb q h2).2
  lia
 by_cases hk0 : i + k = 0
 ·rw [hk0] at e
  have : i = 0 := by lia
  rw [this] at hp
  rw [hp] at e
  exact key j (by lia) hj e
 ·exact key (i + k) (by lia) (by lia) e
theorem Q8.fill (hb : G7 m st b) {p : Nat} (hp : p < m) {t : Tb} (h : Q8 m ws st (b.set p (some st)) t) (hl : ∀ T, G7 m st T -> leT b T -> A23 ws st T -> leO (some st) (gt T p)) : Q8 m ws st b t := by
 have g : ∀ j, gt (b.set p (some st)) j = if p = j then some st else gt b j := fun j => Z5 (by rw [hb.len]; exact hp)
 refine ⟨h.tab, fun q => Z4 ?_ (h.up q), h.cl, fun T hT h1 h2 => h.le T hT (fun q => ?_) h2⟩
 ·rw [g]
  by_cases e : p = q
  ·rw [if_pos e]
   cases z : gt b q with
   | none => rfl
   | some x => exact Q7.mpr (hb.bd _ _ z).2
  ·rw [if_neg e]; exact g8 _
 ·rw [g]
  by_cases e : p = q
  ·rw [if_pos e, <- e]; exact hl T hT h1 h2
  ·rw [if_neg e]; exact h1 q
theorem C2n (h0 : 0 <= st) (hb : G7 m st b) {p : Nat} (hp : p < m) : G7 m st (b.set p (some st)) := by
 refine ⟨by rw [N3]; exact hb.len, fun q x h => ?_⟩
 rw [Z5 (by rw [hb.len]; exact hp)] at h
 by_cases e : p = q
 ·rw [if_pos e] at h; cases h; exact ⟨h0, B0q _⟩
 ·rw [if_neg e] at h; exact hb.bd q x h
end
def A4a (st : Int) (b : Tb) : Nat := b.countP fun x => !(x == some st)
theorem B6e (st : Int) : ∀ (b : Tb) (p : Nat), p < b.length -> gt b p ≠ some st -> A4a st (b.set p (some st)) < A4a st b
 | [], _, h, _ => by simp at h
 | x :: b, 0, _, h => by
  have hx : x ≠ some st := h
  show List.countP _ (some st :: b) < List.countP _ (x :: b)
  rw [List.countP_cons_of_neg (by simp), List.countP_cons_of_pos (by simp [hx])]
  lia
 | x :: b, p + 1, h1, h2 => by
  have ih := B6e st b p (by simpa using h1) h2
  show List.countP _ (x :: b.set p (some st)) < List.countP _ (x :: b)
  unfold A4a at ih
  rw [List.countP_cons, List.countP_cons]
  lia
theorem B2h : ∀ (m : Nat) (l : List Nat), l.Nodup -> (∀ x ∈ l, x < m) -> l.length <= m
 | 0, l, _, h => by
  cases l with
  | nil => exact J8 _
  | cons x r => exact absurd (h x C6) (by lia)
 | m + 1, l, nd, h => by
  by_cases c : m ∈ l
  ·have h1 := B2h m (l.erase m) (nd.erase m) fun x hx => by
    have h2 := h x (List.mem_of_mem_erase hx)
    have h3 : x ≠ m := fun e => by
     subst e
     exact absurd hx (nd.not_mem_erase)
    lia
   rw [List.length_erase_of_mem c] at h1
   lia
  ·have := B2h m l nd fun x hx => by
    have h2 := h x hx
    have h3 : x ≠ m := fun e => c (e ▸ hx)
    lia
   lia
end My
namespace My
abbrev Sp2 := Nat × Int
section
variable {m : Nat} {ws : List Wy} {st : Int} {b g : Sp2}
end
end My
namespace My
section
variable {ws : List Wy} {row : List Nat} {cs : List Int} {st sc gv x y : Int} {p0 : Nat}
end
end My
namespace My
section
variable {m : Nat} {row : List Nat} {cs : List Int} {sc gv : Int} {B S ws : List Wy}
end
section
variable {m : Nat} {ws : List Wy} {row : List Nat} {cs : List Int} {sc gv st x y : Int} {p0 pl : Nat}
end
end My
namespace My
section
variable {m : Nat} {ws : List Wy} {st : Int}
end
end My
namespace My
section
variable {m : Nat} {st : Int}
end
end My
namespace L2
open PySem PySem.Spec PyProof.Rows
end L2
namespace My
open PySem L2
section
variable {X : Cx} {C : DC}
variable {st : Stmt} {te : DE}
end
end My
namespace My
open PySem L2
section
variable {X : Cx} {C : DC} {st : Stmt} {te : DE} {tg e : Expr} {u : DF}
end
end My
namespace My
open PySem L2
section
variable {C : DC}
section
variable {X : Cx} {st : Stmt} {ta : DF}
def B6f (i j k : Nat) (ta : DF) (D : K9) (ρ : List Sl) : Prop := ta ρ fun ds ρ' => match ds with
 | [a, b, c] => D.nx (((ρ'.set i (.sh a)).set j (.sh b)).set k (.sh c))
 | _ => False
theorem C2o {i j l : Nat} (hp : PS X st (B4y i j l (vOf C ta))) : PS X st (sOf C (B6f i j l ta)) := PS.wk hp fun _ _ _ zz => el3 zz fun ρ P _ R ht E => ⟨ρ, P, _, R, ht, fun vs ds ρ' P' H' zr s p q => by
 obtain ⟨col, r⟩ := zr
 have t := p.th r
 split at q
 ·cases t with
  | cons t1 t =>
   obtain ⟨y, z, rfl, t2, t3⟩ := X6 t
   exact ⟨_, y, z, rfl, E.nx _ _ _ ⟨col, ((((r.store (i := i) t1).store (i := j) t2).store (i := l) t3).sub s)⟩ q⟩
 ·exact q.elim⟩
variable {a b : Expr} {te : DE} {pos : Pos}
end
end
section
variable {X : Cx} {C : DC} {st : Stmt} {te : DE}
def n9 (f : Int -> Int -> Int) (i : Nat) (te : DE) (D : K9) (ρ : List Sl) : Prop := match ρ[i]? with
 | some (.sh (.int x)) => te ρ fun d ρ' => match d with
  | .int y => D.nx (ρ'.set i (.sh (.int (f x y))))
  | _ => False
 | _ => False
theorem C2p {f : Int -> Int -> Int} {i : Nat} (hp : PS X st (B3w i (eOf C te) (ipI f))) : PS X st (sOf C (n9 f i te)) := PS.wk hp fun _ _ _ zz => el3 zz fun ρ P _ R ht E => R.elim fun col r => by
 unfold n9 at ht
 split at ht
 ·rename_i x e
  obtain ⟨v, e1, t⟩ := r.sl i _ e
  cases (show ThV (Z col) _ v (.int x) from t)
  refine ⟨_, K7 e1, ρ, P, _, ⟨col, r⟩, ht, fun v d ρ' H' R' q => ?_⟩
  split at q
  ·obtain ⟨col', r'⟩ := R'
   have t' := r'.pd _ C6
   cases (show ThV (Z col') H' v (.int _) from t')
   exact ⟨_, _, rfl, rfl, E.nx _ _ _ ⟨col', ((r'.store (i := i) (d := .int (f x _)) (.int _)).sub fun _ h => C3 _ h)⟩ q⟩
  ·exact q.elim
 ·exact ht.elim
end
section
variable {C : DC}
def A1e : G2 := gI A45 fun i j => .int (i * 2 ^ j.toNat)
def A1f : G2 := gI0 fun i j => .int (Builtin.bitAnd i j)
theorem A72 : P4 C (rI A45 (fun i j => .int (i * 2 ^ j.toNat))) A1e := A7p (f := fun i j => .int (i * 2 ^ j.toNat)) fun _ _ _ _ => .int _
theorem C2q : P4 C (rI0 (fun i j => .int (Builtin.bitAnd i j))) A1f := A5h (f := fun i j => .int (Builtin.bitAnd i j)) fun _ _ _ _ => .int _
end
section
variable {X : Cx} {C : DC}
def gT4 (i j k l : Nat)  (d : PyData) (ρ : List Sl) (Q : List Sl -> Prop) : Prop := match d with
 | .tuple [a, b, c, e] => Q ((((ρ.set i (.sh a)).set j (.sh b)).set k (.sh c)).set l (.sh e))
 | _ => False
theorem B6g {tg : Expr} {i j l m : Nat} {K : A3} (h : PG X tg (A8s K 4 (Y5 (Q4 i) (Y5 (Q4 j) (Y5 (Q4 l) (Y5 (Q4 m) A7f)))))) : PG X tg (gOf C (gT4 i j l m)) := PG.wk h fun v σ H Q ⟨ρ, P, d, Qd, ⟨col, r⟩, ht, k⟩ => by
 unfold gT4 at ht
 split at ht
 ·rename_i a b c x
  have z : ThV (Z col) H v (.tuple [a, b, c, x]) := r.pd _ C6
  cases z with
  | tup za e t =>
   cases t with
   | cons t1 t =>
    cases t with
    | cons t2 t =>
     obtain ⟨y, z, rfl, t3, t4⟩ := X6 t
     exact ⟨_, _, rfl, SqT.of e, rfl, _, _, rfl, _, _, rfl, y, [z], rfl, z, [], rfl, rfl, k _ _ ⟨col, (((((r.store (i := i) t1).store (i := j) t2).store (i := l) t3).store (i := m) t4).sub fun _ h => C3 _ h)⟩ ht⟩
 ·exact ht.elim
end
end My
namespace My
open PySem L2
section
variable {C : DC}
end
section
variable {X : Cx} {C : DC} {st : Stmt} {te : DE}
end
section
variable {C : DC}
end
section
variable {C : DC} {col col2 : Addr -> Nat} {ρ : List Sl} {σ : St} {P : List Pe} {H H2 : Hp} {i : Nat} {ds : List PyData} {a : Addr} {vs : List V}
variable {X : Cx} {e : Expr}
end
end My
namespace L2
open PySem PySem.Spec PyProof.Rows
section
variable {κ : Type} [DecidableEq κ]
end
section
variable {P : Program} {w : World} {H : Hp} {h : Heap} {a : Addr}
end
section
variable {X : Cx} {pins : List (Addr × Obj)} {σ : St} {H : Hp} {s : Shared} {a : Addr} {y v : V} {u r : Value} {o : Option V} {A : Around} {E : Value -> Shared -> Prop}
end
section
variable {X : Cx} {pins : List (Addr × Obj)} {σ : St} {H : Hp} {s : Shared} {a : Addr} {kvs : List (Key × V)} {k : Key} {u : Value} {A : Around} {E : Value -> Shared -> Prop}
end
section
variable {X : Cx} {o i e value : Expr} {pos pos' tpos : Pos} {td ty tv : TE}
end
section
variable {X : Cx} {pos : Pos}
end
section
variable {X : Cx} {pins : List (Addr × Obj)} {σ : St} {H : Hp} {s : Shared} {a : Addr} {y d : V} {u r : Value} {o : Option V} {A : Around} {E : Value -> Shared -> Prop}
end
section
variable {X : Cx} {o e f : Expr} {apos cpos : Pos} {td ty tx : TE}
end
section
variable {X : Cx} {pins : List (Addr × Obj)} {σ : St} {H : Hp} {s : Shared} {a : Addr} {kvs : List (Key × V)} {A : Around} {E : Value -> Shared -> Prop}
end
section
variable {X : Cx} {pins : List (Addr × Obj)} {σ : St} {H : Hp} {s : Shared} {a : Addr} {y : V} {u : Value} {A : Around} {E : Value -> Shared -> Prop}
end
end L2
namespace L2
open PySem PySem.Spec PyProof.Rows
section
variable {prog : Program} {w : World} {A : Around} {E : Value -> Shared -> Prop} {s : Shared}
end
end L2
namespace My
open PySem L2
section
variable {C : DC} {col : Addr -> Nat} {ρ : List Sl} {σ : St} {P : List Pe} {H H' : Hp} {p : Addr}
end
open PySem.Spec PyProof.Rows
section
variable {P : Program} {w : World} {K : A3} {mg : Str -> Option Value} {base : Heap}
open Classical in
end
section
variable {X : Cx} {C : DC} {st : Stmt} {e a b : Expr} {te tk : DE} {u : DA} {pos : Pos}
end
end My
namespace My
open PySem L2
mutual
def C2r : PyData -> List (List PyData)
 | .list ds => ds :: B2i ds
 | .tuple ds => B2i ds
 | _ => []
def B2i : List PyData -> List (List PyData)
 | [] => []
 | d :: ds => C2r d ++ B2i ds
end
mutual
def szD : PyData -> Nat
 | .list ds => szL ds + 1
 | .tuple ds => szL ds + 1
 | _ => 1
def szL : List PyData -> Nat
 | [] => 0
 | d :: ds => szD d + szL ds
end
section
variable {X : Cx} {C : DC} {st : Stmt} {u : DA}
variable {a b : Expr} {tb : DE} {pos : Pos}
def C8i (neg : Bool) (i : Nat) (tb : DE)  (ρ : List Sl) (Q : PyData -> List Sl -> Prop) : Prop := bnd (N6 ρ i) fun _ => tb ρ fun b ρ1 => bnd (N6 ρ1 i) fun a => gEq neg a b fun d => Q d ρ1
variable {a b : Expr} {tb : DE} {pos : Pos}
end
end My
namespace L2
open PySem PySem.Spec PyProof.Rows
end L2
namespace My
open PySem L2
open PySem.Spec PyProof.Rows
section
variable {C : DC} {col : Addr -> Nat} {ρ : List Sl} {σ : L2.St} {P : List Pe} {H H' : Hp} {p : Addr}
end
section
variable {X : Cx} {C : DC} {st : Stmt} {e : Expr} {te : DE} {u : DA} {pos : Pos}
end
end My
namespace My
open PySem L2
section
variable {X : Cx} {C : DC} {st : Stmt} {e : Expr} {ta : DE}
end
end My
namespace My
open PySem L2
section
variable {X : Cx} {C : DC} {st : Stmt} {e : Expr} {ta : DE}
end
end My
namespace My
abbrev Ct := List (List (Option Int))
abbrev Spt := Nat × Nat
def ca (t : Ct) (s : Spt) : Option Int := gt (t.getD s.1 []) s.2
end My
namespace My
open PySem L2
end My
namespace My
open PySem L2
def mnI (a b : Int) : Int := if b < a then b else a
def mxI (a b : Int) : Int := if b > a then b else a
theorem B6h {st : Int} {lo g tp c : Int} (h : EOk st (lo, g, tp)) : Q9 (some (lo, g, tp)) (U4 st c) = if tp + c < 0 then none else some (mxI lo (-c - g), g + c, mnI st (tp + c)) := by
 obtain ⟨h1, h2, h3, h4, h5, h6⟩ := h
 simp only at h1 h2 h3 h4 h5 h6
 unfold U4
 by_cases d : st + c < 0
 ·rw [if_pos d, if_pos (by omega)]; rfl
 ·rw [if_neg d]
  by_cases e : tp + c < 0
  ·rw [if_pos e]
   exact A5o (by show tp < (if -c > 0 then -c else 0); split <;> omega)
  ·rw [if_neg e, A39 (by show ¬ tp < (if -c > 0 then -c else 0); split <;> omega)]
   unfold mxI mnI
   simp only [Option.some.injEq, Prod.mk.injEq]
   refine ⟨?_, trivial, ?_⟩
   ·repeat' split
    all_goals omega
   ·repeat' split
    all_goals omega
def A9s (e : Ef) (n : Int) (o : Option Int) : Option Int := match e, o with
 | some (lo, g, tp), some x => if x < lo then none else if n > 1 /\ g ≥ 0 /\ mnI (x + g) tp < lo then none else
   if g < 0 then (if n > 1 /\ mnI (x + (n - 1) * g) (tp + (n - 2) * g) < lo then none else some (mnI (x + n * g) (tp + (n - 1) * g))) else some (mnI (x + n * g) tp)
 | _, _ => none
def itN (st : Int) (cs : List Int) : Nat -> Option Int -> Option Int
 | 0, o => o
 | n + 1, o => itN st cs n (wkF st o cs)
theorem A5r {st : Int} {cs : List Int} : ∀ n, itN st cs n none = none
 | 0 => rfl
 | n + 1 => by
  show itN st cs n (wkF st none cs) = none
  rw [A70]; exact A5r n
theorem A73 {st : Int} {cs : List Int} {lo g tp x y : Int} (fx : fxF st cs = some (lo, g, tp)) (x0 : 0 <= x) (x1 : x <= st) (h : wkF st (some x) cs = some y) : lo <= x /\ y = mnI (x + g) tp := by
 have w := A5p x0 x1 cs
 rw [fx, h] at w
 unfold L4 at w
 dsimp only at w
 split at w
 ·cases w
 ·rename_i c
  refine ⟨by omega, ?_⟩
  have := Option.some.inj w
  rw [<- this]
  unfold mnI
  repeat' split
  all_goals omega
theorem C2s {st : Int} {cs : List Int} {x y : Int} (x0 : 0 <= x) (x1 : x <= st) (h : wkF st (some x) cs = some y) : ∃ lo g tp, fxF st cs = some (lo, g, tp) /\ EOk st (lo, g, tp) := by
 have w := A5p x0 x1 cs
 have hok := B57 (st := st) (by omega) cs
 cases e : fxF st cs with
 | none => rw [e, h] at w; cases w
 | some r =>
  rw [e] at hok
  exact ⟨r.1, r.2.1, r.2.2, rfl, hok⟩
theorem B6i {st : Int} {cs : List Int} {lo g tp : Int} (fx : fxF st cs = some (lo, g, tp)) (ok : EOk st (lo, g, tp)) (g0 : 0 <= g) : ∀ (n : Nat) {x y : Int}, 0 <= x -> x <= st -> itN st cs (n + 1) (some x) = some y -> lo <= x /\ (1 <= n -> lo <= mnI (x + g) tp) /\ y = mnI (x + (((n + 1 : Nat)) : Int) * g) tp
 | 0, x, y, x0, x1, h => by
  obtain ⟨a, b⟩ := A73 fx x0 x1 (show wkF st (some x) cs = some y from h)
  refine ⟨a, fun z => by omega, ?_⟩
  rw [b]; simp
 | n + 1, x, y, x0, x1, h => by
  have h' : itN st cs (n + 1) (wkF st (some x) cs) = some y := h
  cases e : wkF st (some x) cs with
  | none => rw [e, A5r] at h'; cases h'
  | some z =>
   rw [e] at h'
   obtain ⟨a, b⟩ := A73 fx x0 x1 e
   obtain ⟨o1, o2, o3, o4, o5, o6⟩ := ok
   simp only at o1 o2 o3 o4 o5 o6
   have hz : 0 <= z /\ z <= st := by rw [b]; unfold mnI; split <;> omega
   obtain ⟨c1, c2, c3⟩ := B6i fx ⟨o1, o2, o3, o4, o5, o6⟩ g0 n hz.1 hz.2 h'
   refine ⟨a, fun _ => by rw [<- b]; exact c1, ?_⟩
   have e1 : (((n + 1 + 1 : Nat)) : Int) * g = (((n + 1 : Nat)) : Int) * g + g := by rw [B0r (n + 1) 1, A7d]; simp
   have e0 : 0 <= (((n + 1 : Nat)) : Int) * g := Int.mul_nonneg (by omega) g0
   rw [c3, b, e1]
   generalize (((n + 1 : Nat)) : Int) * g = u at *
   unfold mnI
   split <;> split <;> split <;> omega
theorem B6j {st : Int} {cs : List Int} {lo g tp : Int} (fx : fxF st cs = some (lo, g, tp)) (ok : EOk st (lo, g, tp)) (g0 : g < 0) : ∀ (n : Nat) {x y : Int}, 0 <= x -> x <= st -> itN st cs (n + 1) (some x) = some y -> lo <= x /\ (1 <= n -> lo <= mnI (x + ((n : Nat) : Int) * g) (tp + (((n : Nat) : Int) - 1) * g)) /\ y = mnI (x + (((n + 1 : Nat)) : Int) * g) (tp + ((n : Nat) : Int) * g)
 | 0, x, y, x0, x1, h => by
  obtain ⟨a, b⟩ := A73 fx x0 x1 (show wkF st (some x) cs = some y from h)
  refine ⟨a, fun z => by omega, ?_⟩
  rw [b]; simp
 | n + 1, x, y, x0, x1, h => by
  have h' : itN st cs (n + 1) (wkF st (some x) cs) = some y := h
  cases e : wkF st (some x) cs with
  | none => rw [e, A5r] at h'; cases h'
  | some z =>
   rw [e] at h'
   obtain ⟨a, b⟩ := A73 fx x0 x1 e
   obtain ⟨o1, o2, o3, o4, o5, o6⟩ := ok
   simp only at o1 o2 o3 o4 o5 o6
   have hz : 0 <= z /\ z <= st := by rw [b]; unfold mnI; split <;> omega
   obtain ⟨c1, c2, c3⟩ := B6j fx ⟨o1, o2, o3, o4, o5, o6⟩ g0 n hz.1 hz.2 h'
   have e1 : (((n + 1 + 1 : Nat)) : Int) * g = ((n : Nat) : Int) * g + g + g := by
    rw [show (((n + 1 + 1 : Nat)) : Int) = ((n : Nat) : Int) + 1 + 1 by omega, A7d, A7d]; simp
   have e2 : (((n + 1 : Nat)) : Int) * g = ((n : Nat) : Int) * g + g := by rw [B0r, A7d]; simp
   have e3 : (((n : Nat) : Int) - 1) * g = ((n : Nat) : Int) * g - g := by rw [Int.sub_mul]; simp
   have e4 : ((((n + 1 : Nat)) : Int) - 1) * g = ((n : Nat) : Int) * g := by rw [show (((n + 1 : Nat)) : Int) - 1 = ((n : Nat) : Int) by omega]
   rw [e2] at c3
   rw [e3] at c2
   rw [e1, e2, e4]
   have hn : 1 <= n \/ n = 0 := by omega
   have hm : n = 0 -> ((n : Nat) : Int) * g = 0 := fun q => by rw [q]; simp
   generalize ((n : Nat) : Int) * g = u at *
   refine ⟨a, fun _ => ?_, ?_⟩
   ·rcases hn with q | q
    ·have := c2 q
     rw [b] at this
     unfold mnI at *
     split at this <;> split at this <;> split <;> omega
    ·have := hm q
     rw [b] at c1
     unfold mnI at *
     split at c1 <;> split <;> omega
   ·rw [c3, b]
    unfold mnI
    split <;> split <;> split <;> omega
theorem B6k {st : Int} {cs : List Int} {n x y : Int} (h0 : 0 <= x) (h1 : x <= st) (n1 : 1 <= n) (h : itN st cs n.toNat (some x) = some y) : A9s (fxF st cs) n (some x) = some y /\ 0 <= y /\ y <= st := by
 obtain ⟨k, rfl⟩ : ∃ k : Nat, n = (((k + 1 : Nat)) : Int) := ⟨n.toNat - 1, by omega⟩
 rw [A7b] at h
 have hw : ∃ z, wkF st (some x) cs = some z := by
  cases e : wkF st (some x) cs with
  | none =>
   have h' : itN st cs k (wkF st (some x) cs) = some y := h
   rw [e, A5r] at h'; cases h'
  | some z => exact ⟨z, rfl⟩
 obtain ⟨z, hz⟩ := hw
 obtain ⟨lo, g, tp, fx, ok⟩ := C2s h0 h1 hz
 rw [fx]
 have hy : 0 <= y /\ y <= st := by
  have key : ∀ (k : Nat) (x : Int), 0 <= x -> x <= st -> itN st cs k (some x) = some y -> 0 <= y /\ y <= st := by
   intro k
   induction k with
   | zero => intro x a b e; cases e; exact ⟨a, b⟩
   | succ k ih =>
    intro x a b e
    have e' : itN st cs k (wkF st (some x) cs) = some y := e
    cases q : wkF st (some x) cs with
    | none => rw [q, A5r] at e'; cases e'
    | some z =>
     rw [q] at e'
     obtain ⟨c1, c2⟩ := A73 fx a b q
     obtain ⟨o1, o2, o3, o4, o5, o6⟩ := ok
     simp only at o1 o2 o3 o4 o5 o6
     exact ih z (by rw [c2]; unfold mnI; split <;> omega) (by rw [c2]; unfold mnI; split <;> omega) e'
  exact key _ x h0 h1 h
 refine ⟨?_, hy⟩
 unfold A9s
 dsimp only
 by_cases g0 : 0 <= g
 ·obtain ⟨a, b, c⟩ := B6i fx ok g0 k h0 h1 h
  rw [if_neg (by omega), if_neg (fun q => by have := b (by omega); omega), if_neg (by omega), c]
 ·obtain ⟨a, b, c⟩ := B6j fx ok (by omega) k h0 h1 h
  have e1 : (((k + 1 : Nat)) : Int) - 1 = ((k : Nat) : Int) := by omega
  have e2 : (((k + 1 : Nat)) : Int) - 2 = ((k : Nat) : Int) - 1 := by omega
  rw [if_neg (by omega), if_neg (fun q => by omega), if_pos (by omega), e1, e2, if_neg (fun q => by have := b (by omega); omega), c]
end My
namespace L2
open PySem PySem.Spec PyProof.Rows
section
variable {X : Cx}
end
end L2
namespace My
open PySem L2
section
variable {C : DC}
end
end My
namespace L2
open PySem PySem.Spec PyProof.Rows
section
variable {X : Cx} {pins : List (Addr × Obj)} {σ : St} {H : Hp} {s : Shared}
end
section
variable {X : Cx}
end
end L2
namespace L2
open PySem PySem.Spec PyProof.Rows
section
variable {prog : Program} {w : World} {K : Type} [DecidableEq K] {knd : HeapKind prog w K} {A : Around} {E : Value -> Shared -> Prop} {s : Shared}
end
section
variable {X : Cx} {pins : List (Addr × Obj)} {σ : St} {H : Hp} {s : Shared} {a b : Addr} {kvs : List (List Key × V)} {k : List Key} {A : Around} {E : Value -> Shared -> Prop}
end
section
variable {prog : Program} {w : World} {A : Around} {E : Value -> Shared -> Prop} {s : Shared}
end
end L2
namespace L2
open PySem PySem.Spec PyProof.Rows
section
variable {prog : Program} {w : World} {A : Around} {E : Value -> Shared -> Prop} {s : Shared}
end
section
variable {prog : Program} {w : World} {A : Around} {E : Value -> Shared -> Prop} {s : Shared}
end
section
variable {prog : Program} {w : World} {A : Around} {R : Result -> Shared -> Prop} {I : Addr} {fp wr : List Addr} {n : Nat} {P : Nat -> Value -> Prop} {St : Nat -> Heap -> Prop}
end
section
variable {X : Cx}
end
end L2
namespace My
open PySem L2
open PySem.Spec PyProof.Rows
mutual
def N2 : PyData -> Bool
 | .none => true
 | .bool _ => true
 | .int _ => true
 | .str _ => true
 | .tuple xs => O6 xs
 | .list _ => false
 | .dict _ => false
def O6 : List PyData -> Bool
 | [] => true
 | d :: ds => N2 d && O6 ds
end
mutual
theorem ThV.flat {F G : Addr -> Prop} {H : Hp} (ft : ∀ b xs, H b = some (.tup xs) -> F b) : ∀ {v : V} {d : PyData}, ThV G H v d -> N2 d = true -> ThV F H v d
 | _, _, .non, _ => .non
 | _, _, .bl b, _ => .bl b
 | _, _, .int i, _ => .int i
 | _, _, .str x, _ => .str x
 | _, _, .lst _ _ _, h => by rw [N2] at h; cases h
 | _, _, .tup _ e t, h => .tup (ft _ _ e) e (B4.flat ft t (by rw [N2] at h; exact h))
 | _, _, .dic _ _ _, h => by rw [N2] at h; cases h
theorem B4.flat {F G : Addr -> Prop} {H : Hp} (ft : ∀ b xs, H b = some (.tup xs) -> F b) : ∀ {vs : List V} {ds : List PyData}, B4 G H vs ds -> O6 ds = true -> B4 F H vs ds
 | _, _, .nil, _ => .nil
 | _, _, .cons x t, h => by
  rw [O6, j2] at h
  exact .cons (ThV.flat ft x h.1) (B4.flat ft t h.2)
end
open Classical in
theorem C0.norm0 {C : DC} {col : Addr -> Nat} {ρ : List Sl} {σ : L2.St} {P : List Pe} {H : Hp} (r : C0 C col ρ σ P H) : ∃ col', C0 C col' ρ σ P H /\ (∀ b xs, H b = some (.tup xs) -> col' b = 0) /\ ∀ b, C.H0 b ≠ none -> col' b <= 1 := by
 obtain ⟨col, r, tp⟩ := r.norm
 let col' : Addr -> Nat := fun b => if C.H0 b ≠ none /\ 1 < col b then 1 else col b
 have c0 : ∀ b, C.H0 b = none -> col' b = col b := fun b h => if_neg fun z => z.1 h
 have c1 : ∀ b, col b <= 1 -> col' b = col b := fun b h => if_neg fun z => absurd z.2 (by lia)
 have lo : ∀ b, col b <= 1 -> col' b <= 1 := fun b h => by rw [c1 b h]; exact h
 have z0 : ∀ b, col' b = 0 -> col b = 0 := fun b h => by
  by_cases q : C.H0 b ≠ none /\ 1 < col b
  ·have h : (if C.H0 b ≠ none /\ 1 < col b then 1 else col b) = 0 := h
   rw [if_pos q] at h; cases h
  ·have h : (if C.H0 b ≠ none /\ 1 < col b then 1 else col b) = 0 := h
   rw [if_neg q] at h; exact h
 have mv0 : ∀ b o, Z col b -> H b = some o -> Z col' b /\ H b = some o := fun b o z e => ⟨(c1 b (by rw [show col b = 0 from z]; decide)).trans z, e⟩
 refine ⟨col', ⟨fun b hb => (c1 b (by rw [r.fresh b hb]; decide)).trans (r.fresh b hb), fun b hb => r.inF b (z0 b hb), fun q hq => (c1 _ (by rw [r.hnd q hq]; decide)).trans (r.hnd q hq), fun i s e => ?_, fun p hp => ?_, r.kq, r.hq, r.hq0, r.nf, r.len⟩, fun b xs e => (c1 b (by rw [tp b xs e]; decide)).trans (tp b xs e), fun b hb => ?_⟩
 ·have h := r.sl i s e
  cases s with
  | no => trivial
  | sh d => obtain ⟨v, e1, t⟩ := h; exact ⟨v, e1, t.mv mv0⟩
  | ow ds => obtain ⟨a, vs, e1, c, n, e2, t⟩ := h; exact ⟨a, vs, e1, (c0 a n).trans c, n, e2, t.mv mv0⟩
  | bo ds => obtain ⟨a, vs, e1, c, n, e2, t⟩ := h; exact ⟨a, vs, e1, lo a c, n, e2, t.mv mv0⟩
  | hd => exact h
  | o2 dss => obtain ⟨a, as, e1, c, e2, nd, t⟩ := h; exact ⟨a, as, e1, ⟨(c0 a c.2).trans c.1, c.2⟩, e2, nd, t.mv mv0 fun b o g e => ⟨⟨(c0 b g.2).trans g.1, g.2⟩, e⟩⟩
  | b2 dss => obtain ⟨a, as, e1, c, e2, t⟩ := h; exact ⟨a, as, e1, ⟨lo a c.1, c.2⟩, e2, t.mv mv0 fun b o g e => ⟨⟨lo b g.1, g.2⟩, e⟩⟩
  | di f ks => obtain ⟨a, e1, c, n, e2⟩ := h; exact ⟨a, e1, (c0 a n).trans c, n, e2⟩
  | dm f ks => obtain ⟨a, e1, c, n, e2⟩ := h; exact ⟨a, e1, (c0 a n).trans c, n, e2⟩
  | bd d => exact h
  | ot d => obtain ⟨v, e1, t⟩ := h; exact ⟨v, e1, t.mv fun b o g e => ⟨g.imp (fun g => ⟨(c0 b g.2).trans g.1, g.2⟩) fun g => ⟨(c1 b (by rw [g.1]; decide)).trans g.1, g.2⟩, e⟩⟩
  | ob R => obtain ⟨v, e1, t⟩ := h; exact ⟨v, e1, R.mv (fun b o g e => ⟨g.imp (fun g => ⟨(c0 b g.2).trans g.1, g.2⟩) fun g => ⟨(c1 b (by rw [g.1]; decide)).trans g.1, g.2⟩, e⟩) t⟩
 ·have h := r.pd p hp
  cases p with
  | v v d => exact ThV.mv mv0 h
  | n a o => exact ⟨lo a h.1, h.2⟩
  | s vs ds => exact B4.mv mv0 h
  | o c as dss => exact ⟨h.1, h.2.mv mv0 fun b o g e => ⟨⟨(c0 b g.2).trans g.1, g.2⟩, e⟩⟩
  | w v d => exact h
 ·show (if C.H0 b ≠ none /\ 1 < col b then 1 else col b) <= 1
  split
  ·exact J8 _
  ·rename_i q
   rcases A3u 1 (col b) with z | z
   ·exact absurd ⟨hb, z⟩ q
   ·exact z
def lOf (C : DC) (t : DE) : TE := fun σ H Q => ∃ ρ P Qd, Rel C ρ σ P H /\ t ρ Qd /\ ∀ v d ρ' H', Rel C ρ' σ (.w v d :: P) H' -> Qd d ρ' -> Q v H'
section
variable {X : Cx} {C : DC} {e a b : Expr} {es : List Expr} {t ta tb te : DE} {u : DA} {pos : Pos} {st : Stmt} {tg : Expr}
def A1g (i : Nat) (ρ : List Sl) (Q : PyData -> List Sl -> Prop) : Prop := bnd (g3 ρ i) fun d => Q d ρ
theorem V8 {i : Nat} (h : PE X e (S1 i)) : PE X e (lOf C (A1g i)) := PE.wk h fun σ H Q z => el3 z fun ρ P Qd R ht k => R.elim fun col r => by
 obtain ⟨d, hd, q⟩ := L0 ht
 obtain ⟨v, ev, t⟩ := r.lent hd
 exact ⟨v, ev, k _ _ _ _ ⟨col, r.add (x := .w v d) t⟩ q⟩
theorem C0.ixL {K : A3} {F : Addr -> Prop} {col : Addr -> Nat} {ρ : List Sl} {σ : L2.St} {P : List Pe} {H : Hp} {v w : V} {a b d : PyData} (r : C0 C col ρ σ P H) (t1 : ThV (Le C) C.H0 v a) (t2 : ThV F H w b) (h : ixD a b = some d) : ∃ u, ThV (Le C) C.H0 u d /\ ∀ Q : VK, Q u H -> rIx K v w H Q := by
 unfold ixD at h
 split at h
 ·cases t2
  obtain ⟨p, vs, rfl, n, e, t⟩ := P9 t1
  obtain ⟨u, hu, tu⟩ := A0o t h
  exact ⟨u, tu, fun Q q => .inl ⟨p, vs, _, u, rfl, rfl, SqL.of (r.kq p _ e n.2), hu, q⟩⟩
 ·cases t2
  obtain ⟨p, vs, rfl, n, e, t⟩ := A03 t1
  obtain ⟨u, hu, tu⟩ := A0o t h
  exact ⟨u, tu, fun Q q => .inr (.inl ⟨p, vs, _, u, rfl, rfl, SqT.of (r.kq p _ e n.2), hu, q⟩)⟩
 ·cases h
def A1h (ta tb : DE)  (ρ : List Sl) (Q : PyData -> List Sl -> Prop) : Prop := ta ρ fun a ρ1 => tb ρ1 fun b ρ2 => bnd (ixD a b) fun d => Q d ρ2
theorem O0 (ha : PE X a (lOf C ta)) (hb : PE X b (eOf C tb)) (hs : A81 b) : PE X (.Subscript a b pos) (lOf C (A1h ta tb)) := PE.wk (J0 L9 ha hb hs) fun _ _ _ z => el3 z fun ρ P _ R ht k => ⟨ρ, P, _, R, ht, fun v _ ρ1 H1 R1 h1 => ⟨ρ1, _, _, R1, h1, fun w _ ρ2 H2 R2 h2 => R2.elim fun col r => by
 obtain ⟨d, hd, q⟩ := L0 h2
 obtain ⟨x, tu, f⟩ := r.ixL (K := X.K) (r.pd _ (C3 _ C6)) (show ThV (Z col) H2 w _ from r.pd _ C6) hd
 exact f _ (k _ _ _ _ ⟨col, (r.sub fun _ h => C3 _ (C3 _ h)).add (x := .w x d) tu⟩ q)⟩⟩
def A1i (t : DE)  (ρ : List Sl) (Q : PyData -> List Sl -> Prop) : Prop := t ρ fun d ρ' => N2 d = true /\ Q d ρ'
theorem h8 (h : PE X e (lOf C t)) : PE X e (eOf C (A1i t)) := PE.wk h fun _ _ _ z => el3 z fun ρ P _ R ht k => ⟨ρ, P, _, R, ht, fun v d ρ' H' R' q => R'.elim fun col0 r0 => by
 obtain ⟨col, r, tp, _⟩ := r0.norm0
 exact k _ _ _ _ ⟨col, (r.sub fun _ h => C3 _ h).push ((r.le (r.pd _ C6)).flat tp q.1)⟩ q.2⟩
def A1j (t : DE)  (ρ : List Sl) (Q : PyData -> List Sl -> Prop) : Prop := t ρ fun d ρ' => bnd (lenD d) fun n => Q (.int n) ρ'
theorem C2t {K : A3} (h : PE X e (tCB (A9c K) (P3 (lOf C t) T8))) : PE X e (eOf C (A1j t)) := PE.wk h fun _ _ _ z => el3 z fun ρ P _ R ht k => ⟨ρ, P, _, R, ht, fun v d ρ' H' R' q => R'.elim fun col r => by
 obtain ⟨n, hn, q⟩ := L0 q
 have t := r.le (r.pd _ C6)
 have fin := k _ _ _ _ ⟨col, (r.sub fun _ h => C3 _ h).push (.int n)⟩ q
 cases d with
 | list ds =>
  cases hn
  obtain ⟨p, vs, rfl, _, e, t⟩ := P9 t
  exact ⟨p, vs, rfl, .inl (SqL.of e), by rw [t.len]; exact fin⟩
 | tuple ds =>
  cases hn
  obtain ⟨p, vs, rfl, _, e, t⟩ := A03 t
  exact ⟨p, vs, rfl, .inr (SqT.of e), by rw [t.len]; exact fin⟩
 | _ => cases hn⟩
def A24 (t : DE) (T : String)  (ρ : List Sl) (Q : PyData -> List Sl -> Prop) : Prop := t ρ fun a ρ' => Q (.bool (U3 T a)) ρ'
theorem B6l {K : A3} {F : Addr -> Prop} {H : Hp} {v : V} {d : PyData} (t : ThV F H v d) : ∃ t', tyD d = some t' /\ A5c K H v (.type t') := by
 obtain ⟨t', e1, e2⟩ := B1v (K := K) (col := fun _ => 0) (.th (t.mv fun b o _ e => ⟨rfl, e⟩))
 exact ⟨t', e1, e2⟩
def o7 (neg : Bool) (t : DE)  (ρ : List Sl) (Q : PyData -> List Sl -> Prop) : Prop := t ρ fun a ρ' => Q (.bool (if neg then !isN a else isN a)) ρ'
def A25 (t : DE)  (ρ : List Sl) (Q : List PyData -> List Sl -> Prop) : Prop := t ρ fun d ρ' => bnd (Z1 d) fun ds => O6 ds = true /\ Q ds ρ'
def dIL (t : DE)  (ρ : List Sl) (Q : List PyData -> List Sl -> Prop) : Prop := t ρ fun d ρ' => bnd (M0 d) fun xs => O6 xs = true /\ Q xs ρ'
def A74 (t : DE)  (ρ : List Sl) (Q : List PyData -> List Sl -> Prop) : Prop := t ρ fun d ρ' => bnd (M0 d) fun xs => O6 xs = true /\ Q (g4 xs) ρ'
theorem C2u {K : A3} (h : PI X tg e (B1m K (P3 (lOf C t) T8))) : PI X tg e (iOf C (A74 t)) := PI.wk h fun _ _ _ z => el3 z fun ρ P _ R ht k => ⟨ρ, P, _, R, ht, fun v d ρ' H' R' q => R'.elim fun col0 r0 => by
 obtain ⟨xs, hx, hf, q2⟩ := L0 q
 have := A2a hx
 subst this
 obtain ⟨col, r, tp, lo⟩ := r0.norm0
 obtain ⟨a, vs, rfl, n, e1, t1⟩ := P9 (r.le (r.pd _ C6))
 refine ⟨a, rfl, ⟨vs, SqL.of e1⟩, k _ ρ' (.n a (.lst vs) :: .s vs xs :: P) H' _ ⟨col, ?_⟩ (fun _ h => C3 _ (C3 _ h)) B5o q2⟩
 exact ((r.sub fun _ h => C3 _ h).add (x := .s vs xs) (t1.flat tp hf)).add (x := .n a (.lst vs)) ⟨lo a n.1, n.2, e1⟩⟩
def aW (t : DE) (u : DA)  (ρ : List Sl) (Q : List Ar -> List Sl -> Prop) : Prop := t ρ fun d ρ1 => u ρ1 fun as ρ2 => Q (.w d :: as) ρ2
end
end My
namespace My
open PySem L2
def E6 (C : DC) (col : Addr -> Nat) (i : Nat) (b : Addr) : Prop := col b = 2 * i + 3 /\ C.H0 b = none
open Classical in
noncomputable def ldC (C : DC) (col : Addr -> Nat) (H : Hp) (i : Nat) : DC := ⟨fun b => C.F b /\ ¬ E6 C col i b, C.hand, fun b => if E6 C col i b \/ (∃ xs, H b = some (.tup xs)) then H b else C.H0 b⟩
def M8 : List Sl -> Bool
 | [] => true
 | .b2 _ :: _ => false
 | .no :: r => M8 r
 | .sh _ :: r => M8 r
 | .ow _ :: r => M8 r
 | .bo _ :: r => M8 r
 | .hd :: r => M8 r
 | .o2 _ :: r => M8 r
 | .di _ _ :: r => M8 r
 | .dm _ _ :: r => M8 r
 | .bd _ :: r => M8 r
 | .ot _ :: r => M8 r
 | .ob _ :: r => M8 r
theorem B6m : ∀ {ρ : List Sl} {j : Nat} {d : List (List PyData)}, M8 ρ = true -> ρ[j]? = some (.b2 d) -> False
 | [], _, _, _, e => by cases e
 | s :: r, 0, d, h, e => by cases e; cases h
 | s :: r, j + 1, d, h, e => by
  have e : r[j]? = some (.b2 d) := e
  cases s with
  | b2 _ => cases h
  | _ => exact B6m (show M8 r = true from h) e
section
variable {C : DC} {col col2 : Addr -> Nat} {ρ : List Sl} {σ : L2.St} {P : List Pe} {H H2 : Hp} {i : Nat} {d : PyData}
theorem A26 (h : E6 C col i b \/ ∃ xs, H b = some (.tup xs)) : (ldC C col H i).H0 b = H b := if_pos h
theorem A1k {b : Addr} (h : ¬ (E6 C col i b \/ ∃ xs, H b = some (.tup xs))) : (ldC C col H i).H0 b = C.H0 b := if_neg h
theorem C0.ld_at (r : C0 C col ρ σ P H) {b : Addr} {o : HO} (e : C.H0 b = some o) (n : ∀ q, C.hand = some q -> b ≠ q.1) : (ldC C col H i).H0 b = some o := by
 by_cases z : E6 C col i b \/ ∃ xs, H b = some (.tup xs)
 ·rw [A26 z]; exact r.kq b o e n
 ·rw [A1k z]; exact e
theorem C0.ld_le (r : C0 C col ρ σ P H) {v : V} {x : PyData} (t : ThV (Le C) C.H0 v x) : ThV (Le (ldC C col H i)) (ldC C col H i).H0 v x := t.mv fun b o g e => ⟨⟨(by rw [r.ld_at e g.2]; exact fun q => nomatch q), g.2⟩, r.ld_at e g.2⟩
theorem C0.notT (r : C0 C col ρ σ P H) (tp : ∀ b xs, H b = some (.tup xs) -> col b = 0) {b : Addr} (h1 : col b ≠ 2 * i + 3) (h2 : col b ≠ 0) : ¬ (E6 C col i b \/ ∃ xs, H b = some (.tup xs)) := fun z => by
 rcases z with z | ⟨xs, z⟩
 ·exact h1 z.1
 ·exact h2 (tp b xs z)
open Classical in
open Classical in
end
end My
namespace My
open PySem L2
section
variable {X : Cx} {C : DC} {e : Expr} {st : Stmt} {t te : DE} {u : DA} {i : Nat}
def A27 (i : Nat) (t : DE)  (ρ : List Sl) (Q : PyData -> List Sl -> Prop) : Prop := match ρ[i]? with
 | some (.ot d) => M8 ρ = true /\ t (ρ.set i (.bd d)) fun d' ρ' => ρ' = ρ.set i (.bd d) /\ Q d' ρ
 | _ => t ρ Q
def X8 : List Md -> List PyData -> Bool
 | [], [] => true
 | .sh :: ms, d :: ds => N2 d && X8 ms ds
 | .bo :: ms, .list es :: ds => O6 es && X8 ms ds
 | .bd :: ms, _ :: ds => X8 ms ds
 | .hd :: ms, _ :: ds => X8 ms ds
 | _, _ => false
def A28 (i : Nat) (ms : List Md) (sp : DSp) (u : DA)  (D : K9) (ρ : List Sl) : Prop := u ρ fun as ρ' => bnd (O5 ρ' ms as) fun ds => X8 ms ds = true /\ sp ds fun d => D.nx (ρ'.set i (.ot d))
open Classical in
theorem C0.writeT {col : Addr -> Nat} {ρ : List Sl} {σ : L2.St} {P : List Pe} {H : Hp} {l : Addr} {xs ws : List V} {s : Sl} (r : C0 C col ρ σ P H) (hl : E6 C col i l) (el : H l = some (.lst xs)) (new : i < ρ.length -> SlR C col (upd H l (.lst ws)) i (σ[i]?).join s) : C0 C col (ρ.set i s) σ P (upd H l (.lst ws)) := by
 have ne : ∀ x, col x ≠ 2 * i + 3 -> x ≠ l := fun x hx q => hx (q ▸ hl.1)
 have up : ∀ x o, col x ≠ 2 * i + 3 -> H x = some o -> upd H l (.lst ws) x = some o := fun x o h e => by rw [B9 (ne x h)]; exact e
 refine C0.chg r i _ r.len (fun x hx => ?_) r.inF r.hnd (fun x o c e => ⟨c, up x o (by omega) e⟩) (fun x o c _ e => ⟨c, up x o (by omega) e⟩) (fun _ _ _ _ x o c e => ⟨c, up x o (by omega) e⟩) (fun x o j hj c e => ⟨c, up x o (by omega) e⟩) (fun x o e q => ?_) (fun q hq => ?_) (fun _ _ => rfl) new
 ·by_cases q : x = l
  ·rw [q, J1] at hx; cases hx
  ·rw [B9 q] at hx; exact r.fresh x hx
 ·have z := r.kq x o e q
  have q' : x ≠ l := fun q' => by rw [q', hl.2] at e; cases e
  rw [B9 q']; exact z
 ·obtain ⟨o1, h1⟩ := (r.hq0 q hq).at1
  obtain ⟨o2, h2⟩ := (r.hq0 q hq).at2
  exact (r.hq q hq).wr (fun z => by rw [<- z, hl.2] at h1; cases h1) (fun z => by rw [<- z, hl.2] at h2; cases h2)
mutual
def C2v : PyData -> PyData
 | .tuple xs => .tuple (A5s xs)
 | .list _ => .list []
 | .none => .none
 | .bool b => .bool b
 | .int i => .int i
 | .str s => .str s
 | .dict d => .dict d
def A5s : List PyData -> List PyData
 | [] => []
 | d :: ds => C2v d :: A5s ds
end
end
end My
namespace My
open PySem L2
section
variable {X : Cx} {C : DC} {e : Expr} {st : Stmt} {t te : DE} {u : DA} {i : Nat}
def A29 (i : Nat) (c : Int) (te : DE) (D : K9) (ρ : List Sl) : Prop := match ρ[i]? with
 | some (.ot (.tuple xs)) => M8 ρ = true /\ match atI xs c with
  | some (.list ds) => (O6 ds = true /\ ds.length <= 100000) /\ te (ρ.set i (.bd (.tuple xs))) fun d' ρ' => ρ' = ρ.set i (.bd (.tuple xs)) /\ N2 d' = true /\ ∀ xs', A5s xs' = A5s xs -> D.nx (ρ.set i (.ot (.tuple xs')))
  | _ => False
 | _ => False
theorem C2w {xs ys : List PyData} (h1 : O6 xs = true) (h2 : O6 ys = true) : O6 (xs ++ ys) = true := by
 induction xs with
 | nil => exact h2
 | cons x xs ih =>
  rw [O6, j2] at h1
  rw [A1x, O6, h1.1, ih h1.2]; rfl
open Classical in
def A3a (i : Nat) (c : Int) (te : DE) (D : K9) (ρ : List Sl) : Prop := match ρ[i]? with
 | some (.ot (.tuple xs)) => M8 ρ = true /\ match atI xs c with
  | some (.list ds) => ds.length <= 100000 /\ te (ρ.set i (.bd (.tuple xs))) fun d' ρ' => ρ' = ρ.set i (.bd (.tuple xs)) /\ D.nx (ρ.set i .no)
  | _ => False
 | _ => False
open Classical in
def A3b (i : Nat) (c : Int) (D : K9) (ρ : List Sl) : Prop := match ρ[i]? with
 | some (.ot (.tuple xs)) => match atI xs c with
  | some (.list _) => ∀ xs', A5s xs' = A5s xs -> D.nx (ρ.set i (.ot (.tuple xs')))
  | _ => False
 | _ => False
end
end My
namespace L2
open PySem PySem.Spec PyProof.Rows
section
variable {X : Cx}
end
end L2
namespace My
open PySem L2
section
variable {X : Cx} {C : DC} {a b : Expr} {te : DE} {pos : Pos} {i : Nat}
def A3c (te : DE) (i : Nat) (ρ : List Sl) (Q : PyData -> List Sl -> Prop) : Prop := te ρ fun d ρ1 => bnd (N6 ρ1 i) fun a => bnd (M0 a) fun xs => (PyData.canLayAll0 xs = true /\ d.canLay0 = true /\ d.depth <= 60) /\ Q (.bool (!(xs.any fun z => PyData.eqv z d))) ρ1
end
end My
namespace My
open PySem L2
section
variable {X : Cx} {C : DC} {e a b : Expr} {t : DE} {tt : DT} {i : Nat} {pos : Pos}
def A3d (i : Nat) (tt : DT)  (ρ : List Sl) (Q : Bool -> List Sl -> Prop) : Prop := match ρ[i]? with
 | some (.ot d) => M8 ρ = true /\ tt (ρ.set i (.bd d)) fun b ρ' => ρ' = ρ.set i (.bd d) /\ Q b ρ
 | _ => tt ρ Q
theorem C2x {σ : L2.St} {H : Hp} {Q : VK} (h : eOf C (o7 true t) σ H Q) : tOp (fun x y H Q => y = .non /\ Q (.bl (!decide (x = .non))) H) (lOf C t) (tC .non) σ H Q := el3 h fun ρ P Qd R ht k => ⟨ρ, P, _, R, ht, fun v d ρ' H' R' q => R'.elim fun col r => by
 refine ⟨rfl, ?_⟩
 rw [A7q (r.le (r.pd _ C6))]
 exact k _ _ _ _ ⟨col, (r.sub fun _ h => C3 _ h).push (.bl _)⟩ q⟩
theorem C2y (ho : OpR X (compareOp .IsNot) (fun x y H Q => y = .non /\ Q (.bl (!decide (x = .non))) H)) (ha : PE X a (lOf C t)) (hb : PE X b (tC .non)) (hm : behindInMarks .IsNot b = false) : PT X (.Compare a [.IsNot] [b] pos) (cOf C (dT (o7 true t))) := PT.wk (b7 ho ha hb hm) fun _ _ _ h => C2x (A89 h)
end
end My
namespace My
open PySem L2
section
variable {X : Cx} {C : DC} {e : Expr} {u : DA} {i : Nat}
def arS (ρ : List Sl) (i : Nat) (m : Md) (a : Ar) : Option PyData := match m, a with
 | .sh, .s j => if j = i then (match ρ[i]? with
  | some (.ot d) => some d
  | _ => none) else none
 | m, a => arD ρ m a
def o8 (ρ : List Sl) (i : Nat) : List Md -> List Ar -> Option (List PyData)
 | [], [] => some []
 | m :: ms, a :: as => (arS ρ i m a).bind fun d => (o8 ρ i ms as).map (d :: ·)
 | _, _ => none
theorem A5l.mono {F G : Addr -> Prop} {hand : Option (Addr × Addr)} {H : Hp} {v : V} {d : PyData} {m : Md} (f : ∀ b o, F b -> H b = some o -> G b /\ H b = some o) (a : A5l F hand H v d m) : A5l G hand H v d m := by
 cases m with
 | sh => exact ThV.mv f a
 | bo => obtain ⟨a, us, es, e1, e2, n, e, t⟩ := a; exact ⟨a, us, es, e1, e2, n, e, t.mv f⟩
 | hd => exact a
 | b2 => obtain ⟨a, as, dss, e1, e2, n, e, t⟩ := a; exact ⟨a, as, dss, e1, e2, n, e, t.mv f fun b o g e => ⟨g, e⟩⟩
 | bd => exact a
def A3e (i : Nat) (ms : List Md) (sp : DSp) (u : DA)  (ρ : List Sl) (Q : PyData -> List Sl -> Prop) : Prop := u ρ fun as ρ' => bnd (o8 ρ' i ms as) fun ds => sp ds fun d => N2 d = true /\ Q d ρ'
end
end My
namespace My
open PySem L2
section
variable {C : DC} {col : Addr -> Nat} {ρ : List Sl} {σ : St} {P : List Pe} {H H' : Hp} {p : Addr}
end
section
variable {X : Cx} {C : DC} {st : Stmt} {e a b : Expr} {te tk : DE} {pos : Pos}
theorem B4.lenD {F : Addr -> Prop} {H : Hp} : ∀ {vs : List V} {ds : List PyData}, B4 F H vs ds -> vs.length = ds.length
 | _, _, .nil => rfl
 | _, _, .cons _ t => by rw [M2, M2, B4.lenD t]
end
section
variable {X : Cx} {C : DC} {st : Stmt}
end
end My
namespace My
open PySem L2
section
variable {X : Cx} {C : DC} {st : Stmt} {i j : Nat}
theorem C0.put0 {col : Addr -> Nat} {ρ : List Sl} {σ : L2.St} {P : List Pe} {H : Hp} {v : Option V} (r : C0 C col ρ σ P H) (hj : ρ[j]? = some .no) : C0 C col ρ (σ.set j v) P H := by
 refine { r with sl := fun i s' e => ?_, len := by rw [N3]; exact r.len }
 by_cases c : j = i
 ·subst c
  rw [hj] at e
  cases e
  trivial
 ·have := r.sl i s' e
  rw [Q1 c]
  exact this
theorem C0.slotS {col : Addr -> Nat} {ρ : List Sl} {σ : L2.St} {P : List Pe} {H : Hp} {s : Sl} (r : C0 C col ρ σ P H) (h : SlR C col H i (σ[i]?).join s) : C0 C col (ρ.set i s) σ P H := by
 refine { r with sl := fun k s' e => ?_, len := by rw [N3]; exact r.len }
 by_cases c : i = k
 ·subst c
  by_cases l : i < ρ.length
  ·rw [A69 l] at e
   cases e
   exact h
  ·rw [j4 (by rw [N3]; lia)] at e
   cases e
 ·rw [Q1 c] at e
  exact r.sl k s' e
end
end My
namespace My
open PySem L2
section
variable {X : Cx} {C : DC} {e : Expr} {te tp tl : DE} {i : Nat}
open Classical in
end
end My
namespace My
open PySem L2
open PySem.Spec
section
variable {X : Cx} {C : DC} {a st : Expr} {pos : Pos}
end
end My
namespace My
open PySem L2
open PySem.Spec
section
variable {X : Cx} {C : DC}
end
end My
namespace My
open PySem L2
open PySem.Spec
mutual
def okS : PyData -> Bool
 | .none => true
 | .bool _ => true
 | .int _ => true
 | .str _ => true
 | .tuple xs => B2j xs
 | .list xs => B2j xs
 | .dict ks => ks.isEmpty
def B2j : List PyData -> Bool
 | [] => true
 | d :: ds => okS d && B2j ds
end
section
variable {X : Cx} {pins : List (Addr × Obj)} {σ : St} {H : Hp} {s : Shared} {F : Addr -> Prop}
end
section
variable {C : DC}
end
end My
namespace My
open PySem L2
open PySem.Spec PyProof.Rows
section
variable {X : Cx} {C : DC} {st : Stmt} {i : Nat}
open Classical in
end
end My
namespace My
open PySem L2
open PySem.Spec PyProof.Rows
section
variable {X : Cx} {C : DC} {a b : Expr} {tl tb : DE} {pos : Pos}
end
end My
namespace My
open PySem L2
open PySem.Spec PyProof.Rows
mutual
inductive FpV (F : Addr -> Prop) (H : Hp) : V -> PyData -> List Addr -> Prop
 | non : FpV F H .non .none []
 | bl (b) : FpV F H (.bl b) (.bool b) []
 | int (i) : FpV F H (.int i) (.int i) []
 | str (x) : FpV F H (.str x) (.str x) []
 | lst {a xs ds fp} : F a -> H a = some (.lst xs) -> F4 F H xs ds fp -> FpV F H (.ref a) (.list ds) (a :: fp)
 | tup {a xs ds fp} : F a -> H a = some (.tup xs) -> F4 F H xs ds fp -> FpV F H (.ref a) (.tuple ds) fp
inductive F4 (F : Addr -> Prop) (H : Hp) : List V -> List PyData -> List Addr -> Prop
 | nil : F4 F H [] [] []
 | cons {x xs d ds fp fps} : FpV F H x d fp -> F4 F H xs ds fps -> F4 F H (x :: xs) (d :: ds) (fp ++ fps)
end
mutual
theorem FpV.th {F : Addr -> Prop} {H : Hp} : ∀ {v : V} {d : PyData} {fp : List Addr}, FpV F H v d fp -> ThV F H v d
 | _, _, _, .non => .non
 | _, _, _, .bl b => .bl b
 | _, _, _, .int i => .int i
 | _, _, _, .str x => .str x
 | _, _, _, .lst n e t => .lst n e (F4.th t)
 | _, _, _, .tup n e t => .tup n e (F4.th t)
theorem F4.th {F : Addr -> Prop} {H : Hp} : ∀ {vs : List V} {ds : List PyData} {fp : List Addr}, F4 F H vs ds fp -> B4 F H vs ds
 | _, _, _, .nil => .nil
 | _, _, _, .cons x t => .cons (FpV.th x) (F4.th t)
end
mutual
theorem FpV.mvm {F G : Addr -> Prop} {H H' : Hp} : ∀ {v : V} {d : PyData} {fp : List Addr}, FpV F H v d fp -> (∀ b o, F b -> H b = some o -> (b ∈ fp \/ ∃ xs, o = .tup xs) -> G b /\ H' b = some o) -> FpV G H' v d fp
 | _, _, _, .non, _ => .non
 | _, _, _, .bl b, _ => .bl b
 | _, _, _, .int i, _ => .int i
 | _, _, _, .str x, _ => .str x
 | _, _, _, .lst n e t, f =>
  have q := f _ _ n e (.inl C6)
  .lst q.1 q.2 (F4.mvm t fun b o z e h => f b o z e (h.imp (C3 _) id))
 | _, _, _, .tup n e t, f =>
  have q := f _ _ n e (.inr ⟨_, rfl⟩)
  .tup q.1 q.2 (F4.mvm t f)
theorem F4.mvm {F G : Addr -> Prop} {H H' : Hp} : ∀ {vs : List V} {ds : List PyData} {fp : List Addr}, F4 F H vs ds fp -> (∀ b o, F b -> H b = some o -> (b ∈ fp \/ ∃ xs, o = .tup xs) -> G b /\ H' b = some o) -> F4 G H' vs ds fp
 | _, _, _, .nil, _ => .nil
 | _, _, _, .cons x t, f => .cons (FpV.mvm x fun b o z e h => f b o z e (h.imp (fun h => O8.mpr (.inl h)) id)) (F4.mvm t fun b o z e h => f b o z e (h.imp (fun h => O8.mpr (.inr h)) id))
end
mutual
theorem FpV.mem {F : Addr -> Prop} {H : Hp} : ∀ {v : V} {d : PyData} {fp : List Addr}, FpV F H v d fp -> ∀ b ∈ fp, F b /\ ∃ xs, H b = some (.lst xs)
 | _, _, _, .non, _, h => nomatch h
 | _, _, _, .bl _, _, h => nomatch h
 | _, _, _, .int _, _, h => nomatch h
 | _, _, _, .str _, _, h => nomatch h
 | _, _, _, .lst n e t, b, h => by
  rcases O7.mp h with rfl | h
  ·exact ⟨n, _, e⟩
  ·exact F4.mem t b h
 | _, _, _, .tup n e t, b, h => F4.mem t b h
theorem F4.mem {F : Addr -> Prop} {H : Hp} : ∀ {vs : List V} {ds : List PyData} {fp : List Addr}, F4 F H vs ds fp -> ∀ b ∈ fp, F b /\ ∃ xs, H b = some (.lst xs)
 | _, _, _, .nil, _, h => nomatch h
 | _, _, _, .cons x t, b, h => by
  rcases O8.mp h with h | h
  ·exact FpV.mem x b h
  ·exact F4.mem t b h
end
mutual
theorem ThV.fp0 {F : Addr -> Prop} {H : Hp} : ∀ {v : V} {d : PyData}, ThV F H v d -> N2 d = true -> FpV F H v d []
 | _, _, .non, _ => .non
 | _, _, .bl b, _ => .bl b
 | _, _, .int i, _ => .int i
 | _, _, .str x, _ => .str x
 | _, _, .lst _ _ _, h => by rw [N2] at h; cases h
 | _, _, .tup n e t, h => .tup n e (B4.fp0 t (by rw [N2] at h; exact h))
 | _, _, .dic _ _ _, h => by rw [N2] at h; cases h
theorem B4.fp0 {F : Addr -> Prop} {H : Hp} : ∀ {vs : List V} {ds : List PyData}, B4 F H vs ds -> O6 ds = true -> F4 F H vs ds []
 | _, _, .nil, _ => .nil
 | _, _, .cons x t, h => by
  rw [O6, j2] at h
  exact F4.cons (fps := []) (ThV.fp0 x h.1) (B4.fp0 t h.2)
end
mutual
theorem FpV.uniq {F G : Addr -> Prop} {H : Hp} : ∀ {v : V} {d d' : PyData} {fp fq : List Addr}, FpV F H v d fp -> FpV G H v d' fq -> d = d' /\ fp = fq
 | _, _, _, _, _, .non, h => by cases h; exact ⟨rfl, rfl⟩
 | _, _, _, _, _, .bl b, h => by cases h; exact ⟨rfl, rfl⟩
 | _, _, _, _, _, .int i, h => by cases h; exact ⟨rfl, rfl⟩
 | _, _, _, _, _, .str x, h => by cases h; exact ⟨rfl, rfl⟩
 | _, _, _, _, _, .lst n e t, h => by
  cases h with
  | lst n' e' t' =>
   rw [e] at e'
   cases e'
   obtain ⟨rfl, rfl⟩ := F4.uniq t t'
   exact ⟨rfl, rfl⟩
  | tup n' e' t' => rw [e] at e'; cases e'
 | _, _, _, _, _, .tup n e t, h => by
  cases h with
  | lst n' e' t' => rw [e] at e'; cases e'
  | tup n' e' t' =>
   rw [e] at e'
   cases e'
   obtain ⟨rfl, rfl⟩ := F4.uniq t t'
   exact ⟨rfl, rfl⟩
theorem F4.uniq {F G : Addr -> Prop} {H : Hp} : ∀ {vs : List V} {ds ds' : List PyData} {fp fq : List Addr}, F4 F H vs ds fp -> F4 G H vs ds' fq -> ds = ds' /\ fp = fq
 | _, _, _, _, _, .nil, h => by cases h; exact ⟨rfl, rfl⟩
 | _, _, _, _, _, .cons x t, h => by
  cases h with
  | cons x' t' =>
   obtain ⟨rfl, rfl⟩ := FpV.uniq x x'
   obtain ⟨rfl, rfl⟩ := F4.uniq t t'
   exact ⟨rfl, rfl⟩
end
theorem F4.append {F : Addr -> Prop} {H : Hp} : ∀ {xs : List V} {ds : List PyData} {fp : List Addr} {ys : List V} {es : List PyData} {fq : List Addr}, F4 F H xs ds fp -> F4 F H ys es fq -> F4 F H (xs ++ ys) (ds ++ es) (fp ++ fq)
 | _, _, _, _, _, _, .nil, y => y
 | _, _, _, _, _, _, .cons x t, y => by
  rw [A3s]
  exact .cons x (F4.append t y)
theorem F4.put {F : Addr -> Prop} {H : Hp} : ∀ {vs : List V} {ds : List PyData} {fp : List Addr} {i : Nat} {d : PyData}, F4 F H vs ds fp -> fp.Nodup -> ds[i]? = some d ->
  ∃ v fp2, vs[i]? = some v /\ FpV F H v d fp2 /\ fp2.Nodup /\ (∀ b ∈ fp2, b ∈ fp) /\ ∀ (G : Addr -> Prop) (H' : Hp) (d' : PyData) (fp2' : List Addr), FpV G H' v d' fp2' -> fp2'.Sublist fp2 -> (∀ b o, F b -> H b = some o -> b ∉ fp2 -> G b /\ H' b = some o) -> ∃ fp', F4 G H' vs (ds.set i d') fp' /\ fp'.Sublist fp
 | _, _, _, _, _, .nil, _, e => by cases e
 | _, _, _, 0, d, .cons (x := x) (fp := fp) (fps := fps) t ts, nd, e => by
  cases Option.some.inj e
  have nd' := A3v.mp nd
  refine ⟨x, fp, rfl, t, nd'.1, fun b h => O8.mpr (.inl h), fun G H' d' fp2' t' hs f => ⟨fp2' ++ fps, .cons t' (ts.mvm fun b o z eb h => f b o z eb fun hb => ?_), hs.append (List.Sublist.refl _)⟩⟩
  rcases h with h | ⟨xs, rfl⟩
  ·exact nd'.2.2 b hb b h rfl
  ·obtain ⟨_, ys, ey⟩ := t.mem b hb
   rw [eb] at ey; cases ey
 | _, _, _, i + 1, d, .cons (x := x) (fp := fp) (fps := fps) t ts, nd, e => by
  have nd' := A3v.mp nd
  obtain ⟨v, fp2, hv, tv, n2, hm, hk⟩ := F4.put (i := i) ts nd'.2.1 (show _ = some d from e)
  refine ⟨v, fp2, hv, tv, n2, fun b h => O8.mpr (.inr (hm b h)), fun G H' d' fp2' t' hs f => ?_⟩
  obtain ⟨fp', tt, sl⟩ := hk G H' d' fp2' t' hs f
  refine ⟨fp ++ fp', .cons (t.mvm fun b o z eb h => f b o z eb fun hb => ?_) tt, (List.Sublist.refl _).append sl⟩
  rcases h with h | ⟨xs, rfl⟩
  ·exact nd'.2.2 b h b (hm b hb) rfl
  ·obtain ⟨_, ys, ey⟩ := tv.mem b hb
   rw [eb] at ey; cases ey
def trR (d : PyData) : A5f where
 p := fun W H v => ∃ fp, FpV W H v d fp /\ fp.Nodup
 mv := fun f ⟨fp, t, n⟩ => ⟨fp, t.mvm fun b o z e _ => f b o z e, n⟩
theorem B6n {d : PyData} {W : Addr -> Prop} {H : Hp} {v : V} (h : (trR d).p W H v) : ThV W H v d := let ⟨_, t, _⟩ := h; t.th
section
variable {C : DC} {col col2 : Addr -> Nat} {ρ : List Sl} {σ : L2.St} {P : List Pe} {H H2 : Hp} {i : Nat} {d : PyData} {R : A5f}
open Classical in
theorem C0.lendO (r : C0 C col ρ σ P H) (tp : ∀ b xs, H b = some (.tup xs) -> col b = 0) (ei : ρ[i]? = some (.ob R)) (hR : ∀ {W H v}, R.p W H v -> ThV W H v d) : C0 (ldC C col H i) (fun b => if E6 C col i b then 1 else col b) (ρ.set i (.bd d)) σ P H := by
 have cs : ∀ b, E6 C col i b -> (if E6 C col i b then 1 else col b) = 1 := fun b h => if_pos h
 have cn : ∀ b, ¬ E6 C col i b -> (if E6 C col i b then 1 else col b) = col b := fun b h => if_neg h
 have ns : ∀ b, col b ≠ 2 * i + 3 -> ¬ E6 C col i b := fun b h z => h z.1
 have mv0 : ∀ b o, Z col b -> H b = some o -> Z (fun b => if E6 C col i b then 1 else col b) b /\ H b = some o := fun b o z e => ⟨by show (if E6 C col i b then 1 else col b) = 0; rw [cn b (ns b (by rw [show col b = 0 from z]; omega))]; exact z, e⟩
 have own : ∀ b j, j ≠ i -> col b = 2 * j + 3 -> C.H0 b = none -> (if E6 C col i b then 1 else col b) = 2 * j + 3 /\ (ldC C col H i).H0 b = none := fun b j hj c n => ⟨by rw [cn b (ns b (by omega))]; exact c, by rw [A1k (r.notT tp (by omega) (by omega))]; exact n⟩
 refine ⟨fun b hb => ?_, fun b hb => ?_, fun q hq => ?_, fun j s es => ?_, fun p hp => ?_, fun b o eb nb => ?_, r.hq, fun q hq => ?_, ⟨fun b hb => ?_, fun b xs hb => ?_⟩, by rw [N3]; exact r.len⟩
 ·have c := r.fresh b hb
  show (if E6 C col i b then 1 else col b) = 0
  rw [cn b (ns b (by omega))]; exact c
 ·have hb : (if E6 C col i b then 1 else col b) = 0 := hb
  by_cases z : E6 C col i b
  ·rw [cs b z] at hb; cases hb
  ·rw [cn b z] at hb; exact ⟨r.inF b hb, z⟩
 ·show (if E6 C col i q.1 then 1 else col q.1) = 1
  have := r.hnd q hq
  rw [cn _ (ns _ (by omega))]; exact this
 ·by_cases hj : j = i
  ·subst hj
   rw [Y4] at es
   simp only [if_true] at es
   split at es
   ·cases es
    obtain ⟨v, e1, t⟩ := r.sl j _ ei
    refine ⟨v, e1, (hR t).mv fun b o g e => ?_⟩
    have T : E6 C col j b \/ ∃ xs, H b = some (.tup xs) := g.imp id fun g => g.2
    have nh : ∀ q, C.hand = some q -> b ≠ q.1 := r.notH (by rcases g with g | g <;> (have := g.1; omega))
    exact ⟨⟨(by rw [A26 T, e]; exact fun q => nomatch q), nh⟩, by rw [A26 T]; exact e⟩
   ·cases es
  ·rw [Q1 (Ne.symm hj)] at es
   have h := r.sl j s es
   cases s with
   | no => trivial
   | sh d => obtain ⟨v, g1, t⟩ := h; exact ⟨v, g1, t.mv mv0⟩
   | ow ds => obtain ⟨b, us, g1, c, n', g2, t⟩ := h; exact ⟨b, us, g1, (own b j hj c n').1, (own b j hj c n').2, g2, t.mv mv0⟩
   | bo ds => obtain ⟨b, us, g1, c, n', g2, t⟩ := h; exact ⟨b, us, g1, by show (if E6 C col i b then 1 else col b) <= 1; rw [cn b (ns b (by omega))]; exact c, n', g2, t.mv mv0⟩
   | hd => exact h
   | o2 dss => obtain ⟨b, us, g1, c, g2, nd, t⟩ := h; exact ⟨b, us, g1, own b j hj c.1 c.2, g2, nd, t.mv mv0 fun b' o g e => ⟨own b' j hj g.1 g.2, e⟩⟩
   | b2 dss => obtain ⟨b, us, g1, c, g2, t⟩ := h; exact ⟨b, us, g1, ⟨by show (if E6 C col i b then 1 else col b) <= 1; rw [cn b (ns b (by have := c.1; omega))]; exact c.1, c.2⟩, g2, t.mv mv0 fun b' o g e => ⟨⟨by show (if E6 C col i b' then 1 else col b') <= 1; rw [cn b' (ns b' (by have := g.1; omega))]; exact g.1, g.2⟩, e⟩⟩
   | di f ks => obtain ⟨b, g1, c, n', g2⟩ := h; exact ⟨b, g1, (own b j hj c n').1, (own b j hj c n').2, g2⟩
   | dm f ks => obtain ⟨b, g1, c, n', g2⟩ := h; exact ⟨b, g1, (own b j hj c n').1, (own b j hj c n').2, g2⟩
   | bd d => obtain ⟨v, g1, t⟩ := h; exact ⟨v, g1, r.ld_le t⟩
   | ot d => obtain ⟨v, g1, t⟩ := h; exact ⟨v, g1, t.mv fun b o g e => ⟨g.imp (fun g => own b j hj g.1 g.2) fun g => ⟨(mv0 b o g.1 e).1, g.2⟩, e⟩⟩
   | ob R => obtain ⟨v, g1, t⟩ := h; exact ⟨v, g1, R.mv (fun b o g e => ⟨g.imp (fun g => own b j hj g.1 g.2) fun g => ⟨(mv0 b o g.1 e).1, g.2⟩, e⟩) t⟩
 ·have h := r.pd p hp
  cases p with
  | v v d => exact ThV.mv mv0 h
  | n b o => exact ⟨by show (if E6 C col i b then 1 else col b) <= 1; rw [cn b (ns b (by have := h.1; omega))]; exact h.1, h.2⟩
  | s vs ds => exact B4.mv mv0 h
  | o c as dss => exact ⟨h.1, h.2.mv mv0 fun b' o g e => ⟨⟨by show (if E6 C col i b' then 1 else col b') = _; rw [cn b' (ns b' (by have := g.1; omega))]; exact g.1, by rw [A1k (r.notT tp (by have := g.1; omega) (by have := g.1; omega))]; exact g.2⟩, e⟩⟩
  | w v d => exact r.ld_le h
 ·by_cases z : E6 C col i b \/ ∃ xs, H b = some (.tup xs)
  ·rw [A26 z] at eb; exact eb
  ·rw [A1k z] at eb; exact r.kq b o eb nb
 ·obtain ⟨ns', p, b, c, u, v, hl, hp, ha⟩ := r.hq0 q hq
  obtain ⟨_, _, _, _, _, _, hl2, _, ha2⟩ := r.hq q hq
  have n1 : ¬ (E6 C col i q.1 \/ ∃ xs, H q.1 = some (.tup xs)) := fun z => by
   rcases z with z | ⟨xs, z⟩
   ·have := r.hnd q hq; have := z.1; omega
   ·rw [ha2] at z; cases z
  have n2 : ¬ (E6 C col i q.2 \/ ∃ xs, H q.2 = some (.tup xs)) := fun z => by
   rcases z with z | ⟨xs, z⟩
   ·rw [z.2] at hl; cases hl
   ·rw [hl2] at z; cases z
  exact ⟨ns', p, b, c, u, v, by rw [A1k n2]; exact hl, hp, by rw [A1k n1]; exact ha⟩
 ·by_cases z : E6 C col i b \/ ∃ xs, H b = some (.tup xs)
  ·rw [A26 z] at hb
   rcases z with z | ⟨xs, z⟩
   ·have := r.fresh b hb; have := z.1; omega
   ·rw [hb] at z; cases z
  ·rw [A1k z] at hb
   exact ⟨r.nf.1 b hb, fun q => z (.inl q)⟩
 ·by_cases z : E6 C col i b \/ ∃ xs, H b = some (.tup xs)
  ·rw [A26 z] at hb
   have c := tp b xs hb
   exact ⟨r.inF b c, ns b (by omega)⟩
  ·rw [A1k z] at hb
   exact ⟨r.nf.2 b xs hb, fun q => by rw [q.2] at hb; cases hb⟩
open Classical in
theorem C0.backO (r : C0 C col ρ σ P H) (tp : ∀ b xs, H b = some (.tup xs) -> col b = 0) (hn : M8 ρ = true) (ei : ρ[i]? = some (.ob R)) (r2 : C0 (ldC C col H i) col2 (ρ.set i (.bd d)) σ P H2) (tp2 : ∀ b xs, H2 b = some (.tup xs) -> col2 b = 0) :
  C0 C (fun b => if E6 C col i b then 2 * i + 3 else col2 b) ρ σ P H2 /\ ∀ b, col2 b = 0 -> (if E6 C col i b then 2 * i + 3 else col2 b) = 0 := by
 have hi : i < ρ.length := by
  rcases A3u i ρ.length with z | z
  ·exact z
  ·rw [j4 z] at ei; cases ei
 have cs : ∀ b, E6 C col i b -> (if E6 C col i b then 2 * i + 3 else col2 b) = 2 * i + 3 := fun b h => if_pos h
 have cn : ∀ b, ¬ E6 C col i b -> (if E6 C col i b then 2 * i + 3 else col2 b) = col2 b := fun b h => if_neg h
 have sh : ∀ b, E6 C col i b -> H b ≠ none := fun b h q => by have := r.fresh b q; have := h.1; omega
 have nhS : ∀ b, E6 C col i b -> ∀ q, C.hand = some q -> b ≠ q.1 := fun b h => r.notH (by have := h.1; omega)
 have keep : ∀ b o, (E6 C col i b \/ ∃ xs, H b = some (.tup xs)) -> (∀ q, C.hand = some q -> b ≠ q.1) -> H b = some o -> H2 b = some o := fun b o z nh e => r2.kq b o (by rw [A26 z]; exact e) nh
 have z0 : ∀ b, col2 b = 0 -> (if E6 C col i b then 2 * i + 3 else col2 b) = 0 := fun b hb => by
  rw [cn b (r2.inF b hb).2]; exact hb
 have mv0 : ∀ b o, Z col2 b -> H2 b = some o -> Z (fun b => if E6 C col i b then 2 * i + 3 else col2 b) b /\ H2 b = some o := fun b o z e => ⟨z0 b z, e⟩
 have new : ∀ b, (ldC C col H i).H0 b = none -> ¬ E6 C col i b /\ C.H0 b = none := fun b hb => by
  by_cases z : E6 C col i b \/ ∃ xs, H b = some (.tup xs)
  ·rw [A26 z] at hb
   rcases z with z | ⟨xs, z⟩
   ·exact absurd hb (sh b z)
   ·rw [hb] at z; cases z
  ·rw [A1k z] at hb
   exact ⟨fun q => z (.inl q), hb⟩
 refine ⟨⟨fun b hb => z0 b (r2.fresh b hb), fun b hb => ?_, fun q hq => ?_, fun j s es => ?_, fun p hp => ?_, fun b o eb nb => r2.kq b o (r.ld_at eb nb) nb, r2.hq, r.hq0, r.nf, r.len⟩, z0⟩
 ·have hb : (if E6 C col i b then 2 * i + 3 else col2 b) = 0 := hb
  by_cases z : E6 C col i b
  ·rw [cs b z] at hb; omega
  ·rw [cn b z] at hb; exact (r2.inF b hb).1
 ·show (if E6 C col i q.1 then 2 * i + 3 else col2 q.1) = 1
  rw [cn _ (fun z => nhS _ z q hq rfl)]; exact r2.hnd q hq
 ·by_cases hj : j = i
  ·subst hj
   rw [ei] at es
   cases es
   obtain ⟨v, e1, t⟩ := r.sl j _ ei
   refine ⟨v, e1, R.mv (fun b o g e => ?_) t⟩
   have T : E6 C col j b \/ ∃ xs, H b = some (.tup xs) := g.imp id fun g => g.2
   have nh : ∀ q, C.hand = some q -> b ≠ q.1 := r.notH (by rcases g with g | g <;> (have := g.1; omega))
   have e2 := keep b o T nh e
   refine ⟨g.imp (fun g => ⟨cs b g, g.2⟩) fun ⟨c, xs, z⟩ => ?_, e2⟩
   have e3 : H2 b = some (.tup xs) := by rw [e] at z; rw [e2]; exact z
   exact ⟨z0 b (tp2 b xs e3), xs, e3⟩
  ·have es2 : (ρ.set i (.bd d))[j]? = some s := by rw [Q1 (Ne.symm hj)]; exact es
   have h := r2.sl j s es2
   have hr := r.sl j s es
   cases s with
   | no => trivial
   | sh d => obtain ⟨v, k1, t⟩ := h; exact ⟨v, k1, t.mv mv0⟩
   | ow ds' => obtain ⟨b, us', k1, c, n', k2, t⟩ := h; exact ⟨b, us', k1, by show (if E6 C col i b then 2 * i + 3 else col2 b) = _; rw [cn b (new b n').1]; exact c, (new b n').2, k2, t.mv mv0⟩
   | bo ds' =>
    obtain ⟨b, us', k1, c, n', k2, t⟩ := h
    obtain ⟨b', _, k1', c', _⟩ := hr
    rw [k1] at k1'
    cases k1'
    exact ⟨b, us', k1, by show (if E6 C col i b then 2 * i + 3 else col2 b) <= 1; rw [cn b (fun q => by have := q.1; omega)]; exact c, n', k2, t.mv mv0⟩
   | hd => exact h
   | o2 dss => obtain ⟨b, us', k1, c, k2, nd, t⟩ := h; exact ⟨b, us', k1, ⟨by show (if E6 C col i b then 2 * i + 3 else col2 b) = _; rw [cn b (new b c.2).1]; exact c.1, (new b c.2).2⟩, k2, nd, t.mv mv0 fun b' o g e => ⟨⟨by show (if E6 C col i b' then 2 * i + 3 else col2 b') = _; rw [cn b' (new b' g.2).1]; exact g.1, (new b' g.2).2⟩, e⟩⟩
   | b2 dss => exact (B6m hn es).elim
   | di f ks => obtain ⟨b, k1, c, n', k2⟩ := h; exact ⟨b, k1, by show (if E6 C col i b then 2 * i + 3 else col2 b) = _; rw [cn b (new b n').1]; exact c, (new b n').2, k2⟩
   | dm f ks => obtain ⟨b, k1, c, n', k2⟩ := h; exact ⟨b, k1, by show (if E6 C col i b then 2 * i + 3 else col2 b) = _; rw [cn b (new b n').1]; exact c, (new b n').2, k2⟩
   | bd d => exact hr
   | ot d => obtain ⟨v, k1, t⟩ := h; exact ⟨v, k1, t.mv fun b o g e => ⟨g.imp (fun g => ⟨by show (if E6 C col i b then 2 * i + 3 else col2 b) = _; rw [cn b (new b g.2).1]; exact g.1, (new b g.2).2⟩) fun g => ⟨z0 b g.1, g.2⟩, e⟩⟩
   | ob R => obtain ⟨v, k1, t⟩ := h; exact ⟨v, k1, R.mv (fun b o g e => ⟨g.imp (fun g => ⟨by show (if E6 C col i b then 2 * i + 3 else col2 b) = _; rw [cn b (new b g.2).1]; exact g.1, (new b g.2).2⟩) fun g => ⟨z0 b g.1, g.2⟩, e⟩) t⟩
 ·have h := r2.pd p hp
  have hr := r.pd p hp
  cases p with
  | v v d => exact ThV.mv mv0 h
  | n b o => exact ⟨by show (if E6 C col i b then 2 * i + 3 else col2 b) <= 1; rw [cn b (fun q => by have := q.1; have := hr.1; omega)]; exact h.1, h.2⟩
  | s vs ds => exact B4.mv mv0 h
  | o c as dss => exact ⟨h.1, h.2.mv mv0 fun b' o g e => ⟨⟨by show (if E6 C col i b' then 2 * i + 3 else col2 b') = _; rw [cn b' (new b' g.2).1]; exact g.1, (new b' g.2).2⟩, e⟩⟩
  | w v d => exact hr
end
section
variable {X : Cx} {C : DC} {e : Expr} {es : List Expr} {st : Stmt} {t te : DE} {tt : DT} {u : DA} {i : Nat}
def o9 (i : Nat) (t : DE)  (ρ : List Sl) (Q : PyData -> List Sl -> Prop) : Prop := match ρ[i]? with
 | some (.ob R) => ∃ d, R = trR d /\ M8 ρ = true /\ t (ρ.set i (.bd d)) fun d' ρ' => ρ' = ρ.set i (.bd d) /\ Q d' ρ
 | _ => t ρ Q
theorem B6o (h : ∀ C, PE X e (eOf C t)) : PE X e (eOf C (o9 i t)) := fun pins s σ H Q I q => by
 obtain ⟨ρ, P, Qd, ⟨col0, r0⟩, ht, k⟩ := q
 unfold o9 at ht
 split at ht
 ·rename_i R ei
  obtain ⟨d, rfl, hn, ht⟩ := ht
  obtain ⟨col, r, tp⟩ := r0.norm
  refine h (ldC C col H i) pins s σ H Q I ⟨ρ.set i (.bd d), P, _, ⟨_, r.lendO tp ei B6n⟩, ht, fun v d' ρ' H' R' hq => ?_⟩
  obtain ⟨rfl, q⟩ := hq
  obtain ⟨colx, rx⟩ := R'
  obtain ⟨col2, r2, tp2⟩ := rx.norm
  obtain ⟨r3, z0⟩ := r.backO tp hn ei (r2.sub fun _ h => C3 _ h) tp2
  exact k v d' ρ H' ⟨_, r3.push (ThV.mv (fun b o z e => ⟨z0 b z, e⟩) (r2.pd _ C6))⟩ q
 ·exact h C pins s σ H Q I ⟨ρ, P, Qd, ⟨col0, r0⟩, ht, k⟩
def p5 (i : Nat) (tt : DT)  (ρ : List Sl) (Q : Bool -> List Sl -> Prop) : Prop := match ρ[i]? with
 | some (.ob R) => ∃ d, R = trR d /\ M8 ρ = true /\ tt (ρ.set i (.bd d)) fun b ρ' => ρ' = ρ.set i (.bd d) /\ Q b ρ
 | _ => tt ρ Q
theorem C2z (h : ∀ C, PT X e (cOf C tt)) : PT X e (cOf C (p5 i tt)) := fun pins s σ H Q I q => by
 obtain ⟨ρ, P, Qd, ⟨col0, r0⟩, ht, k⟩ := q
 unfold p5 at ht
 split at ht
 ·rename_i R ei
  obtain ⟨d, rfl, hn, ht⟩ := ht
  obtain ⟨col, r, tp⟩ := r0.norm
  refine h (ldC C col H i) pins s σ H Q I ⟨ρ.set i (.bd d), P, _, ⟨_, r.lendO tp ei B6n⟩, ht, fun b ρ' H' R' hq => ?_⟩
  obtain ⟨rfl, q⟩ := hq
  obtain ⟨colx, rx⟩ := R'
  obtain ⟨col2, r2, tp2⟩ := rx.norm
  exact k b ρ H' ⟨_, (r.backO tp hn ei r2 tp2).1⟩ q
 ·exact h C pins s σ H Q I ⟨ρ, P, Qd, ⟨col0, r0⟩, ht, k⟩
def arF (ρ : List Sl) (m : Md) (a : Ar) : Option PyData := match m, a with
 | .sh, .w d => some d
 | .sh, .s i => match ρ[i]? with
  | some (.bd d) => some d
  | some (.sh d) => some d
  | _ => none
 | m, a => arD ρ m a
def W8 (ρ : List Sl) : List Md -> List Ar -> Option (List PyData)
 | [], [] => some []
 | m :: ms, a :: as => (arF ρ m a).bind fun d => (W8 ρ ms as).map (d :: ·)
 | _, _ => none
theorem B2k {col : Addr -> Nat} {ρ : List Sl} {σ : L2.St} {P : List Pe} {H : Hp} (r : C0 C col ρ σ P H) {m : Md} {v : V} {d : PyData} {a : Ar} (ha : match a with | .v d => Pe.v v d ∈ P | .s i => σ[i]? = some (some v) | .w d => Pe.w v d ∈ P) (h : arF ρ m a = some d) : A5l (fun b => ∀ q, C.hand = some q -> b ≠ q.1) C.hand H v d m := by
 unfold arF at h
 split at h
 ·cases h
  exact ThV.mv (fun b o g e => ⟨g.2, e⟩) (r.le (r.pd _ ha))
 ·rename_i j
  have ha' : σ[j]? = some (some v) := ha
  split at h
  ·rename_i ei
   cases h
   obtain ⟨v', e1, t⟩ := r.sl j _ ei
   rw [K7 e1] at ha'
   cases ha'
   exact ThV.mv (fun b o g e => ⟨g.2, e⟩) (r.le t)
  ·rename_i ei
   cases h
   obtain ⟨v', e1, t⟩ := r.sl j _ ei
   rw [K7 e1] at ha'
   cases ha'
   exact ThV.mv (fun b o g e => ⟨r.notH (by rw [show col b = 0 from g]; decide), e⟩) t
  ·cases h
 ·exact (A9f r ha h).mono fun b o z e => ⟨r.notH (by rw [show col b = 0 from z]; decide), e⟩
theorem A9t {col : Addr -> Nat} {ρ : List Sl} {σ : L2.St} {P : List Pe} {H : Hp} (r : C0 C col ρ σ P H) : ∀ {ms : List Md} {vs : List V} {ds : List PyData} {as : List Ar}, ArV σ P vs as -> W8 ρ ms as = some ds -> X7 (fun b => ∀ q, C.hand = some q -> b ≠ q.1) C.hand H ms vs ds
 | [], _, _, _, .nil, h => by cases h; exact .nil
 | [], _, _, _, .v _ _, h => by cases h
 | [], _, _, _, .s _ _, h => by cases h
 | [], _, _, _, .w _ _, h => by cases h
 | _ :: _, _, _, _, .nil, h => by cases h
 | m :: ms, _, ds, _, .v (d := d0) (as := as) hm t, h => by
  obtain ⟨d, q, h2⟩ := B3g.mp (show ((arF ρ m (.v d0)).bind fun d => (W8 ρ ms as).map (d :: ·)) = some ds from h)
  obtain ⟨ds', q2, rfl⟩ := B3h.mp h2
  exact .cons (B2k r (a := .v d0) hm q) (A9t r t q2)
 | m :: ms, _, ds, _, .s (i := k) (as := as) hm t, h => by
  obtain ⟨d, q, h2⟩ := B3g.mp (show ((arF ρ m (.s k)).bind fun d => (W8 ρ ms as).map (d :: ·)) = some ds from h)
  obtain ⟨ds', q2, rfl⟩ := B3h.mp h2
  exact .cons (B2k r (a := .s k) hm q) (A9t r t q2)
 | m :: ms, _, ds, _, .w (d := d0) (as := as) hm t, h => by
  obtain ⟨d, q, h2⟩ := B3g.mp (show ((arF ρ m (.w d0)).bind fun d => (W8 ρ ms as).map (d :: ·)) = some ds from h)
  obtain ⟨ds', q2, rfl⟩ := B3h.mp h2
  exact .cons (B2k r (a := .w d0) hm q) (A9t r t q2)
def A1l (ms : List Md) (sp : DSp) (u : DA)  (ρ : List Sl) (Q : PyData -> List Sl -> Prop) : Prop := u ρ fun as ρ' => bnd (W8 ρ' ms as) fun ds => sp ds fun d => N2 d = true /\ Q d ρ'
theorem C20 {C : DC} {col : Addr -> Nat} {ρ : List Sl} {σ : L2.St} {P : List Pe} {H' H2 : Hp} (r : C0 C col ρ σ P H') (tp : ∀ b xs, H' b = some (.tup xs) -> col b = 0) (k2 : Kq C.hand H' H2) (h2 : Hq C.hand H2) {b : Addr} {xs : List V} (e : H2 b = some (.tup xs)) : col b = 0 := by
 cases e' : H' b with
 | none => exact r.fresh b e'
 | some o =>
  by_cases z : ∀ q, C.hand = some q -> b ≠ q.1
  ·have := k2 b o e' z
   rw [this] at e
   cases e
   exact tp b xs e'
  ·exfalso
   refine z fun q hq hb => ?_
   obtain ⟨_, _, _, _, _, _, _, _, ha⟩ := h2 q hq
   rw [hb, ha] at e
   cases e
theorem B6p {ms : List Md} {sp : DSp} {E : XK} (h : PE X e (A8z (spD ms sp) [] E (aOf C u))) : PE X e (eOf C (A1l ms sp u)) := PE.wk h fun σ H Q z => el3 z fun ρ P Qd R ht k => ⟨ρ, P, _, R, ht, fun vs as ρ' P' H' R' s p q => R'.elim fun col r => by
 obtain ⟨ds, hds, q⟩ := L0 q
 rw [Y3]
 obtain ⟨col, r, tp⟩ := r.norm
 have nf : ∀ b, H' b = none -> ∀ q, C.hand = some q -> b ≠ q.1 := fun b hb q hq z => by
  obtain ⟨o, ho⟩ := (r.hq q hq).at1
  rw [<- z, hb] at ho; cases ho
 refine ⟨fun b => ∀ q, C.hand = some q -> b ≠ q.1, C.hand, ds, _, ⟨nf, fun b xs e => r.notH (by rw [tp b xs e]; decide)⟩, fun q hq z => z q hq rfl, r.hq, A9t r p hds, q, fun d v H2 q2 t2 k2 h2 => k _ _ _ _ ⟨col, (((r.mv k2 h2).sub s)).push (t2.flat (fun b xs e => C20 r tp k2 h2 e) q2.1)⟩ q2.2⟩⟩
def B2l (ms : List Md) (sp : DSp) : Sp := fun vs H Q _ => ∃ F hand ds Qd, ((∀ b, H b = none -> F b) /\ ∀ b xs, H b = some (.tup xs) -> F b) /\ (∀ q, hand = some q -> ¬ F q.1) /\ Hq hand H /\ X7 F hand H ms vs ds /\ sp ds Qd /\
 ∀ d v H' fp, Qd d -> FpV (fun b => H b = none \/ ∃ xs, H b = some (.tup xs)) H' v d fp -> fp.Nodup -> Kq hand H H' -> Hq hand H' -> Q v H'
open Classical in
theorem C0.newO {col : Addr -> Nat} {ρ : List Sl} {σ : L2.St} {P : List Pe} {H' H2 : Hp} {v : V} {R : A5f} (r : C0 C col ρ σ P H') (tp : ∀ b xs, H' b = some (.tup xs) -> col b = 0) (t2 : R.p (fun b => H' b = none \/ ∃ xs, H' b = some (.tup xs)) H2 v) (k2 : Kq C.hand H' H2) (h2 : Hq C.hand H2) : Rel C (ρ.set i (.ob R)) (σ.set i (some v)) P H2 := by
 let N : Addr -> Prop := fun b => H' b = none /\ H2 b ≠ none /\ ∀ xs, H2 b ≠ some (.tup xs)
 have cs : ∀ b, N b -> (if N b then 2 * i + 3 else col b) = 2 * i + 3 := fun b h => if_pos h
 have cn : ∀ b, ¬ N b -> (if N b then 2 * i + 3 else col b) = col b := fun b h => if_neg h
 have no : ∀ b o, H' b = some o -> ¬ N b := fun b o e z => by rw [z.1] at e; cases e
 have up : ∀ b o, col b ≠ 1 -> H' b = some o -> H2 b = some o := fun b o h e => k2 b o e (r.notH h)
 have r1 := r.mv k2 h2
 refine ⟨fun b => if N b then 2 * i + 3 else col b, C0.chg r i _ (by rw [N3]; exact r.len) (fun b hb => ?_) (fun b hb => ?_) (fun x hx => ?_) (fun b o c e => ⟨?_, up b o (by omega) e⟩) (fun b o c n e => ⟨?_, k2 b o e n⟩) (fun _ _ _ _ b o c e => ⟨?_, up b o (by omega) e⟩) (fun b o j hj c e => ⟨?_, up b o (by omega) e⟩) (r.kq.trans k2) h2 (fun j hj => by rw [Q1 (Ne.symm hj)]) fun hl => ?_⟩
 ·show (if N b then 2 * i + 3 else col b) = 0
  rw [cn b fun z => z.2.1 hb]; exact r1.fresh b hb
 ·have hb : (if N b then 2 * i + 3 else col b) = 0 := hb
  by_cases z : N b
  ·rw [cs b z] at hb; omega
  ·rw [cn b z] at hb; exact r.inF b hb
 ·show (if N x.1 then 2 * i + 3 else col x.1) = 1
  obtain ⟨o', e'⟩ := (r.hq x hx).at1
  rw [cn _ (no _ _ e')]; exact r.hnd x hx
 ·show (if N b then 2 * i + 3 else col b) = 0
  rw [cn b (no b o e)]; exact c
 ·show (if N b then 2 * i + 3 else col b) <= 1
  rw [cn b (no b o e)]; exact c
 ·show (if N b then 2 * i + 3 else col b) = _
  rw [cn b (no b o e)]; exact c
 ·show (if N b then 2 * i + 3 else col b) = _
  rw [cn b (no b o e)]; exact c
 ·have : (σ.set i (some v))[i]?.join = some v := by rw [Y4, if_pos rfl, if_pos (by rw [<- r.len]; exact hl)]; rfl
  rw [this]
  refine ⟨v, rfl, R.mv (fun b o g e => ⟨?_, e⟩) t2⟩
  rcases g with g | ⟨xs, g⟩
  ·by_cases z : ∃ xs, H2 b = some (.tup xs)
   ·refine .inr ⟨?_, z⟩
    show (if N b then 2 * i + 3 else col b) = 0
    rw [cn b fun q => absurd z.choose_spec (q.2.2 _)]; exact r.fresh b g
   ·exact .inl ⟨cs b ⟨g, (by rw [e]; exact fun q => nomatch q), fun xs q => z ⟨xs, q⟩⟩, r.kq.fr r.hq g⟩
  ·have c := tp b xs g
   refine .inr ⟨?_, xs, up b _ (by omega) g⟩
   show (if N b then 2 * i + 3 else col b) = 0
   rw [cn b (no b _ g)]; exact c
def A1m (i : Nat) (ms : List Md) (sp : DSp) (u : DA)  (D : K9) (ρ : List Sl) : Prop := u ρ fun as ρ' => bnd (O5 ρ' ms as) fun ds => sp ds fun d => D.nx (ρ'.set i (.ob (trR d)))
theorem B6q {ms : List Md} {sp : DSp} {E : XK} (h : PS X st (A31 (A8z (B2l ms sp) [] E (aOf C u)) (Q4 i))) : PS X st (sOf C (A1m i ms sp u)) := PS.wk h fun D σ H z => el3 z fun ρ P Dd R ht E => ⟨ρ, P, _, R, ht, fun vs as ρ' P' H' R' s p q => R'.elim fun col r => by
 obtain ⟨ds, hds, q2⟩ := L0 q
 rw [Y3]
 obtain ⟨col, r, tp⟩ := r.norm
 refine ⟨Z col, C.hand, ds, _, ⟨r.fresh, tp⟩, fun q hq z => ?_, r.hq, A7u r p hds, q2, fun d v H2 fp q3 t2 nd k2 h2 => E.nx _ _ _ (C0.newO (i := i) (R := trR d) (r.sub s) tp ⟨fp, t2, nd⟩ k2 h2) q3⟩
 have := r.hnd q hq
 rw [show col q.1 = 0 from z] at this
 cases this⟩
end
end My
namespace My
open PySem L2
open PySem.Spec PyProof.Rows
structure B6r (C : DC) (J : It) (xs : List PyData) : Prop where
 go : ∀ {i : Nat} {ρ : List Sl} {σ : L2.St} {P : List Pe} {H : Hp}, Rel C ρ σ P H -> i < xs.length -> J.go i H
 yld : ∀ {i : Nat} {ρ : List Sl} {σ : L2.St} {P : List Pe} {H H' : Hp} {x : V} {d : PyData}, Rel C ρ σ P H -> xs[i]? = some d -> J.yld i H x H' -> Rel C ρ σ P H' /\ ThV (Le C) C.H0 x d
 stop : ∀ {ρ : List Sl} {σ : L2.St} {P : List Pe} {H : Hp}, Rel C ρ σ P H -> J.stop xs.length H
def jOf (C : DC) (t : DF) : TI := fun σ H R => ∃ ρ P Qd, Rel C ρ σ P H /\ t ρ Qd /\ ∀ xs ρ' H' J, Rel C ρ' σ P H' -> B6r C J xs -> Qd xs ρ' -> R J H'
section
variable {X : Cx} {C : DC} {tg e : Expr} {t : DE} {st : Stmt} {i : Nat}
theorem C21 {K : A3} {a : Addr} {vs : List V} {xs : List PyData} (ea : C.H0 a = some (.lst vs)) (na : ∀ q, C.hand = some q -> a ≠ q.1) (t : B4 (Le C) C.H0 vs xs) : B6r C (Itv K a vs.length) xs.reverse where
 go := fun {i ρ σ P H} R hi => by
  obtain ⟨col, r⟩ := R
  have hl := t.len
  rw [A1w] at hi
  exact ⟨vs, vs.reverse[i]'(by rw [A1w]; omega), SqL.of (r.kq a _ ea na), rfl, N0 _⟩
 yld := fun {i ρ σ P H H' x d} R hi y => by
  obtain ⟨e, y⟩ := y
  subst e
  obtain ⟨col, r⟩ := R
  have hx := y vs (SqL.of (r.kq a _ ea na))
  obtain ⟨d', e1, t'⟩ := t.rev.get hx
  rw [hi] at e1
  cases e1
  exact ⟨⟨col, r⟩, t'⟩
 stop := fun {ρ σ P H} R => by
  have hl := t.len
  show vs.length <= xs.reverse.length
  rw [A1w]; omega
def A75 (t : DE)  (ρ : List Sl) (Q : List PyData -> List Sl -> Prop) : Prop := t ρ fun d ρ' => bnd (M0 d) fun xs => Q xs.reverse ρ'
theorem C22 {K : A3} (h : PI X tg e (B43 K (P3 (lOf C t) T8))) : PI X tg e (jOf C (A75 t)) := PI.wk h fun _ _ _ z => el3 z fun ρ P _ R ht k => ⟨ρ, P, _, R, ht, fun v d ρ' H' R' q => R'.elim fun col r => by
 obtain ⟨xs, hx, q2⟩ := L0 q
 have := A2a hx
 subst this
 obtain ⟨a, vs, rfl, n, e1, t1⟩ := P9 (show ThV (Le C) C.H0 v (.list xs) from r.pd _ C6)
 exact ⟨a, vs, rfl, SqL.of (r.kq a _ e1 n.2), k _ ρ' H' _ ⟨col, r.sub fun _ h => C3 _ h⟩ (C21 e1 n.2 t1) q2⟩⟩
def A9u (t : DE)  (ρ : List Sl) (Q : List PyData -> List Sl -> Prop) : Prop := t ρ fun d ρ' => bnd (M0 d) fun xs => Q xs ρ'
theorem C0.storeL {col : Addr -> Nat} {ρ : List Sl} {σ : L2.St} {P : List Pe} {H : Hp} {v : V} {d : PyData} (r : C0 C col ρ σ P H) (t : ThV (Le C) C.H0 v d) : C0 C col (ρ.set i (.bd d)) (σ.set i (some v)) P H := by
 refine { r with sl := fun j s es => ?_, len := by rw [N3, N3]; exact r.len }
 by_cases hj : j = i
 ·subst hj
  rw [Y4] at es
  simp only [if_true] at es
  split at es
  ·rename_i hl
   cases es
   refine ⟨v, ?_, t⟩
   rw [Y4, if_pos rfl, if_pos (by rw [<- r.len]; exact hl)]; rfl
  ·cases es
 ·rw [Q1 (Ne.symm hj)] at es
  rw [Q1 (Ne.symm hj)]
  exact r.sl j s es
def A3f (i : Nat) (t : DE) (D : K9) (ρ : List Sl) : Prop := t ρ fun d ρ' => D.nx (ρ'.set i (.bd d))
def A76 (it : DF) (i : Nat) (tb : DS) (D : K9) (ρ : List Sl) : Prop := it ρ fun xs ρ1 => ∃ I : List PyData -> List Sl -> Prop, I xs ρ1 /\ (∀ x r ρ, I (x :: r) ρ -> Blk tb { nx := I r, ct := I r, bk := D.nx, rt := D.rt } (ρ.set i (.bd x))) /\ ∀ ρ, I [] ρ -> D.nx ρ
theorem C23 {it : DF} {tb : DS} (hp : PS X st (A8u (jOf C it) (Q4 i) (sOf C tb))) : PS X st (sOf C (A76 it i tb)) := PS.wk hp fun D σ H z => el3 z fun ρ P Dd R ht E => ⟨ρ, P, _, R, ht, fun xs ρ1 H1 J R1 io q => by
 obtain ⟨I, q0, qs, qd⟩ := q
 refine ⟨fun i m σ' H' => m = xs.length - i /\ i <= xs.length /\ ∃ ρ', Rel C ρ' σ' P H' /\ I (xs.drop i) ρ', ⟨xs.length, by simp, M9 _, ρ1, R1, q0⟩, ?_⟩
 rintro n m σ2 H2 ⟨rfl, hi, ρ2, R2, q2⟩
 by_cases hlt : n < xs.length
 ·rw [A8n hlt] at q2
  refine .inr ⟨io.go R2 hlt, fun σ' H' => ∃ ρ', Rel C ρ' σ' P H' /\ I (xs.drop (n + 1)) ρ', fun σ' H' h => ⟨xs.length - (n + 1), by omega, rfl, hlt, h⟩, fun x H3 y => ?_⟩
  obtain ⟨⟨col, r3⟩, tx⟩ := io.yld R2 (N0 hlt) y
  refine ⟨ρ2.set i (.bd xs[n]), P, ⟨I (xs.drop (n + 1)), Dd.rt, Dd.nx, I (xs.drop (n + 1)), fun _ => False⟩, ⟨col, r3.storeL tx⟩, qs _ _ _ q2, ⟨fun ρ4 σ4 H4 R4 q4 => ⟨ρ4, R4, q4⟩, fun v d ρ4 σ4 H4 R4 q4 => E.rt v d ρ4 σ4 H4 R4 q4, fun ρ4 σ4 H4 R4 q4 => E.nx ρ4 σ4 H4 R4 q4, fun ρ4 σ4 H4 R4 q4 => ⟨ρ4, R4, q4⟩, fun _ _ _ _ _ _ _ _ h => h.elim⟩⟩
 ·have e : n = xs.length := by omega
  subst e
  rw [List.drop_length] at q2
  exact .inl ⟨io.stop R2, E.nx _ _ _ R2 (qd _ q2)⟩⟩
end
end My
namespace My
open PySem L2
open PySem.Spec PyProof.Rows
section
variable {X : Cx} {C : DC} {st : Stmt} {i j ia ib : Nat}
theorem A9v {F : Addr -> Prop} {H : Hp} {v : V} {xs : List PyData} {fp : List Addr} (t : FpV F H v (.list xs) fp) : ∃ a vs fq, v = .ref a /\ fp = a :: fq /\ F a /\ H a = some (.lst vs) /\ F4 F H vs xs fq := by
 cases t with
 | lst n e t => exact ⟨_, _, _, rfl, rfl, n, e, t⟩
theorem A9w {F : Addr -> Prop} {H : Hp} {v : V} {xs : List PyData} {fp : List Addr} (t : FpV F H v (.tuple xs) fp) : ∃ a vs, v = .ref a /\ F a /\ H a = some (.tup vs) /\ F4 F H vs xs fp := by
 cases t with
 | tup n e t => exact ⟨_, _, rfl, n, e, t⟩
theorem A9x {F : Addr -> Prop} {H : Hp} {vs : List V} {d1 d2 : PyData} {fp : List Addr} (t : F4 F H vs [d1, d2] fp) : ∃ v1 v2 f1 f2, vs = [v1, v2] /\ fp = f1 ++ f2 /\ FpV F H v1 d1 f1 /\ FpV F H v2 d2 f2 := by
 cases t with
 | cons x t =>
  cases t with
  | cons y t =>
   cases t
   exact ⟨_, _, _, _, rfl, by rw [Y3], x, y⟩
def A3g (i j : Nat) (D : K9) (ρ : List Sl) : Prop := match ρ[i]?, ρ[j]? with
 | some (.ob R), some (.sh (.int z)) => ∃ (ds ps : List PyData) (s : PyData) (k : Nat), R = trR (.list ds) /\ z = (k : Nat) /\ ds[k]? = some (.tuple [s, .list ps]) /\ D.nx (ρ.set i (.ob (trR (.list (ds.set k (.tuple [s, .list []]))))))
 | _, _ => False
def PtA (n : Nat) (p : PyData) : Prop := ∃ es t, p = .tuple [.list es, t] /\ O6 es = true /\ N2 t = true /\ es.length <= n
def A3h (i j ia ib : Nat) (D : K9) (ρ : List Sl) : Prop := match ρ[i]?, ρ[j]? with
 | some (.ob R), some (.sh (.int z)) => ∃ (ds ps : List PyData) (s : PyData) (k : Nat), R = trR (.list ds) /\ z = (k : Nat) /\ ds[k]? = some (.tuple [s, .list ps]) /\ (∀ p ∈ ps, PtA 1000 p) /\ ps.length <= 1000 /\ ((i ≠ ia /\ i ≠ ib /\ ia ≠ ib) /\ i < ρ.length /\ ia < ρ.length /\ ib < ρ.length) /\
  ∀ ps' : List PyData, ps'.length = ps.length -> D.nx (((ρ.set ia .no).set ib .no).set i (.ob (trR (.list (ds.set k (.tuple [s, .list ps']))))))
 | _, _ => False
theorem F4.len {F : Addr -> Prop} {H : Hp} {vs : List V} {ds : List PyData} {fp : List Addr} (t : F4 F H vs ds fp) : vs.length = ds.length := t.th.len
end
end My
namespace L2
open PySem PySem.Spec PyProof.Rows
section
variable {X : Cx}
end
end L2
namespace My
open PySem L2
open PySem.Spec PyProof.Rows
def B6s : A5f where
 p := fun W H v => ∃ a xs, v = .ref a /\ W a /\ H a = some (.lst xs)
 mv := fun f ⟨a, xs, e, g, h⟩ => ⟨a, xs, e, (f a _ g h).1, (f a _ g h).2⟩
section
variable {X : Cx} {C : DC} {e : Expr} {st : Stmt} {u : DA} {i : Nat}
def A3i (i : Nat) (cond : List PyData -> Prop) (ρ : List Sl) (Q : PyData -> List Sl -> Prop) : Prop := match ρ[i]? with
 | some (.ob R) => ∃ ds, R = trR (.list ds) /\ cond ds /\ Q (.bool true) (ρ.set i (.ob B6s))
 | _ => False
def A3j (i : Nat) (D : K9) (ρ : List Sl) : Prop := match ρ[i]? with
 | some (.ob R) => ((∃ ds, R = trR (.list ds)) \/ R = B6s) /\ D.nx (ρ.set i .no)
 | _ => False
def A3k (ms : List Md) (sp : DSp) (u : DA)  (D : K9) (ρ : List Sl) : Prop := u ρ fun as ρ' => bnd (O5 ρ' ms as) fun ds => sp ds fun _ => D.nx ρ'
end
end My
namespace My
open PySem L2
open PySem.Spec PyProof.Rows
def A9y : A5f where
 p := fun W H v => ∃ a w t xs, v = .ref a /\ (W a /\ H a = some (.tup [w, .ref t])) /\ (W t /\ H t = some (.lst xs)) /\ xs.length <= 1000
 mv := fun f ⟨a, w, t, xs, e, g, h, l⟩ => ⟨a, w, t, xs, e, f a _ g.1 g.2, f t _ h.1 h.2, l⟩
def ThA (n : Nat) (p : PyData) : Prop := PtA n p \/ ∃ x t, p = .tuple [.str x, t] /\ N2 t = true
section
variable {X : Cx} {C : DC} {st : Stmt} {i j : Nat}
def p6 (i j : Nat) (D : K9) (ρ : List Sl) : Prop := match ρ[i]? with
 | some (.ob R) => ∃ (s : PyData) (ps : List PyData), R = trR (.tuple [s, .list ps]) /\ (∀ p ∈ ps, ThA 1000 p) /\ ps.length <= 900 /\ (i ≠ j /\ i < ρ.length /\ j < ρ.length) /\ D.nx ((ρ.set j .no).set i (.ob A9y))
 | _ => False
theorem C24 {c : Int} {K : A3} (hp : PS X st (A8u (B30 K (tOp (rIx K) (S1 i) (tC (.int 1)))) (Q4 j) (B3u (tB (tCB (B1w K) (P3 (tOp (rIx K) (S1 j) (tC (.int 0))) (P3 (tC (.ty "list")) T8)))) (A8r (tBM K "list" A82 (tOp (rIx K) (S1 j) (tC (.int 0))) (P3 (tC (.int c)) T8))) B3t))) : PS X st (sOf C (p6 i j)) := fun pins s σ H D I q => by
 obtain ⟨ρ, P, Dd, ⟨col, r⟩, ht, E⟩ := q
 unfold p6 at ht
 split at ht
 ·rename_i R ei
  obtain ⟨s, ps, rfl, hpa, hpl, ⟨n1, l1, l2⟩, ht⟩ := ht
  obtain ⟨v, e1, fp, T, nd⟩ := r.sl i _ ei
  obtain ⟨tu, ws, rfl, wu, eu, T3⟩ := A9w T
  obtain ⟨w, w2, f1, f2, rfl, rfl, T4, T5⟩ := A9x T3
  obtain ⟨t, us, fpp, rfl, rfl, wt, et, T6⟩ := A9v T5
  have nda := A3v.mp nd
  have ndp := t9.mp nda.2.1
  have own : ∀ b xs, Ow C col H i b -> H b = some (.lst xs) -> E6 C col i b := fun b xs g e => by
   rcases g with g | ⟨_, ys, g⟩
   ·exact g
   ·rw [e] at g; cases g
  obtain ⟨ρ0, hρ0⟩ : ∃ ρ0, ρ0 = (ρ.set j .no).set i .no := ⟨_, rfl⟩
  have r0 : C0 C col ρ0 σ P H := by rw [hρ0]; exact (r.slotS (i := j) (s := .no) trivial).slotS (i := i) (s := .no) trivial
  have z1 : ρ0[j]? = some .no := by rw [hρ0, Q1 n1, A69 l2]
  have zi : ρ0.set i .no = ρ0 := by rw [hρ0, List.set_set]
  have len0 : ρ0.length = ρ.length := by rw [hρ0, N3, N3]
  let W0 : Addr -> Prop := Ow C col H i
  refine hp pins _ σ H D I ⟨_, K7 e1, .inr (.inl ⟨tu, _, 1, .ref t, rfl, rfl, SqT.of eu, rfl, t, rfl, ⟨us, SqL.of et⟩, B9p (xs := us) (fun n σ' H' => C0 C col ρ0 σ' P H' /\ σ'[i]? = some (some (.ref tu)) /\ (∀ b o, H b = some o -> b ∉ fpp -> H' b = some o) /\ ∃ ps' fpp', ps'.length = ps.length /\ F4 W0 H' us ps' fpp' /\ fpp'.Sublist fpp /\ ∀ p ∈ ps', ThA (1000 + n) p) ⟨r0, K7 e1, fun b o e _ => e, ps, fpp, rfl, T6, List.Sublist.refl _, fun p hp => hpa p hp⟩ (fun n σ' H' _ h => SqL.of (h.2.2.1 t _ et ndp.1)) (fun n x σ' H' hx h => ?_) (fun σ' H' h => ?_)⟩)⟩
  ·obtain ⟨r1, s1, f1', ps', fpp', hl, T', sl, hA⟩ := h
   obtain ⟨d, hd, _⟩ := T'.th.get hx
   have nd' : fpp'.Nodup := ndp.2.sublist sl
   obtain ⟨v2, fp2, hv, tv, n2', hm, hput⟩ := T'.put nd' hd
   rw [hx] at hv
   cases hv
   have lb : j < σ'.length := by rw [<- r1.len, len0]; exact l2
   have r2 := r1.put0 (j := j) (v := some x) z1
   have keepS : (σ'.set j (some x))[i]? = some (some (.ref tu)) := by rw [Q1 (Ne.symm n1)]; exact s1
   have mono : ∀ p ∈ ps', ThA (1000 + (n + 1)) p := fun p hp => (hA p hp).imp (fun ⟨es, t', e1, e2, e3, e4⟩ => ⟨es, t', e1, e2, e3, by omega⟩) id
   rcases hA d (R9 hd) with ⟨es, t0, rfl, fe, ft, le⟩ | ⟨y, t0, rfl, ft⟩
   ·obtain ⟨tb, ws, rfl, wu', eu', T3'⟩ := A9w tv
    obtain ⟨w1, w2, g1, g2, rfl, rfl, T4', T5'⟩ := A9x T3'
    obtain ⟨l, ls, gl, rfl, rfl, wl, el, T6'⟩ := A9v T4'
    have hlm : l ∈ fpp := sl.subset (hm l (O8.mpr (.inl C6)))
    have ol : E6 C col i l := by
     obtain ⟨g, xs, e⟩ := T6.mem l hlm
     exact own l xs g e
    have nsz : n < 1000 := by
     have := (i8.mp hx).1
     have := T6.len
     omega
    obtain ⟨t', q1, q2⟩ := B6l (K := K) (T4'.th)
    refine ⟨_, by rw [A69 lb], .inr (.inl ⟨tb, _, 0, .ref l, rfl, rfl, SqT.of eu', rfl, ?_⟩)⟩
    refine ⟨.ref l, .ty "list", .type "list", _, _, rfl, rfl, q2, A7t _ t' q1, _, rfl, ?_⟩
    refine L5 ?_
    refine ⟨_, by rw [A69 lb], .inr (.inl ⟨tb, _, 0, .ref l, rfl, rfl, SqT.of eu', rfl, .inl ⟨rfl, ls, SqL.of el⟩, l, ls, .int c, rfl, rfl, el, by rw [T6'.len, sizeLine_eq]; omega, ?_⟩)⟩
    have r3 := r2.writeT (s := .no) (ws := ls ++ [.int c]) ol el fun _ => trivial
    rw [zi] at r3
    have ndg := A3v.mp n2'
    have keep : ∀ b o, H' b = some o -> b ≠ l -> upd H' l (.lst (ls ++ [.int c])) b = some o := fun b o e nb => by rw [B9 nb]; exact e
    have gl0 : gl = [] := (F4.uniq T6' (T6'.th.fp0 fe)).2
    subst gl0
    have nt : ∀ b xs, H' b = some (.tup xs) -> b ≠ l := fun b xs e q => by rw [q, el] at e; cases e
    have T4n : FpV W0 (upd H' l (.lst (ls ++ [.int c]))) (.ref l) (.list (es ++ [.int c])) [l] := .lst wl J1 (F4.append (fp := []) (fq := []) (T6'.mvm fun b o g e h => ⟨g, keep b o e (by
     rcases h with h | ⟨xs, rfl⟩
     ·cases h
     ·exact nt b xs e)⟩) (.cons (.int c) .nil))
    have T5n : FpV W0 (upd H' l (.lst (ls ++ [.int c]))) w2 t0 g2 := T5'.mvm fun b o g e h => ⟨g, keep b o e (by
     rcases h with h | ⟨xs, rfl⟩
     ·exact fun q => ndg.2.2 l C6 b h q.symm
     ·exact nt b xs e)⟩
    have item : FpV W0 (upd H' l (.lst (ls ++ [.int c]))) (.ref tb) (.tuple [.list (es ++ [.int c]), t0]) ([l] ++ (g2 ++ [])) := .tup wu' (keep tb _ eu' (nt tb _ eu')) (.cons T4n (.cons T5n .nil))
    rw [Y3] at item
    obtain ⟨fpp2, T7, sl2⟩ := hput W0 _ _ _ item (List.Sublist.refl _) (fun b o g e nb => ⟨g, keep b o e fun q => nb (q ▸ O8.mpr (.inl C6))⟩)
    refine ⟨r3, keepS, fun b o e nb => keep b o (f1' b o e nb) fun q => nb (q ▸ hlm), _, fpp2, by rw [N3]; exact hl, T7, sl2.trans sl, fun p hp => ?_⟩
    rcases List.mem_or_eq_of_mem_set hp with h | rfl
    ·exact mono p h
    ·exact .inl ⟨_, _, rfl, C2w fe rfl, ft, by rw [O3]; show es.length + 1 <= _; omega⟩
   ·obtain ⟨tb, ws, rfl, wu', eu', T3'⟩ := A9w tv
    obtain ⟨w1, w2, g1, g2, rfl, rfl, T4', T5'⟩ := A9x T3'
    cases T4'
    refine ⟨_, by rw [A69 lb], .inr (.inl ⟨tb, _, 0, .str y, rfl, rfl, SqT.of eu', rfl, ?_⟩)⟩
    obtain ⟨t', q1, q2⟩ := B6l (K := K) (F := W0) (H := H') (.str y)
    refine ⟨.str y, .ty "list", .type "list", _, _, rfl, rfl, q2, A7t _ t' q1, _, rfl, ?_⟩
    exact G9 ⟨r2, keepS, f1', ps', fpp', hl, T', sl, mono⟩
  ·obtain ⟨r1, s1, f1', ps', fpp', hl, T', sl, hA⟩ := h
   have ntu : tu ∉ fpp := fun z => by obtain ⟨_, ys, ey⟩ := T6.mem tu z; rw [eu] at ey; cases ey
   have wtu : Ow C col H' i tu := wu.imp id fun ⟨c, xs, z⟩ => ⟨c, xs, f1' tu _ z ntu⟩
   have r2 := r1.slotS (i := i) (s := .ob A9y) ⟨.ref tu, by rw [s1]; rfl, tu, w, t, us, rfl, ⟨wtu, f1' tu _ eu ntu⟩, ⟨.inl (own _ _ wt et), f1' t _ et ndp.1⟩, by rw [T6.len]; omega⟩
   rw [hρ0, List.set_set] at r2
   exact E.nx _ _ _ ⟨col, r2⟩ ht
 ·exact ht.elim
def p7 (i : Nat) (D : K9) (ρ : List Sl) : Prop := match ρ[i]? with
 | some (.ob R) => R = A9y /\ D.nx (ρ.set i .no)
 | _ => False
theorem C25 {y : Str} {c : Int} {K : A3} (hp : PS X st (A8r (tBM K "list" A82 (tOp (rIx K) (S1 i) (tC (.int 1))) (P3 (B37 (P3 (tC (.str y)) (P3 (tC (.int c)) T8))) T8)))) : PS X st (sOf C (p7 i)) := fun pins s σ H D I q => by
 obtain ⟨ρ, P, Dd, ⟨col, r⟩, ht, E⟩ := q
 unfold p7 at ht
 split at ht
 ·rename_i R ei
  obtain ⟨rfl, ht⟩ := ht
  obtain ⟨v, e1, tu, w, t, xs, rfl, ⟨wu, eu⟩, ⟨wt, et⟩, hl⟩ := r.sl i _ ei
  have own : E6 C col i t := by
   rcases wt with g | ⟨_, ys, g⟩
   ·exact g
   ·rw [et] at g; cases g
  refine hp pins s σ H D I ⟨.ref tu, K7 e1, .inr (.inl ⟨tu, _, 1, .ref t, rfl, rfl, SqT.of eu, rfl, .inl ⟨rfl, xs, SqL.of et⟩, by show 2 <= sizeLine; decide, fun p hp0 => ?_⟩)⟩
  have et2 : upd H p (.tup [.str y, .int c]) t = some (.lst xs) := by rw [B9 (M3 et hp0)]; exact et
  exact ⟨t, xs, .ref p, rfl, rfl, et2, by rw [sizeLine_eq]; omega, E.nx _ _ _ ⟨col, (r.lay hp0).writeT (s := .no) own et2 fun _ => trivial⟩ ht⟩
 ·exact ht.elim
end
end My
namespace L2
open PySem PySem.Spec PyProof.Rows
section
variable {prog : Program} {w : World} {A : Around} {E : Value -> Shared -> Prop} {s : Shared}
theorem B6t {h : Heap} {a : Addr} {items : Array Value} (x : h.IsList a items) (o : Obj) : (h.push o).IsList a items :=
 let ⟨o', ho, r⟩ := x; ⟨o', U6 o ho, r⟩
theorem B6u {it t : Addr} {items : Array Value} (hne : t ≠ it) : ∀ (n i : Nat) (s : Shared) (Q : List Value -> Shared -> Prop), s.heap.IsListIter it t i -> s.heap.IsList t items -> i + n <= items.size ->
  (∀ h', h'.IsListIter it t (i + n) -> Heap.SameBut it s.heap h' -> Q ((items.toList.drop i).take n) { s with heap := h' }) -> wpAny (model prog w) A (draw (.ref it) n) Q E s
 | 0, i, s, Q, hit, _, _, hQ => by
  show wpAny _ _ (pure []) Q E s
  exact wpAny_pure (by simpa using hQ s.heap hit (Heap.SameBut.refl ..))
 | n + 1, i, s, Q, hit, ht, hle, hQ => by
  have hlt : i < items.size := by omega
  show wpAny _ _ (pyNext (.ref it) >>= _) Q E s
  refine wpAny_bind (wpAny_pyNext_list_item hit ht (x := items[i]) (by simp [hlt]) fun h₁ hit₁ hs₁ => ?_)
  refine wpAny_bind (wpAny_holding (B6u hne n (i + 1) _ _ hit₁ (ht.extBut hs₁.extBut hne) (by omega) fun h₂ hit₂ hs₂ => wpAny_pure ?_))
  have hd : items.toList.drop i = items[i] :: items.toList.drop (i + 1) := by simp [A8n, hlt]
  have := hQ h₂ (by rw [show i + (n + 1) = i + 1 + n by omega]; exact hit₂) (hs₁.trans hs₂)
  rw [hd, List.take_succ_cons] at this
  exact this
theorem C26 {t : Addr} {items : Array Value} {Q : List Value -> Shared -> Prop} (hh : A.handled = none) (ht : s.heap.IsList t items)
  (hQ : ∀ h', Heap.ExtBut s.heap.objs.size s.heap h' -> Q items.toList { s with heap := h' }) : wpAny (model prog w) A (unpackItems (.ref t) items.size none) Q E s := by
 have hlt : t ≠ s.heap.objs.size := by obtain ⟨o, ho, _⟩ := ht; exact R7 (K3 ho)
 unfold unpackItems
 refine wpAny_bind ?_
 ·unfold notIterableAtAll
  refine wpAny_bind (wpAny_specialOf ht.typeIs PySem.F.slot_list_iter.lookup ?_)
  refine wpAny_pure ?_
  simp only [A8m, if_false]
  refine wpAny_bind (wpAny_holding (wpAny_pyIter_list ht ?_))
  refine wpAny_bind (wpAny_holding (B6u hlt items.size 0 _ _ ⟨_, i9 _ rfl, rfl, rfl⟩ (B6t ht _) (by omega) fun h₁ hit₁ hs₁ => ?_))
  have hall : List.take items.size (List.drop 0 items.toList) = items.toList := by
   rw [List.drop_zero]; exact B0p (by simp)
  rw [hall]
  rw [if_neg (by simp)]
  have ht₁ : h₁.IsList t items := (B6t ht _).extBut hs₁.extBut hlt
  refine wpAny_bind (wpAny_holding (wpAny_pyNext_list_end hh hit₁ ht₁ (by simp) fun h₂ he₂ => ?_))
  simp only [Option.isSome_none, A8m, if_false]
  refine wpAny_pure (hQ h₂ fun b o hb e => he₂ b o hb (hs₁.extBut b o hb (U6 _ e)))
end
section
variable {X : Cx} {pos : Pos}
def B6v (K : A3) (n : Nat) (t : TGs) : TG := fun v σ H Q => ∃ a xs, v = .ref a /\ SqL K H a xs /\ xs.length = n /\ t xs σ H Q
theorem C27 {es : List Expr} {k : Nat} {t : TGs} {n : Nat} (hc : X.calm = true) (h : PGs X es t)
  (hn : (assignEach es X.env).length = n := by rfl) (hst : (assignEach es X.env).findIdx? (·.1) = none := by rfl) : PG X (.Tuple es k pos) (B6v X.K n t) := by
 intro pins s σ H v u Q I r hw
 obtain ⟨a, xs, e1, hq, hl, hw⟩ := hw
 subst e1
 cases r
 obtain ⟨its, rv, ht, hz⟩ := I.list hq
 rw [arm_assign_Tuple]
 refine wpAny_bind (wpAny_standAt ?_)
 unfold unpack
 rw [hst, show (assignEach es X.env).length = its.toArray.size from by simp [hn, <- hl, rv.length]]
 refine wpAny_bind (wpAny_holding (C26 (I.ok.hd hc) ht.isList fun h' hx => ?_))
 have I1 : Inv X pins σ H { s with heap := h' } := I.kept (t' := s.toks) fun b o e => hx b o (R7 (K3 e)) e
 exact h pins _ σ H xs _ Q I1 (by simpa using rv) hw
end
end L2
namespace My
open PySem L2
section
variable {X : Cx} {C : DC}
def gL2 (i j : Nat)  (d : PyData) (ρ : List Sl) (Q : List Sl -> Prop) : Prop := match d with
 | .list [a, b] => Q ((ρ.set i (.sh a)).set j (.sh b))
 | _ => False
theorem C28 {tg : Expr} {i j : Nat} {K : A3} (h : PG X tg (B6v K 2 (Y5 (Q4 i) (Y5 (Q4 j) A7f)))) : PG X tg (gOf C (gL2 i j)) := PG.wk h fun v σ H Q ⟨ρ, P, d, Qd, ⟨col, r⟩, ht, k⟩ => by
 unfold gL2 at ht
 split at ht
 ·rename_i a b
  have z : ThV (Z col) H v (.list [a, b]) := r.pd _ C6
  cases z with
  | lst za e t =>
   obtain ⟨x, y, rfl, t1, t2⟩ := X6 t
   exact ⟨_, _, rfl, SqL.of e, rfl, x, [y], rfl, y, [], rfl, rfl, k _ _ ⟨col, (((r.store (i := i) t1).store (i := j) t2).sub fun _ h => C3 _ h)⟩ ht⟩
 ·exact ht.elim
end
end My
namespace My
open PySem L2
theorem L1 {us : List Value} {n : Nat} (h : us.length = n + 1) : ∃ a r, us = a :: r /\ r.length = n := by
 cases us with
 | nil => cases h
 | cons a r => exact ⟨a, r, rfl, Nat.succ.inj h⟩
theorem C8j {us : List Value} (h : us.length = 0) : us = [] := by
 cases A3w h
 exact rfl
theorem Z6 {us : List Value} (h : us.length = 1) : ∃ a0, us = [a0] := by
 obtain ⟨a0, u0, rfl, h0⟩ := L1 h
 cases A3w h0
 exact ⟨a0, rfl⟩
theorem V3 {us : List Value} (h : us.length = 2) : ∃ a0 a1, us = [a0, a1] := by
 obtain ⟨a0, u0, rfl, h0⟩ := L1 h
 obtain ⟨a1, u1, rfl, h1⟩ := L1 h0
 cases A3w h1
 exact ⟨a0, a1, rfl⟩
theorem X9 {us : List Value} (h : us.length = 3) : ∃ a0 a1 a2, us = [a0, a1, a2] := by
 obtain ⟨a0, u0, rfl, h0⟩ := L1 h
 obtain ⟨a1, u1, rfl, h1⟩ := L1 h0
 obtain ⟨a2, u2, rfl, h2⟩ := L1 h1
 cases A3w h2
 exact ⟨a0, a1, a2, rfl⟩
theorem A5t {us : List Value} (h : us.length = 4) : ∃ a0 a1 a2 a3, us = [a0, a1, a2, a3] := by
 obtain ⟨a0, u0, rfl, h0⟩ := L1 h
 obtain ⟨a1, u1, rfl, h1⟩ := L1 h0
 obtain ⟨a2, u2, rfl, h2⟩ := L1 h1
 obtain ⟨a3, u3, rfl, h3⟩ := L1 h2
 cases A3w h3
 exact ⟨a0, a1, a2, a3, rfl⟩
theorem A9z {us : List Value} (h : us.length = 5) : ∃ a0 a1 a2 a3 a4, us = [a0, a1, a2, a3, a4] := by
 obtain ⟨a0, u0, rfl, h0⟩ := L1 h
 obtain ⟨a1, u1, rfl, h1⟩ := L1 h0
 obtain ⟨a2, u2, rfl, h2⟩ := L1 h1
 obtain ⟨a3, u3, rfl, h3⟩ := L1 h2
 obtain ⟨a4, u4, rfl, h4⟩ := L1 h3
 cases A3w h4
 exact ⟨a0, a1, a2, a3, a4, rfl⟩
theorem B2m {us : List Value} (h : us.length = 6) : ∃ a0 a1 a2 a3 a4 a5, us = [a0, a1, a2, a3, a4, a5] := by
 obtain ⟨a0, u0, rfl, h0⟩ := L1 h
 obtain ⟨a1, u1, rfl, h1⟩ := L1 h0
 obtain ⟨a2, u2, rfl, h2⟩ := L1 h1
 obtain ⟨a3, u3, rfl, h3⟩ := L1 h2
 obtain ⟨a4, u4, rfl, h4⟩ := L1 h3
 obtain ⟨a5, u5, rfl, h5⟩ := L1 h4
 cases A3w h5
 exact ⟨a0, a1, a2, a3, a4, a5, rfl⟩
theorem C8k {us : List Value} (h : us.length = 7) : ∃ a0 a1 a2 a3 a4 a5 a6, us = [a0, a1, a2, a3, a4, a5, a6] := by
 obtain ⟨a0, u0, rfl, h0⟩ := L1 h
 obtain ⟨a1, u1, rfl, h1⟩ := L1 h0
 obtain ⟨a2, u2, rfl, h2⟩ := L1 h1
 obtain ⟨a3, u3, rfl, h3⟩ := L1 h2
 obtain ⟨a4, u4, rfl, h4⟩ := L1 h3
 obtain ⟨a5, u5, rfl, h5⟩ := L1 h4
 obtain ⟨a6, u6, rfl, h6⟩ := L1 h5
 cases A3w h6
 exact ⟨a0, a1, a2, a3, a4, a5, a6, rfl⟩
theorem C8l {us : List Value} (h : us.length = 8) : ∃ a0 a1 a2 a3 a4 a5 a6 a7, us = [a0, a1, a2, a3, a4, a5, a6, a7] := by
 obtain ⟨a0, u0, rfl, h0⟩ := L1 h
 obtain ⟨a1, u1, rfl, h1⟩ := L1 h0
 obtain ⟨a2, u2, rfl, h2⟩ := L1 h1
 obtain ⟨a3, u3, rfl, h3⟩ := L1 h2
 obtain ⟨a4, u4, rfl, h4⟩ := L1 h3
 obtain ⟨a5, u5, rfl, h5⟩ := L1 h4
 obtain ⟨a6, u6, rfl, h6⟩ := L1 h5
 obtain ⟨a7, u7, rfl, h7⟩ := L1 h6
 cases A3w h7
 exact ⟨a0, a1, a2, a3, a4, a5, a6, a7, rfl⟩
def top (i : Nat) : Stmt := PySem.Challenge.pw_trudge_k82_whole_trips_with_springs.main.body.getD i (.Pass ⟨0, 0, 0, 0⟩)
abbrev A5u : Stmt := top 1
abbrev A5v : Stmt := top 2
abbrev A5w : Stmt := top 3
abbrev A5x : Stmt := top 8
abbrev A5y : Stmt := top 9
abbrev A5z : Stmt := top 10
abbrev A50 : Stmt := top 11
abbrev A51 : Stmt := top 12
abbrev A52 : Stmt := top 22
abbrev A4b : Stmt := top 23
abbrev A53 : Stmt := top 25
abbrev A54 : Stmt := top 26
abbrev A55 : Stmt := top 32
abbrev A56 : Stmt := top 33
abbrev A57 : Stmt := top 34
abbrev A58 : Stmt := top 38
abbrev A59 : Stmt := top 39
abbrev A6a : Stmt := top 40
abbrev A6b : Stmt := top 42
abbrev A6c : Stmt := top 43
abbrev A4c : Stmt := top 44
abbrev A4d : Stmt := top 45
abbrev A6d : Stmt := top 46
abbrev A6e : Stmt := top 47
abbrev A4e : Stmt := top 48
abbrev A6f : Stmt := top 49
abbrev A4f : Stmt := top 50
abbrev A4g : Stmt := top 51
abbrev A6g : Stmt := top 56
abbrev A4h : Stmt := top 57
abbrev A6h : Stmt := top 58
abbrev A6i : Stmt := top 59
abbrev A6j : Stmt := top 60
abbrev A4i : Stmt := top 61
abbrev A6k : Stmt := top 62
abbrev A6l : Stmt := top 64
abbrev A6m : Stmt := top 65
abbrev A6n : Stmt := top 66
abbrev A6o : Stmt := top 67
abbrev A6p : Stmt := top 68
abbrev A6q : Stmt := top 69
abbrev A6r : Stmt := top 70
abbrev A6s : Stmt := top 71
abbrev A4j : Stmt := top 72
abbrev A6t : Stmt := top 73
abbrev A6u : Stmt := top 74
abbrev A6v : Stmt := top 75
abbrev A6w : Stmt := top 76
abbrev A6x : Stmt := top 77
abbrev A6y : Stmt := top 78
abbrev A6z : Stmt := top 79
abbrev A60 : Stmt := top 80
abbrev A61 : Stmt := top 81
abbrev A1n : Stmt := top 82
set_option genInjectivity false in
set_option genSizeOf false in
structure Txt (K : A3) (mg : Str -> Option Value) where
 n_abs : mg "abs" = none
 n_bool : mg "bool" = none
 n_enumerate : mg "enumerate" = none
 n_int : mg "int" = none
 n_isinstance : mg "isinstance" = none
 n_len : mg "len" = none
 n_list : mg "list" = none
 n_max : mg "max" = none
 n_min : mg "min" = none
 n_range : mg "range" = none
 n_reversed : mg "reversed" = none
 n_tuple : mg "tuple" = none
 t_LEAST : Tok
 mg_LEAST : mg "LEAST" = some (.int 0 t_LEAST)
 t_GAIN : Tok
 mg_GAIN : mg "GAIN" = some (.int 1 t_GAIN)
 t_TOP : Tok
 mg_TOP : mg "TOP" = some (.int 2 t_TOP)
 t_MANY : Tok
 mg_MANY : mg "MANY" = some (.int 0 t_MANY)
 t_WAYS : Tok
 mg_WAYS : mg "WAYS" = some (.int 1 t_WAYS)
 t_START : Tok
 mg_START : mg "START" = some (.int 0 t_START)
 t_END : Tok
 mg_END : mg "END" = some (.int 1 t_END)
 t_CHANGE : Tok
 mg_CHANGE : mg "CHANGE" = some (.int 2 t_CHANGE)
 t_TABLE : Tok
 mg_TABLE : mg "TABLE" = some (.int 0 t_TABLE)
 t_RISEN : Tok
 mg_RISEN : mg "RISEN" = some (.int 1 t_RISEN)
 t_FROM : Tok
 mg_FROM : mg "FROM" = some (.int 0 t_FROM)
 t_BY : Tok
 mg_BY : mg "BY" = some (.int 1 t_BY)
 t_NUMBERS : Tok
 mg_NUMBERS : mg "NUMBERS" = some (.int 0 t_NUMBERS)
 t_TIMES : Tok
 mg_TIMES : mg "TIMES" = some (.int 1 t_TIMES)
 t_PLACE : Tok
 mg_PLACE : mg "PLACE" = some (.int 0 t_PLACE)
 t_GIFT : Tok
 mg_GIFT : mg "GIFT" = some (.int 1 t_GIFT)
 t_USE : Tok
 mg_USE : mg "USE" = some (.str "use" t_USE)
 a_is_whole : Addr
 d_is_whole : FuncData
 F_is_whole : Fun K "is_whole" "is_whole" A5u a_is_whole d_is_whole
 mg_is_whole : mg "is_whole" = some (.ref a_is_whole)
 kp_is_whole : B5 K (.ref a_is_whole) = true
 a_stepped : Addr
 d_stepped : FuncData
 F_stepped : Fun K "stepped" "stepped" A5v a_stepped d_stepped
 mg_stepped : mg "stepped" = some (.ref a_stepped)
 kp_stepped : B5 K (.ref a_stepped) = true
 a_levels_along : Addr
 d_levels_along : FuncData
 F_levels_along : Fun K "levels_along" "levels_along" A5w a_levels_along d_levels_along
 mg_levels_along : mg "levels_along" = some (.ref a_levels_along)
 kp_levels_along : B5 K (.ref a_levels_along) = true
 a_effect_of_none : Addr
 d_effect_of_none : FuncData
 F_effect_of_none : Fun K "effect_of_none" "effect_of_none" A5x a_effect_of_none d_effect_of_none
 mg_effect_of_none : mg "effect_of_none" = some (.ref a_effect_of_none)
 kp_effect_of_none : B5 K (.ref a_effect_of_none) = true
 a_effect_of_one : Addr
 d_effect_of_one : FuncData
 F_effect_of_one : Fun K "effect_of_one" "effect_of_one" A5y a_effect_of_one d_effect_of_one
 mg_effect_of_one : mg "effect_of_one" = some (.ref a_effect_of_one)
 kp_effect_of_one : B5 K (.ref a_effect_of_one) = true
 a_effect_of : Addr
 d_effect_of : FuncData
 F_effect_of : Fun K "effect_of" "effect_of" A5z a_effect_of d_effect_of
 mg_effect_of : mg "effect_of" = some (.ref a_effect_of)
 kp_effect_of : B5 K (.ref a_effect_of) = true
 a_passed : Addr
 d_passed : FuncData
 F_passed : Fun K "passed" "passed" A50 a_passed d_passed
 mg_passed : mg "passed" = some (.ref a_passed)
 kp_passed : B5 K (.ref a_passed) = true
 a_joined : Addr
 d_joined : FuncData
 F_joined : Fun K "joined" "joined" A51 a_joined d_joined
 mg_joined : mg "joined" = some (.ref a_joined)
 kp_joined : B5 K (.ref a_joined) = true
 a_is_place : Addr
 d_is_place : FuncData
 F_is_place : Fun K "is_place" "is_place" A52 a_is_place d_is_place
 mg_is_place : mg "is_place" = some (.ref a_is_place)
 kp_is_place : B5 K (.ref a_is_place) = true
 a_changes_of : Addr
 d_changes_of : FuncData
 F_changes_of : Fun K "changes_of" "changes_of" A4b a_changes_of d_changes_of
 mg_changes_of : mg "changes_of" = some (.ref a_changes_of)
 kp_changes_of : B5 K (.ref a_changes_of) = true
 a_is_more : Addr
 d_is_more : FuncData
 F_is_more : Fun K "is_more" "is_more" A53 a_is_more d_is_more
 mg_is_more : mg "is_more" = some (.ref a_is_more)
 kp_is_more : B5 K (.ref a_is_more) = true
 a_behind_way : Addr
 d_behind_way : FuncData
 F_behind_way : Fun K "behind_way" "behind_way" A54 a_behind_way d_behind_way
 mg_behind_way : mg "behind_way" = some (.ref a_behind_way)
 kp_behind_way : B5 K (.ref a_behind_way) = true
 a_first_row : Addr
 d_first_row : FuncData
 F_first_row : Fun K "first_row" "first_row" A55 a_first_row d_first_row
 mg_first_row : mg "first_row" = some (.ref a_first_row)
 kp_first_row : B5 K (.ref a_first_row) = true
 a_row_behind : Addr
 d_row_behind : FuncData
 F_row_behind : Fun K "row_behind" "row_behind" A56 a_row_behind d_row_behind
 mg_row_behind : mg "row_behind" = some (.ref a_row_behind)
 kp_row_behind : B5 K (.ref a_row_behind) = true
 a_walk_to : Addr
 d_walk_to : FuncData
 F_walk_to : Fun K "walk_to" "walk_to" A57 a_walk_to d_walk_to
 mg_walk_to : mg "walk_to" = some (.ref a_walk_to)
 kp_walk_to : B5 K (.ref a_walk_to) = true
 a_behind_ways : Addr
 d_behind_ways : FuncData
 F_behind_ways : Fun K "behind_ways" "behind_ways" A58 a_behind_ways d_behind_ways
 mg_behind_ways : mg "behind_ways" = some (.ref a_behind_ways)
 kp_behind_ways : B5 K (.ref a_behind_ways) = true
 a_behind_part : Addr
 d_behind_part : FuncData
 F_behind_part : Fun K "behind_part" "behind_part" A59 a_behind_part d_behind_part
 mg_behind_part : mg "behind_part" = some (.ref a_behind_part)
 kp_behind_part : B5 K (.ref a_behind_part) = true
 a_end_of : Addr
 d_end_of : FuncData
 F_end_of : Fun K "end_of" "end_of" A6a a_end_of d_end_of
 mg_end_of : mg "end_of" = some (.ref a_end_of)
 kp_end_of : B5 K (.ref a_end_of) = true
 a_rows_from : Addr
 d_rows_from : FuncData
 F_rows_from : Fun K "rows_from" "rows_from" A6b a_rows_from d_rows_from
 mg_rows_from : mg "rows_from" = some (.ref a_rows_from)
 kp_rows_from : B5 K (.ref a_rows_from) = true
 a_still_rises : Addr
 d_still_rises : FuncData
 F_still_rises : Fun K "still_rises" "still_rises" A6c a_still_rises d_still_rises
 mg_still_rises : mg "still_rises" = some (.ref a_still_rises)
 kp_still_rises : B5 K (.ref a_still_rises) = true
 a_rising_walk : Addr
 d_rising_walk : FuncData
 F_rising_walk : Fun K "rising_walk" "rising_walk" A4c a_rising_walk d_rising_walk
 mg_rising_walk : mg "rising_walk" = some (.ref a_rising_walk)
 kp_rising_walk : B5 K (.ref a_rising_walk) = true
 a_parted_at_round : Addr
 d_parted_at_round : FuncData
 F_parted_at_round : Fun K "parted_at_round" "parted_at_round" A4d a_parted_at_round d_parted_at_round
 mg_parted_at_round : mg "parted_at_round" = some (.ref a_parted_at_round)
 kp_parted_at_round : B5 K (.ref a_parted_at_round) = true
 a_parts_by : Addr
 d_parts_by : FuncData
 F_parts_by : Fun K "parts_by" "parts_by" A6d a_parts_by d_parts_by
 mg_parts_by : mg "parts_by" = some (.ref a_parts_by)
 kp_parts_by : B5 K (.ref a_parts_by) = true
 a_filling_parts : Addr
 d_filling_parts : FuncData
 F_filling_parts : Fun K "filling_parts" "filling_parts" A6e a_filling_parts d_filling_parts
 mg_filling_parts : mg "filling_parts" = some (.ref a_filling_parts)
 kp_filling_parts : B5 K (.ref a_filling_parts) = true
 a_settled : Addr
 d_settled : FuncData
 F_settled : Fun K "settled" "settled" A4e a_settled d_settled
 mg_settled : mg "settled" = some (.ref a_settled)
 kp_settled : B5 K (.ref a_settled) = true
 a_highest : Addr
 d_highest : FuncData
 F_highest : Fun K "highest" "highest" A6f a_highest d_highest
 mg_highest : mg "highest" = some (.ref a_highest)
 kp_highest : B5 K (.ref a_highest) = true
 a_trip_to : Addr
 d_trip_to : FuncData
 F_trip_to : Fun K "trip_to" "trip_to" A4f a_trip_to d_trip_to
 mg_trip_to : mg "trip_to" = some (.ref a_trip_to)
 kp_trip_to : B5 K (.ref a_trip_to) = true
 a_trips_to : Addr
 d_trips_to : FuncData
 F_trips_to : Fun K "trips_to" "trips_to" A4g a_trips_to d_trips_to
 mg_trips_to : mg "trips_to" = some (.ref a_trips_to)
 kp_trips_to : B5 K (.ref a_trips_to) = true
 a_alone : Addr
 d_alone : FuncData
 F_alone : Fun K "alone" "alone" A6g a_alone d_alone
 mg_alone : mg "alone" = some (.ref a_alone)
 kp_alone : B5 K (.ref a_alone) = true
 a_numbers_in : Addr
 d_numbers_in : FuncData
 F_numbers_in : Fun K "numbers_in" "numbers_in" A4h a_numbers_in d_numbers_in
 mg_numbers_in : mg "numbers_in" = some (.ref a_numbers_in)
 kp_numbers_in : B5 K (.ref a_numbers_in) = true
 a_level_by_spring : Addr
 d_level_by_spring : FuncData
 F_level_by_spring : Fun K "level_by_spring" "level_by_spring" A6h a_level_by_spring d_level_by_spring
 mg_level_by_spring : mg "level_by_spring" = some (.ref a_level_by_spring)
 kp_level_by_spring : B5 K (.ref a_level_by_spring) = true
 a_base_by : Addr
 d_base_by : FuncData
 F_base_by : Fun K "base_by" "base_by" A6i a_base_by d_base_by
 mg_base_by : mg "base_by" = some (.ref a_base_by)
 kp_base_by : B5 K (.ref a_base_by) = true
 a_highest_by : Addr
 d_highest_by : FuncData
 F_highest_by : Fun K "highest_by" "highest_by" A6j a_highest_by d_highest_by
 mg_highest_by : mg "highest_by" = some (.ref a_highest_by)
 kp_highest_by : B5 K (.ref a_highest_by) = true
 a_last_spring : Addr
 d_last_spring : FuncData
 F_last_spring : Fun K "last_spring" "last_spring" A4i a_last_spring d_last_spring
 mg_last_spring : mg "last_spring" = some (.ref a_last_spring)
 kp_last_spring : B5 K (.ref a_last_spring) = true
 a_trip_by : Addr
 d_trip_by : FuncData
 F_trip_by : Fun K "trip_by" "trip_by" A6k a_trip_by d_trip_by
 mg_trip_by : mg "trip_by" = some (.ref a_trip_by)
 kp_trip_by : B5 K (.ref a_trip_by) = true
 a_hand : Addr
 d_hand : FuncData
 F_hand : Fun K "_law_hand" "_law_hand" A6l a_hand d_hand
 mg_hand : mg "_law_hand" = some (.ref a_hand)
 kp_hand : B5 K (.ref a_hand) = true
 a_next : Addr
 d_next : FuncData
 F_next : Fun K "_law_next" "_law_next" A6m a_next d_next
 mg_next : mg "_law_next" = some (.ref a_next)
 kp_next : B5 K (.ref a_next) = true
 a_take : Addr
 d_take : FuncData
 F_take : Fun K "_law_take" "_law_take" A6n a_take d_take
 mg_take : mg "_law_take" = some (.ref a_take)
 kp_take : B5 K (.ref a_take) = true
 a_draw : Addr
 d_draw : FuncData
 F_draw : Fun K "_law_draw" "_law_draw" A6o a_draw d_draw
 mg_draw : mg "_law_draw" = some (.ref a_draw)
 kp_draw : B5 K (.ref a_draw) = true
 a_scale : Addr
 d_scale : FuncData
 F_scale : Fun K "_law_scale" "_law_scale" A6p a_scale d_scale
 mg_scale : mg "_law_scale" = some (.ref a_scale)
 kp_scale : B5 K (.ref a_scale) = true
 a_change : Addr
 d_change : FuncData
 F_change : Fun K "_law_change" "_law_change" A6q a_change d_change
 mg_change : mg "_law_change" = some (.ref a_change)
 kp_change : B5 K (.ref a_change) = true
 a_store : Addr
 d_store : FuncData
 F_store : Fun K "_law_store" "_law_store" A6r a_store d_store
 mg_store : mg "_law_store" = some (.ref a_store)
 kp_store : B5 K (.ref a_store) = true
 a_land : Addr
 d_land : FuncData
 F_land : Fun K "_law_land" "_law_land" A6s a_land d_land
 mg_land : mg "_law_land" = some (.ref a_land)
 kp_land : B5 K (.ref a_land) = true
 a_table : Addr
 d_table : FuncData
 F_table : Fun K "_law_table" "_law_table" A4j a_table d_table
 mg_table : mg "_law_table" = some (.ref a_table)
 kp_table : B5 K (.ref a_table) = true
 a_springs : Addr
 d_springs : FuncData
 F_springs : Fun K "_law_springs" "_law_springs" A6t a_springs d_springs
 mg_springs : mg "_law_springs" = some (.ref a_springs)
 kp_springs : B5 K (.ref a_springs) = true
 a_spring_case : Addr
 d_spring_case : FuncData
 F_spring_case : Fun K "_law_spring_case" "_law_spring_case" A6u a_spring_case d_spring_case
 mg_spring_case : mg "_law_spring_case" = some (.ref a_spring_case)
 kp_spring_case : B5 K (.ref a_spring_case) = true
 a_effect : Addr
 d_effect : FuncData
 F_effect : Fun K "_law_effect" "_law_effect" A6v a_effect d_effect
 mg_effect : mg "_law_effect" = some (.ref a_effect)
 kp_effect : B5 K (.ref a_effect) = true
 a_times : Addr
 d_times : FuncData
 F_times : Fun K "_law_times" "_law_times" A6w a_times d_times
 mg_times : mg "_law_times" = some (.ref a_times)
 kp_times : B5 K (.ref a_times) = true
 a_arrive : Addr
 d_arrive : FuncData
 F_arrive : Fun K "_law_arrive" "_law_arrive" A6x a_arrive d_arrive
 mg_arrive : mg "_law_arrive" = some (.ref a_arrive)
 kp_arrive : B5 K (.ref a_arrive) = true
 a_arrive_by : Addr
 d_arrive_by : FuncData
 F_arrive_by : Fun K "_law_arrive_by" "_law_arrive_by" A6y a_arrive_by d_arrive_by
 mg_arrive_by : mg "_law_arrive_by" = some (.ref a_arrive_by)
 kp_arrive_by : B5 K (.ref a_arrive_by) = true
 a_law_is_whole : Addr
 d_law_is_whole : FuncData
 F_law_is_whole : Fun K "_law_is_whole" "_law_is_whole" A6z a_law_is_whole d_law_is_whole
 mg_law_is_whole : mg "_law_is_whole" = some (.ref a_law_is_whole)
 kp_law_is_whole : B5 K (.ref a_law_is_whole) = true
 a_good : Addr
 d_good : FuncData
 F_good : Fun K "_law_good" "_law_good" A60 a_good d_good
 mg_good : mg "_law_good" = some (.ref a_good)
 kp_good : B5 K (.ref a_good) = true
 a_asked : Addr
 d_asked : FuncData
 F_asked : Fun K "_law_asked" "_law_asked" A61 a_asked d_asked
 mg_asked : mg "_law_asked" = some (.ref a_asked)
 kp_asked : B5 K (.ref a_asked) = true
 a_law : Addr
 d_law : FuncData
 F_law : Fun K "law" "law" A1n a_law d_law
 mg_law : mg "law" = some (.ref a_law)
 kp_law : B5 K (.ref a_law) = true
theorem C29 : F1 ["thing"] ["thing"] (B0 A5u) := ⟨rfl, rfl, rfl, by decide +kernel, rfl, by decide +kernel, by decide +kernel⟩
theorem B6w : F1 ["store", "level", "change", "behind"] ["store", "level", "change"] (B0 A5v) := ⟨rfl, rfl, rfl, by decide +kernel, rfl, by decide +kernel, by decide +kernel⟩
theorem A90 : F1 ["store", "level", "changes", "levels", "change", "behind"] ["store", "level", "changes"] (B0 A5w) := ⟨rfl, rfl, rfl, by decide +kernel, rfl, by decide +kernel, by decide +kernel⟩
theorem C3a : F1 ["store"] ["store"] (B0 A5x) := ⟨rfl, rfl, rfl, by decide +kernel, rfl, by decide +kernel, by decide +kernel⟩
theorem C3b : F1 ["store", "change"] ["store", "change"] (B0 A5y) := ⟨rfl, rfl, rfl, by decide +kernel, rfl, by decide +kernel, by decide +kernel⟩
theorem A91 : F1 ["store", "changes", "whole", "change"] ["store", "changes"] (B0 A5z) := ⟨rfl, rfl, rfl, by decide +kernel, rfl, by decide +kernel, by decide +kernel⟩
theorem C3c : F1 ["effect", "level"] ["effect", "level"] (B0 A50) := ⟨rfl, rfl, rfl, by decide +kernel, rfl, by decide +kernel, by decide +kernel⟩
theorem B6x : F1 ["one", "other", "least"] ["one", "other"] (B0 A51) := ⟨rfl, rfl, rfl, by decide +kernel, rfl, by decide +kernel, by decide +kernel⟩
theorem C3d : F1 ["many", "thing"] ["many", "thing"] (B0 A52) := ⟨rfl, rfl, rfl, by decide +kernel, rfl, by decide +kernel, by decide +kernel⟩
theorem C3e : F1 ["land", "numbers"] ["land", "numbers"] (B0 A4b) := ⟨rfl, rfl, rfl, by decide +kernel, rfl, by decide +kernel, by decide +kernel⟩
theorem C3f : F1 ["one", "other"] ["one", "other"] (B0 A53) := ⟨rfl, rfl, rfl, by decide +kernel, rfl, by decide +kernel, by decide +kernel⟩
theorem B6y : F1 ["store", "table", "way", "level"] ["store", "table", "way"] (B0 A54) := ⟨rfl, rfl, rfl, by decide +kernel, rfl, by decide +kernel, by decide +kernel⟩
theorem C3g : F1 ["table"] ["table"] (B0 A55) := ⟨rfl, rfl, rfl, by decide +kernel, rfl, by decide +kernel, by decide +kernel⟩
theorem A62 : F1 ["land", "store", "table", "stayed", "higher", "risen", "number", "way", "level"] ["land", "store", "table", "stayed"] (B0 A56) := ⟨rfl, rfl, rfl, by decide +kernel, rfl, by decide +kernel, by decide +kernel⟩
theorem A63 : F1 ["land", "rows", "place", "here", "numbers", "row", "number"] ["land", "rows", "place"] (B0 A57) := ⟨rfl, rfl, rfl, by decide +kernel, rfl, by decide +kernel, by decide +kernel⟩
theorem A92 : F1 ["land", "place", "numbers", "here", "number"] ["land", "place", "numbers"] (B0 A58) := ⟨rfl, rfl, rfl, by decide +kernel, rfl, by decide +kernel, by decide +kernel⟩
theorem B6z : F1 ["land", "place", "part", "behind"] ["land", "place", "part"] (B0 A59) := ⟨rfl, rfl, rfl, by decide +kernel, rfl, by decide +kernel, by decide +kernel⟩
theorem A77 : F1 ["land", "place", "trip", "here", "at", "part"] ["land", "place", "trip"] (B0 A6a) := ⟨rfl, rfl, rfl, by decide +kernel, rfl, by decide +kernel, by decide +kernel⟩
theorem A93 : F1 ["land", "store", "table", "rows", "row"] ["land", "store", "table"] (B0 A6b) := ⟨rfl, rfl, rfl, by decide +kernel, rfl, by decide +kernel, by decide +kernel⟩
theorem C3h : F1 ["land", "rows"] ["land", "rows"] (B0 A6c) := ⟨rfl, rfl, rfl, by decide +kernel, rfl, by decide +kernel, by decide +kernel⟩
theorem B60 : F1 ["land", "rows", "last"] ["land", "rows"] (B0 A4c) := ⟨rfl, rfl, rfl, by decide +kernel, rfl, by decide +kernel, by decide +kernel⟩
theorem A78 : F1 ["land", "walk", "places", "end", "begin"] ["land", "walk"] (B0 A4d) := ⟨rfl, rfl, rfl, by decide +kernel, rfl, by decide +kernel, by decide +kernel⟩
theorem C3i : F1 ["numbers"] ["numbers"] (B0 A6d) := ⟨rfl, rfl, rfl, by decide +kernel, rfl, by decide +kernel, by decide +kernel⟩
theorem A3l : F1 ["land", "store", "level", "walk", "parted", "ahead", "turn", "effect", "missing", "times", "levels"] ["land", "store", "level", "walk"] (B0 A6e) := ⟨rfl, rfl, rfl, by decide +kernel, rfl, by decide +kernel, by decide +kernel⟩
theorem A1o : F1 ["land", "store", "base", "table", "roads", "rows", "walk", "parts", "full", "road"] ["land", "store", "base"] (B0 A4e) := ⟨rfl, rfl, rfl, by decide +kernel, rfl, by decide +kernel, by decide +kernel⟩
theorem C3j : F1 ["land", "store", "base"] ["land", "store", "base"] (B0 A6f) := ⟨rfl, rfl, rfl, by decide +kernel, rfl, by decide +kernel, by decide +kernel⟩
theorem A94 : F1 ["land", "rows", "roads", "place", "walk", "road", "trip"] ["land", "rows", "roads", "place"] (B0 A4f) := ⟨rfl, rfl, rfl, by decide +kernel, rfl, by decide +kernel, by decide +kernel⟩
theorem A95 : F1 ["land", "store", "base", "found", "rows", "table"] ["land", "store", "base"] (B0 A4g) := ⟨rfl, rfl, rfl, by decide +kernel, rfl, by decide +kernel, by decide +kernel⟩
theorem C3k : F1 ["number"] ["number"] (B0 A6g) := ⟨rfl, rfl, rfl, by decide +kernel, rfl, by decide +kernel, by decide +kernel⟩
theorem C3l : F1 ["springs", "some"] ["springs", "some"] (B0 A4h) := ⟨rfl, rfl, rfl, by decide +kernel, rfl, by decide +kernel, by decide +kernel⟩
theorem B61 : F1 ["store", "springs", "tables", "some", "number", "level"] ["store", "springs", "tables", "some", "number"] (B0 A6h) := ⟨rfl, rfl, rfl, by decide +kernel, rfl, by decide +kernel, by decide +kernel⟩
theorem A96 : F1 ["store", "springs", "tables", "base", "some", "there", "number", "level"] ["store", "springs", "tables", "base", "some"] (B0 A6i) := ⟨rfl, rfl, rfl, by decide +kernel, rfl, by decide +kernel, by decide +kernel⟩
theorem B2n : F1 ["land", "store", "springs", "base", "tables", "some"] ["land", "store", "springs", "base"] (B0 A6j) := ⟨rfl, rfl, rfl, by decide +kernel, rfl, by decide +kernel, by decide +kernel⟩
theorem C3m : F1 ["store", "springs", "tables", "some", "place", "level"] ["store", "springs", "tables", "some", "place", "level"] (B0 A4i) := ⟨rfl, rfl, rfl, by decide +kernel, rfl, by decide +kernel, by decide +kernel⟩
theorem p8 : F1 ["land", "store", "springs", "base", "some", "place", "tables", "left", "found", "trip", "level", "number"] ["land", "store", "springs", "base", "some", "place"] (B0 A6k) := ⟨rfl, rfl, rfl, by decide +kernel, rfl, by decide +kernel, by decide +kernel⟩
theorem C3n : F1 ["_law_script"] ["_law_script"] (B0 A6l) := ⟨rfl, rfl, rfl, by decide +kernel, rfl, by decide +kernel, by decide +kernel⟩
theorem C3o : F1 ["_law_hand_here"] ["_law_hand_here"] (B0 A6m) := ⟨rfl, rfl, rfl, by decide +kernel, rfl, by decide +kernel, by decide +kernel⟩
theorem B2o : F1 ["_law_hand_here", "_law_cell"] ["_law_hand_here"] (B0 A6n) := ⟨rfl, rfl, rfl, by decide +kernel, rfl, by decide +kernel, by decide +kernel⟩
theorem A64 : F1 ["_law_hand_here", "_law_many", "_law_got", "_law_value", "_law_size"] ["_law_hand_here", "_law_many"] (B0 A6o) := ⟨rfl, rfl, rfl, by decide +kernel, rfl, by decide +kernel, by decide +kernel⟩
theorem C3p : F1 ["_law_hand_here"] ["_law_hand_here"] (B0 A6p) := ⟨rfl, rfl, rfl, by decide +kernel, rfl, by decide +kernel, by decide +kernel⟩
theorem C3q : F1 ["_law_hand_here", "_law_scale_here"] ["_law_hand_here", "_law_scale_here"] (B0 A6q) := ⟨rfl, rfl, rfl, by decide +kernel, rfl, by decide +kernel, by decide +kernel⟩
theorem B62 : F1 ["_law_hand_here", "_law_scale_here", "_law_way"] ["_law_hand_here", "_law_scale_here"] (B0 A6r) := ⟨rfl, rfl, rfl, by decide +kernel, rfl, by decide +kernel, by decide +kernel⟩
theorem A4k : F1 ["_law_hand_here", "_law_places", "_law_ways", "_law_scale_here", "_law_many", "_law_rows", "_law_k", "_law_start", "_law_end"] ["_law_hand_here", "_law_places", "_law_ways", "_law_scale_here"] (B0 A6s) := ⟨rfl, rfl, rfl, by decide +kernel, rfl, by decide +kernel, by decide +kernel⟩
theorem B63 : F1 ["_law_hand_here", "_law_many", "_law_store_here", "_law_rare"] ["_law_hand_here", "_law_many", "_law_store_here"] (B0 A4j) := ⟨rfl, rfl, rfl, by decide +kernel, rfl, by decide +kernel, by decide +kernel⟩
theorem A97 : F1 ["_law_hand_here", "_law_many", "_law_store_here", "_law_most", "_law_springs_here", "_law_k", "_law_gift"] ["_law_hand_here", "_law_many", "_law_store_here", "_law_most"] (B0 A6t) := ⟨rfl, rfl, rfl, by decide +kernel, rfl, by decide +kernel, by decide +kernel⟩
theorem A4l : F1 ["_law_hand_here", "_law_scale_here", "_law_store_here", "_law_many", "_law_ways", "_law_land_here", "_law_springs_here"] ["_law_hand_here"] (B0 A6u) := ⟨rfl, rfl, rfl, by decide +kernel, rfl, by decide +kernel, by decide +kernel⟩
theorem A65 : F1 ["_law_store_here", "_law_changes", "_law_lowest", "_law_gain", "_law_top", "_law_change_here"] ["_law_store_here", "_law_changes"] (B0 A6v) := ⟨rfl, rfl, rfl, by decide +kernel, rfl, by decide +kernel, by decide +kernel⟩
theorem A79 : F1 ["_law_effect_here", "_law_times_here", "_law_level", "_law_lowest", "_law_gain", "_law_top", "_law_ahead"] ["_law_effect_here", "_law_times_here", "_law_level"] (B0 A6w) := ⟨rfl, rfl, rfl, by decide +kernel, rfl, by decide +kernel, by decide +kernel⟩
theorem A3m : F1 ["_law_land_here", "_law_store_here", "_law_place", "_law_level", "_law_trip", "_law_part", "_law_here", "_law_changes", "_law_number"] ["_law_land_here", "_law_store_here", "_law_place", "_law_level", "_law_trip"] (B0 A6x) := ⟨rfl, rfl, rfl, by decide +kernel, rfl, by decide +kernel, by decide +kernel⟩
theorem A1p : F1 ["_law_land_here", "_law_store_here", "_law_springs_here", "_law_place", "_law_level", "_law_trip", "_law_some", "_law_thing", "_law_k", "_law_end"] ["_law_land_here", "_law_store_here", "_law_springs_here", "_law_place", "_law_level", "_law_trip"] (B0 A6y) := ⟨rfl, rfl, rfl, by decide +kernel, rfl, by decide +kernel, by decide +kernel⟩
theorem C3r : F1 ["_law_thing"] ["_law_thing"] (B0 A6z) := ⟨rfl, rfl, rfl, by decide +kernel, rfl, by decide +kernel, by decide +kernel⟩
theorem A8a : F1 ["_law_case", "_law_found", "_law_some", "_law_place", "_law_level", "_law_land_here", "_law_store_here", "_law_springs_here", "_law_base"] ["_law_case", "_law_found", "_law_some", "_law_place", "_law_level"] (B0 A60) := ⟨rfl, rfl, rfl, by decide +kernel, rfl, by decide +kernel, by decide +kernel⟩
theorem B64 : F1 ["_law_hand_here", "_law_case", "_law_some"] ["_law_hand_here", "_law_case"] (B0 A61) := ⟨rfl, rfl, rfl, by decide +kernel, rfl, by decide +kernel, by decide +kernel⟩
theorem U5 : F1 ["_law_script", "_law_hand_here", "_law_case", "_law_land_here", "_law_store_here", "_law_springs_here", "_law_base", "_law_handed", "_law_some", "_law_place", "_law_found", "_law_tables", "_law_thing", "_law_k"] ["_law_script"] (B0 A1n) := ⟨rfl, rfl, rfl, by decide +kernel, rfl, by decide +kernel, by decide +kernel⟩
theorem C3s {K : A3} {mg : Str -> Option Value} (T : Txt K mg) : E8 K T.d_is_whole ["thing"] [] := T.F_is_whole.binds fun _ _ _ _ _ _ us hl => by obtain ⟨_, rfl⟩ := Z6 hl; rfl
theorem B2p {K : A3} {mg : Str -> Option Value} (T : Txt K mg) : E8 K T.d_stepped ["store", "level", "change"] [] := T.F_stepped.binds fun _ _ _ _ _ _ us hl => by obtain ⟨_, _, _, rfl⟩ := X9 hl; rfl
theorem C3t {K : A3} {mg : Str -> Option Value} (T : Txt K mg) : E8 K T.d_levels_along ["store", "level", "changes"] [] := T.F_levels_along.binds fun _ _ _ _ _ _ us hl => by obtain ⟨_, _, _, rfl⟩ := X9 hl; rfl
theorem C3u {K : A3} {mg : Str -> Option Value} (T : Txt K mg) : E8 K T.d_effect_of_none ["store"] [] := T.F_effect_of_none.binds fun _ _ _ _ _ _ us hl => by obtain ⟨_, rfl⟩ := Z6 hl; rfl
theorem C3v {K : A3} {mg : Str -> Option Value} (T : Txt K mg) : E8 K T.d_effect_of_one ["store", "change"] [] := T.F_effect_of_one.binds fun _ _ _ _ _ _ us hl => by obtain ⟨_, _, rfl⟩ := V3 hl; rfl
theorem C3w {K : A3} {mg : Str -> Option Value} (T : Txt K mg) : E8 K T.d_effect_of ["store", "changes"] [] := T.F_effect_of.binds fun _ _ _ _ _ _ us hl => by obtain ⟨_, _, rfl⟩ := V3 hl; rfl
theorem C3x {K : A3} {mg : Str -> Option Value} (T : Txt K mg) : E8 K T.d_passed ["effect", "level"] [] := T.F_passed.binds fun _ _ _ _ _ _ us hl => by obtain ⟨_, _, rfl⟩ := V3 hl; rfl
theorem C3y {K : A3} {mg : Str -> Option Value} (T : Txt K mg) : E8 K T.d_joined ["one", "other"] [] := T.F_joined.binds fun _ _ _ _ _ _ us hl => by obtain ⟨_, _, rfl⟩ := V3 hl; rfl
theorem C3z {K : A3} {mg : Str -> Option Value} (T : Txt K mg) : E8 K T.d_is_place ["many", "thing"] [] := T.F_is_place.binds fun _ _ _ _ _ _ us hl => by obtain ⟨_, _, rfl⟩ := V3 hl; rfl
theorem C30 {K : A3} {mg : Str -> Option Value} (T : Txt K mg) : E8 K T.d_changes_of ["land", "numbers"] [] := T.F_changes_of.binds fun _ _ _ _ _ _ us hl => by obtain ⟨_, _, rfl⟩ := V3 hl; rfl
theorem B65 {K : A3} {mg : Str -> Option Value} (T : Txt K mg) : E8 K T.d_is_more ["one", "other"] [] := T.F_is_more.binds fun _ _ _ _ _ _ us hl => by obtain ⟨_, _, rfl⟩ := V3 hl; rfl
theorem C31 {K : A3} {mg : Str -> Option Value} (T : Txt K mg) : E8 K T.d_behind_way ["store", "table", "way"] [] := T.F_behind_way.binds fun _ _ _ _ _ _ us hl => by obtain ⟨_, _, _, rfl⟩ := X9 hl; rfl
theorem C32 {K : A3} {mg : Str -> Option Value} (T : Txt K mg) : E8 K T.d_first_row ["table"] [] := T.F_first_row.binds fun _ _ _ _ _ _ us hl => by obtain ⟨_, rfl⟩ := Z6 hl; rfl
theorem C33 {K : A3} {mg : Str -> Option Value} (T : Txt K mg) : E8 K T.d_row_behind ["land", "store", "table", "stayed"] [] := T.F_row_behind.binds fun _ _ _ _ _ _ us hl => by obtain ⟨_, _, _, _, rfl⟩ := A5t hl; rfl
theorem B66 {K : A3} {mg : Str -> Option Value} (T : Txt K mg) : E8 K T.d_walk_to ["land", "rows", "place"] [] := T.F_walk_to.binds fun _ _ _ _ _ _ us hl => by obtain ⟨_, _, _, rfl⟩ := X9 hl; rfl
theorem C34 {K : A3} {mg : Str -> Option Value} (T : Txt K mg) : E8 K T.d_behind_ways ["land", "place", "numbers"] [] := T.F_behind_ways.binds fun _ _ _ _ _ _ us hl => by obtain ⟨_, _, _, rfl⟩ := X9 hl; rfl
theorem C35 {K : A3} {mg : Str -> Option Value} (T : Txt K mg) : E8 K T.d_behind_part ["land", "place", "part"] [] := T.F_behind_part.binds fun _ _ _ _ _ _ us hl => by obtain ⟨_, _, _, rfl⟩ := X9 hl; rfl
theorem C36 {K : A3} {mg : Str -> Option Value} (T : Txt K mg) : E8 K T.d_end_of ["land", "place", "trip"] [] := T.F_end_of.binds fun _ _ _ _ _ _ us hl => by obtain ⟨_, _, _, rfl⟩ := X9 hl; rfl
theorem C37 {K : A3} {mg : Str -> Option Value} (T : Txt K mg) : E8 K T.d_rows_from ["land", "store", "table"] [] := T.F_rows_from.binds fun _ _ _ _ _ _ us hl => by obtain ⟨_, _, _, rfl⟩ := X9 hl; rfl
theorem C38 {K : A3} {mg : Str -> Option Value} (T : Txt K mg) : E8 K T.d_still_rises ["land", "rows"] [] := T.F_still_rises.binds fun _ _ _ _ _ _ us hl => by obtain ⟨_, _, rfl⟩ := V3 hl; rfl
theorem C39 {K : A3} {mg : Str -> Option Value} (T : Txt K mg) : E8 K T.d_rising_walk ["land", "rows"] [] := T.F_rising_walk.binds fun _ _ _ _ _ _ us hl => by obtain ⟨_, _, rfl⟩ := V3 hl; rfl
theorem C4a {K : A3} {mg : Str -> Option Value} (T : Txt K mg) : E8 K T.d_parted_at_round ["land", "walk"] [] := T.F_parted_at_round.binds fun _ _ _ _ _ _ us hl => by obtain ⟨_, _, rfl⟩ := V3 hl; rfl
theorem B67 {K : A3} {mg : Str -> Option Value} (T : Txt K mg) : E8 K T.d_parts_by ["numbers"] [] := T.F_parts_by.binds fun _ _ _ _ _ _ us hl => by obtain ⟨_, rfl⟩ := Z6 hl; rfl
theorem C4b {K : A3} {mg : Str -> Option Value} (T : Txt K mg) : E8 K T.d_filling_parts ["land", "store", "level", "walk"] [] := T.F_filling_parts.binds fun _ _ _ _ _ _ us hl => by obtain ⟨_, _, _, _, rfl⟩ := A5t hl; rfl
theorem B68 {K : A3} {mg : Str -> Option Value} (T : Txt K mg) : E8 K T.d_settled ["land", "store", "base"] [] := T.F_settled.binds fun _ _ _ _ _ _ us hl => by obtain ⟨_, _, _, rfl⟩ := X9 hl; rfl
theorem C4c {K : A3} {mg : Str -> Option Value} (T : Txt K mg) : E8 K T.d_highest ["land", "store", "base"] [] := T.F_highest.binds fun _ _ _ _ _ _ us hl => by obtain ⟨_, _, _, rfl⟩ := X9 hl; rfl
theorem C4d {K : A3} {mg : Str -> Option Value} (T : Txt K mg) : E8 K T.d_trip_to ["land", "rows", "roads", "place"] [] := T.F_trip_to.binds fun _ _ _ _ _ _ us hl => by obtain ⟨_, _, _, _, rfl⟩ := A5t hl; rfl
theorem C4e {K : A3} {mg : Str -> Option Value} (T : Txt K mg) : E8 K T.d_trips_to ["land", "store", "base"] [] := T.F_trips_to.binds fun _ _ _ _ _ _ us hl => by obtain ⟨_, _, _, rfl⟩ := X9 hl; rfl
theorem A98 {K : A3} {mg : Str -> Option Value} (T : Txt K mg) : E8 K T.d_alone ["number"] [] := T.F_alone.binds fun _ _ _ _ _ _ us hl => by obtain ⟨_, rfl⟩ := Z6 hl; rfl
theorem B69 {K : A3} {mg : Str -> Option Value} (T : Txt K mg) : E8 K T.d_numbers_in ["springs", "some"] [] := T.F_numbers_in.binds fun _ _ _ _ _ _ us hl => by obtain ⟨_, _, rfl⟩ := V3 hl; rfl
theorem B7a {K : A3} {mg : Str -> Option Value} (T : Txt K mg) : E8 K T.d_level_by_spring ["store", "springs", "tables", "some", "number"] [] := T.F_level_by_spring.binds fun _ _ _ _ _ _ us hl => by obtain ⟨_, _, _, _, _, rfl⟩ := A9z hl; rfl
theorem B7b {K : A3} {mg : Str -> Option Value} (T : Txt K mg) : E8 K T.d_base_by ["store", "springs", "tables", "base", "some"] [] := T.F_base_by.binds fun _ _ _ _ _ _ us hl => by obtain ⟨_, _, _, _, _, rfl⟩ := A9z hl; rfl
theorem B7c {K : A3} {mg : Str -> Option Value} (T : Txt K mg) : E8 K T.d_highest_by ["land", "store", "springs", "base"] [] := T.F_highest_by.binds fun _ _ _ _ _ _ us hl => by obtain ⟨_, _, _, _, rfl⟩ := A5t hl; rfl
theorem C4f {K : A3} {mg : Str -> Option Value} (T : Txt K mg) : E8 K T.d_last_spring ["store", "springs", "tables", "some", "place", "level"] [] := T.F_last_spring.binds fun _ _ _ _ _ _ us hl => by obtain ⟨_, _, _, _, _, _, rfl⟩ := B2m hl; rfl
theorem C4g {K : A3} {mg : Str -> Option Value} (T : Txt K mg) : E8 K T.d_trip_by ["land", "store", "springs", "base", "some", "place"] [] := T.F_trip_by.binds fun _ _ _ _ _ _ us hl => by obtain ⟨_, _, _, _, _, _, rfl⟩ := B2m hl; rfl
theorem C4h {K : A3} {mg : Str -> Option Value} (T : Txt K mg) : E8 K T.d_hand ["_law_script"] [] := T.F_hand.binds fun _ _ _ _ _ _ us hl => by obtain ⟨_, rfl⟩ := Z6 hl; rfl
theorem B7d {K : A3} {mg : Str -> Option Value} (T : Txt K mg) : E8 K T.d_next ["_law_hand_here"] [] := T.F_next.binds fun _ _ _ _ _ _ us hl => by obtain ⟨_, rfl⟩ := Z6 hl; rfl
theorem C4i {K : A3} {mg : Str -> Option Value} (T : Txt K mg) : E8 K T.d_take ["_law_hand_here"] [] := T.F_take.binds fun _ _ _ _ _ _ us hl => by obtain ⟨_, rfl⟩ := Z6 hl; rfl
theorem A3n {K : A3} {mg : Str -> Option Value} (T : Txt K mg) : E8 K T.d_draw ["_law_hand_here", "_law_many"] [] := T.F_draw.binds fun _ _ _ _ _ _ us hl => by obtain ⟨_, _, rfl⟩ := V3 hl; rfl
theorem C4j {K : A3} {mg : Str -> Option Value} (T : Txt K mg) : E8 K T.d_scale ["_law_hand_here"] [] := T.F_scale.binds fun _ _ _ _ _ _ us hl => by obtain ⟨_, rfl⟩ := Z6 hl; rfl
theorem C4k {K : A3} {mg : Str -> Option Value} (T : Txt K mg) : E8 K T.d_change ["_law_hand_here", "_law_scale_here"] [] := T.F_change.binds fun _ _ _ _ _ _ us hl => by obtain ⟨_, _, rfl⟩ := V3 hl; rfl
theorem C4l {K : A3} {mg : Str -> Option Value} (T : Txt K mg) : E8 K T.d_store ["_law_hand_here", "_law_scale_here"] [] := T.F_store.binds fun _ _ _ _ _ _ us hl => by obtain ⟨_, _, rfl⟩ := V3 hl; rfl
theorem C4m {K : A3} {mg : Str -> Option Value} (T : Txt K mg) : E8 K T.d_land ["_law_hand_here", "_law_places", "_law_ways", "_law_scale_here"] [] := T.F_land.binds fun _ _ _ _ _ _ us hl => by obtain ⟨_, _, _, _, rfl⟩ := A5t hl; rfl
theorem C4n {K : A3} {mg : Str -> Option Value} (T : Txt K mg) : E8 K T.d_table ["_law_hand_here", "_law_many", "_law_store_here"] [] := T.F_table.binds fun _ _ _ _ _ _ us hl => by obtain ⟨_, _, _, rfl⟩ := X9 hl; rfl
theorem C4o {K : A3} {mg : Str -> Option Value} (T : Txt K mg) : E8 K T.d_springs ["_law_hand_here", "_law_many", "_law_store_here", "_law_most"] [] := T.F_springs.binds fun _ _ _ _ _ _ us hl => by obtain ⟨_, _, _, _, rfl⟩ := A5t hl; rfl
theorem C4p {K : A3} {mg : Str -> Option Value} (T : Txt K mg) : E8 K T.d_spring_case ["_law_hand_here"] [] := T.F_spring_case.binds fun _ _ _ _ _ _ us hl => by obtain ⟨_, rfl⟩ := Z6 hl; rfl
theorem C4q {K : A3} {mg : Str -> Option Value} (T : Txt K mg) : E8 K T.d_effect ["_law_store_here", "_law_changes"] [] := T.F_effect.binds fun _ _ _ _ _ _ us hl => by obtain ⟨_, _, rfl⟩ := V3 hl; rfl
theorem C4r {K : A3} {mg : Str -> Option Value} (T : Txt K mg) : E8 K T.d_times ["_law_effect_here", "_law_times_here", "_law_level"] [] := T.F_times.binds fun _ _ _ _ _ _ us hl => by obtain ⟨_, _, _, rfl⟩ := X9 hl; rfl
theorem C4s {K : A3} {mg : Str -> Option Value} (T : Txt K mg) : E8 K T.d_arrive ["_law_land_here", "_law_store_here", "_law_place", "_law_level", "_law_trip"] [] := T.F_arrive.binds fun _ _ _ _ _ _ us hl => by obtain ⟨_, _, _, _, _, rfl⟩ := A9z hl; rfl
theorem C4t {K : A3} {mg : Str -> Option Value} (T : Txt K mg) : E8 K T.d_arrive_by ["_law_land_here", "_law_store_here", "_law_springs_here", "_law_place", "_law_level", "_law_trip"] [] := T.F_arrive_by.binds fun _ _ _ _ _ _ us hl => by obtain ⟨_, _, _, _, _, _, rfl⟩ := B2m hl; rfl
theorem B2q {K : A3} {mg : Str -> Option Value} (T : Txt K mg) : E8 K T.d_law_is_whole ["_law_thing"] [] := T.F_law_is_whole.binds fun _ _ _ _ _ _ us hl => by obtain ⟨_, rfl⟩ := Z6 hl; rfl
theorem C4u {K : A3} {mg : Str -> Option Value} (T : Txt K mg) : E8 K T.d_good ["_law_case", "_law_found", "_law_some", "_law_place", "_law_level"] [] := T.F_good.binds fun _ _ _ _ _ _ us hl => by obtain ⟨_, _, _, _, _, rfl⟩ := A9z hl; rfl
theorem C4v {K : A3} {mg : Str -> Option Value} (T : Txt K mg) : E8 K T.d_asked ["_law_hand_here", "_law_case"] [] := T.F_asked.binds fun _ _ _ _ _ _ us hl => by obtain ⟨_, _, rfl⟩ := V3 hl; rfl
theorem C8m {K : A3} {mg : Str -> Option Value} (T : Txt K mg) : E8 K T.d_law ["_law_script"] [] := T.F_law.binds fun _ _ _ _ _ _ us hl => by obtain ⟨_, rfl⟩ := Z6 hl; rfl
section
variable {P : Program} {w : World} {K : A3} {mg : Str -> Option Value} {base : Heap}
theorem C4w (T : Txt K mg) : D4 P w K mg base CX0 1 T.a_hand T.d_hand ["_law_script"] (B44 K) := by
 refine T.F_hand.ok C3n (fun vs H Q E h => ?_) (fun cdv A outer s H vs Q E hr h => ?_)
 ·obtain ⟨a, ns, rfl, _⟩ := h
  rfl
 ·obtain ⟨a, ns, rfl, hS, k⟩ := h
  refine ⟨_, (S3 (v7 (B05 (A9 (b9 A12 rfl T.n_list X4 (A9 (B07 B08 (pv 0) B4d (B4e D7)) D3 B3) (he := B3) (hpl := A4)) (A9 D7 (A9 D7 (A9 D7 (A9 D7 (A9 D7 D3 G4) G4) G4) G4) G4) J5)))), ?_⟩
  refine ⟨_, rfl, _, rfl, a, _, rfl, hS, fun p1 h1 => ⟨p1, _, rfl, .inl (SqL.of J1), fun l hl => ⟨(by show 6 <= sizeLine; decide), fun p hp => ?_⟩⟩⟩
  have n1 : p ≠ p1 := (M3 (H := upd (upd H p1 _) l _) (by rw [B9 (M3 J1 hl)]; exact J1) hp).symm
  have n2 : p ≠ l := (M3 (H := upd (upd H p1 _) l _) J1 hp).symm
  have hp0 : H p = none := by rw [B9 n2, B9 n1] at hp; exact hp
  have hl0 : H l = none := by
   have nl : l ≠ p1 := (M3 J1 hl).symm
   rw [B9 nl] at hl; exact hl
  refine k p l _ hp0 hl0 ⟨(ns.drop (HT.sIx (ns.map V.int).length 0 none)).take (HT.sIx (ns.map V.int).length (ns.map V.int).length (some 63) - HT.sIx (ns.map V.int).length 0 none), 0, 0, 0, 20011, 40009, ?_, B0q _, J1⟩ (((Same.refl H).lay h1).lay hl |>.lay hp)
  rw [B9 n2.symm, J1]
  unfold A33
  rw [j5, List.map_drop]
theorem B7e (T : Txt K mg) : D4 P w K mg base CX0 1 T.a_next T.d_next ["_law_hand_here"] B1n := by
 refine T.F_next.ok C3o (fun vs H Q E h => ?_) (fun cdv A outer s H vs Q E hr h => ?_)
 ·obtain ⟨a, l, rfl, _⟩ := h
  rfl
 ·obtain ⟨a, l, rfl, ⟨ns, p, b, c, u, v, hl, hp, ha⟩, k⟩ := h
  have ne := A87 hl ha
  refine ⟨_, (K5 (Q5 (M4 j9 (M4 X1 (J0 T9 (pv 0) D7 (fun _ _ => rfl)) D7) D7) (Y6 (pv 0) D7 W4))
   (K5 (Q5 (M4 j9 (M4 X1 (J0 T9 (pv 0) D7 (fun _ _ => rfl)) D7) D7) (Y6 (pv 0) D7 W4))
   (S3 (v7 (M4 L8 (J0 T9 (pv 0) D7 (fun _ _ => rfl)) (J0 T9 (pv 0) D7 (fun _ _ => rfl))))))), ?_⟩
  refine ⟨_, rfl, a, _, _, _, rfl, rfl, SqL.of ha, rfl, _, _, rfl, rfl, .inr ⟨by decide, by decide⟩, _, _, rfl, rfl, (by first | decide | (dsimp only; decide)), _, rfl, a, _, _, _, rfl, rfl, ha, rfl, ?_⟩
  refine ⟨_, rfl, a, _, _, _, rfl, rfl, SqL.of J1, rfl, _, _, rfl, rfl, .inr ⟨by decide, by decide⟩, _, _, rfl, rfl, (by first | decide | (dsimp only; decide)), _, rfl, a, _, _, _, rfl, rfl, J1, rfl, ?_⟩
  refine ⟨_, rfl, a, _, _, _, rfl, rfl, SqL.of J1, rfl, _, rfl, a, _, _, _, rfl, rfl, SqL.of J1, rfl, _, _, rfl, rfl, ?_⟩
  exact k _ _ ⟨ns, p, b, c, _, _, by rw [B9 ne, B9 ne]; exact hl, hp, J1⟩ fun b o e nb => by rw [B9 nb, B9 nb]; exact e
theorem C4x (T : Txt K mg) : D4 P w K mg base CX0 2 T.a_take T.d_take ["_law_hand_here"] B45 := by
 have G_next : D4 P w K mg base CX0 1 T.a_next T.d_next ["_law_hand_here"] B1n := B7e T
 have b_next := B7d T
 refine T.F_take.ok B2o (fun vs H Q E h => ?_) (fun cdv A outer s H vs Q E hr h => ?_)
 ·obtain ⟨a, l, rfl, _⟩ := h
  rfl
 ·obtain ⟨a, l, rfl, ⟨ns, p, b, c, u, v, hl, hp, ha⟩, k⟩ := h
  have ne := A87 hl ha
  refine ⟨_, (K5 (C1 (i := 1) B2o.nd rfl (A8 rfl) D7)
   (K5 (A7l (A30 (b7 T0 (J0 T9 (pv 0) D7 (fun _ _ => rfl)) (J6 U0 rfl T.n_len U2 (A9 (J0 T9 (pv 0) D7 (fun _ _ => rfl)) D3 B3) (he := B3) (hpl := A4)) (D5 _))
   (S3 (C1 (i := 1) B2o.nd rfl (A8 rfl) (J6 B90 rfl T.n_abs C0y (A9 (J0 T9 (J0 T9 (pv 0) D7 (fun _ _ => rfl)) (J0 T9 (pv 0) D7 (fun _ _ => rfl)) (fun _ _ => rfl)) D3 B3) (he := B3) (hpl := A4))))
   A43))
   (K5 (B3y (pv 0) D7 B4v D7 B3z W4)
   (K5 (A7l (A30 (b7 B35 (pv 1) (M4 m5 D7 D7) (D5 _))
   (S3 (Q5 (pv 1) (Y6 (pv 0) D7 W4)))
   (S3 (Q5 D7 (Y6 (pv 0) D7 W4)))))
   (K5 (Q5 (M4 L8 (M4 j9 (M4 L8 (J0 T9 (pv 0) D7 (fun _ _ => rfl)) (M4 j9 (pv 1) D7)) D7) D7) (Y6 (pv 0) D7 W4))
   (K5 (Q5 (M4 L8 (M4 j9 (M4 L8 (M4 X1 (J0 T9 (pv 0) D7 (fun _ _ => rfl)) D7) (M4 j9 (pv 1) D7)) D7) D7) (Y6 (pv 0) D7 W4))
   (K5 (X0 (B7 G_next (hr.mono (by decide)) rfl T.mg_next T.kp_next b_next .nil B8 (A9 (pv 0) D3 A0) (he := A0) (hpl := A4)))
   (S3 (X0 (B7 G_next (hr.mono (by decide)) rfl T.mg_next T.kp_next b_next .nil B8 (A9 (pv 0) D3 A0) (he := A0) (hpl := A4))))))))))), ?_⟩
  refine ⟨fun σ H1 => H = H1 /\ ∃ z : Int, σ = [some (.ref a), some (.int z)], ?_, ?_⟩
  ·refine ⟨_, rfl, a, _, _, _, rfl, rfl, SqL.of ha, rfl, _, rfl, a, _, _, _, rfl, rfl, SqL.of ha, rfl, l, _, rfl, .inl (SqL.of hl), _, _, rfl, rfl, _, rfl, ?_⟩
   refine A5a (fun hlt => ?_) (fun _ => ⟨rfl, _, rfl⟩)
   have hlt' : p < (ns.length : Int) := by simpa using hlt
   obtain ⟨z, hz⟩ := C1b hp hlt'
   exact ⟨_, rfl, a, _, _, _, rfl, rfl, SqL.of ha, rfl, _, rfl, a, _, _, _, rfl, rfl, SqL.of ha, rfl, l, _, _, _, rfl, rfl, SqL.of hl, hz, _, rfl, rfl, _, rfl⟩
  ·rintro σ H1 ⟨rfl, z, rfl⟩
   refine ⟨_, rfl, a, _, _, _, rfl, rfl, (by first | decide | (dsimp only; decide)), SqL.of ha, rfl, _, _, rfl, rfl, a, _, _, _, rfl, rfl, ha, rfl, ?_⟩
   refine ⟨fun σ H1 => σ = [some (.ref a), some (.int z)] /\ Hd H1 a l /\ Kp a H H1, ?_, ?_⟩
   ·refine ⟨_, rfl, _, _, rfl, rfl, ⟨by decide, by decide, by decide⟩, _, _, rfl, rfl, _, rfl, ?_⟩
    refine A5a (fun _ => ?_) (fun _ => ?_)
    ·refine ⟨_, rfl, _, rfl, a, _, _, _, rfl, rfl, J1, rfl, rfl, ⟨ns, p + 1, _, _, _, _, by rw [B9 ne, B9 ne]; exact hl, by omega, J1⟩, fun b o e nb => by rw [B9 nb, B9 nb]; exact e⟩
    ·refine ⟨_, rfl, a, _, _, _, rfl, rfl, J1, rfl, rfl, ⟨ns, p + 1, _, _, _, _, by rw [B9 ne, B9 ne]; exact hl, by omega, J1⟩, fun b o e nb => by rw [B9 nb, B9 nb]; exact e⟩
   ·rintro σ H1 ⟨rfl, ⟨ns, p, b, c, u, v, hl, hp, ha⟩, k1⟩
    have ne := A87 hl ha
    refine ⟨_, rfl, a, _, _, _, rfl, rfl, SqL.of ha, rfl, _, rfl, _, _, rfl, rfl, (by first | decide | (dsimp only; decide)), _, _, rfl, rfl, _, _, rfl, rfl, (by first | decide | (dsimp only; decide)), _, _, rfl, rfl, _, rfl, a, _, _, _, rfl, rfl, ha, rfl, ?_⟩
    refine ⟨_, rfl, a, _, _, _, rfl, rfl, SqL.of J1, rfl, _, _, rfl, rfl, .inr ⟨by decide, by decide⟩, _, rfl, _, _, rfl, rfl, (by first | decide | (dsimp only; decide)), _, _, rfl, rfl, _, _, rfl, rfl, (by first | decide | (dsimp only; decide)), _, _, rfl, rfl, _, rfl, a, _, _, _, rfl, rfl, J1, rfl, ?_⟩
    refine ⟨_, rfl, a, l, rfl, ⟨ns, p, _, _, _, _, by rw [B9 ne, B9 ne]; exact hl, hp, J1⟩, fun r H2 h2 k2 => ?_⟩
    refine ⟨_, rfl, a, l, rfl, h2, fun r H3 h3 k3 => ?_⟩
    exact k H3 h3 (((k1.trans fun b o e nb => by rw [B9 nb, B9 nb]; exact e).trans k2).trans k3)
theorem C4y (T : Txt K mg) : D4 P w K mg base CX0 3 T.a_draw T.d_draw ["_law_hand_here", "_law_many"] C1c := by
 have G_next : D4 P w K mg base CX0 1 T.a_next T.d_next ["_law_hand_here"] B1n := B7e T
 have G_take : D4 P w K mg base CX0 2 T.a_take T.d_take ["_law_hand_here"] B45 := C4x T
 have b_next := B7d T
 have b_take := C4i T
 refine T.F_draw.ok A64 (fun vs H Q E h => ?_) (fun cdv A outer s H vs Q E hr h => ?_)
 ·obtain ⟨a, l, m, rfl, _⟩ := h
  rfl
 ·obtain ⟨a, l, m, rfl, hd, hm0, hm1, k⟩ := h
  refine ⟨_, (K5 (A7l (A30 (PW.pt (B3r (b7 B34 (J0 T9 (pv 0) D7 (fun _ _ => rfl)) D7 (D5 _)) (B3q (b7 B34 (J0 T9 (pv 0) D7 (fun _ _ => rfl)) D7 (D5 _)))))
   (S3 (X0 (B7 G_take (hr.mono (by decide)) rfl T.mg_take T.kp_take b_take .nil B8 (A9 (pv 0) D3 A0) (he := A0) (hpl := A4))))
   A43))
   (K5 (A7l (A30 (b7 b6 (J0 T9 (pv 0) D7 (fun _ _ => rfl)) D7 (D5 _))
   (K5 (C1 (i := 2) A64.nd rfl (A8 rfl) (M4 j9 (J0 T9 (pv 0) D7 (fun _ _ => rfl)) (pv 1)))
   (K5 (Q5 (M4 B1h (J0 T9 (pv 0) D7 (fun _ _ => rfl)) (pv 1)) (Y6 (pv 0) D7 W4))
   (S3 (v7 (pv 2)))))
   A43))
   (K5 (B3y (pv 0) D7 B4v D7 B9k W4)
   (K5 (C1 (i := 3) A64.nd rfl (A8 rfl) (B7 G_next (hr.mono (by decide)) rfl T.mg_next T.kp_next b_next .nil B8 (A9 (pv 0) D3 A0) (he := A0) (hpl := A4)))
   (K5 (C1 (i := 4) A64.nd rfl (A8 rfl) D7)
   (K5 (A7g Q3 (b7 T0 (pv 4) (pv 1) (D5 _))
   (K5 (C1 (i := 3) A64.nd rfl (A8 rfl) (M4 L8 (M4 X1 (pv 3) D7) (B7 G_next (hr.mono (by decide)) rfl T.mg_next T.kp_next b_next .nil B8 (A9 (pv 0) D3 A0) (he := A0) (hpl := A4))))
   (S3 (C1 (i := 4) A64.nd rfl (A8 rfl) (M4 X1 (pv 4) D7)))))
   (S3 (v7 (M4 j9 (pv 3) (pv 1)))))))))), ?_⟩
  refine ⟨fun σ H1 => σ = [some (.ref a), some (.int m), none, none, none] /\ Hd H1 a l /\ Kp a H H1, ?_, ?_⟩
  ·obtain ⟨ns, p, b, c, u, v, hl, hp, ha⟩ := id hd
   refine ⟨_, rfl, a, _, _, _, rfl, rfl, SqL.of ha, rfl, rfl, _, rfl, ?_⟩
   refine A5a (fun _ => ?_) (fun _ => G9 ⟨rfl, hd, .refl a H⟩)
   refine ⟨_, rfl, a, _, _, _, rfl, rfl, SqL.of ha, rfl, rfl, _, rfl, ?_⟩
   refine A5a (fun _ => ?_) (fun _ => ⟨rfl, hd, .refl a H⟩)
   exact ⟨_, rfl, a, l, rfl, hd, fun H1 h1 k1 => ⟨rfl, h1, k1⟩⟩
  ·rintro σ H1 ⟨rfl, ⟨ns, p, b, c, u, v, hl, hp, ha⟩, k1⟩
   have ne := A87 hl ha
   refine ⟨fun σ H2 => H1 = H2 /\ σ = [some (.ref a), some (.int m), none, none, none], ?_, ?_⟩
   ·refine ⟨_, rfl, a, _, _, _, rfl, rfl, SqL.of ha, rfl, _, _, rfl, rfl, _, rfl, ?_⟩
    refine A5a (fun _ => ?_) (fun _ => ⟨rfl, rfl⟩)
    refine ⟨_, rfl, a, _, _, _, rfl, rfl, SqL.of ha, rfl, _, rfl, _, _, rfl, rfl, hm0, ?_⟩
    refine ⟨_, rfl, a, _, _, _, rfl, rfl, SqL.of ha, rfl, _, rfl, _, _, rfl, rfl, ⟨hm0, hm1⟩, _, rfl, a, _, _, _, rfl, rfl, ha, rfl, ?_⟩
    refine ⟨_, rfl, ?_⟩
    exact k _ _ (A8p _ (by omega)) (B3i _ hm0) ⟨ns, p, _, _, _, _, by rw [B9 ne]; exact hl, hp, J1⟩ (k1.trans fun b o e nb => by rw [B9 nb]; exact e)
   ·rintro σ H2 ⟨rfl, rfl⟩
    refine ⟨_, rfl, a, _, _, _, rfl, rfl, (by first | decide | (dsimp only; decide)), SqL.of ha, rfl, _, _, rfl, rfl, a, _, _, _, rfl, rfl, ha, rfl, ?_⟩
    refine ⟨_, rfl, a, l, rfl, ⟨ns, p, _, _, _, _, by rw [B9 ne]; exact hl, hp, J1⟩, fun r H3 h3 k3 => ?_⟩
    have k3' : Kp a H H3 := (k1.trans fun b o e nb => by rw [B9 nb]; exact e).trans k3
    refine B9q (fun σ H4 => ∃ (val sz : Int), σ = [some (.ref a), some (.int m), none, some (.int val), some (.int sz)] /\ Hd H4 a l /\ Kp a H H4 /\ 0 < sz)
     (fun σ _ => match σ with | [_, _, _, _, some (.int sz)] => (m - sz).toNat | _ => 0) ⟨r, 4294967296, rfl, h3, k3', by decide⟩ ?_ (fun σ H Q Q' f ⟨v, e1, u, e2, i, j, e3, e4, c, e5, q⟩ => ⟨v, e1, u, e2, i, j, e3, e4, c, e5, f _ _ q⟩)
    rintro σ H4 ⟨val, sz, rfl, h4, k4, hsz⟩
    refine ⟨_, rfl, _, rfl, _, _, rfl, rfl, _, rfl, ?_⟩
    refine A5a (fun hlt => ?_) (fun _ => ?_)
    ·have hlt' : sz < m := by simpa using hlt
     refine ⟨_, rfl, _, _, rfl, rfl, .inr ⟨by decide, by decide⟩, _, rfl, a, l, rfl, h4, fun r H5 h5 k5 => ⟨_, _, rfl, rfl, ?_⟩⟩
     refine ⟨_, rfl, _, _, rfl, rfl, .inr ⟨by decide, by decide⟩, ?_⟩
     refine ⟨⟨_, sz * 4294967296, rfl, h5, k4.trans k5, by omega⟩, ?_⟩
     show (m - sz * 4294967296).toNat < (m - sz).toNat
     omega
    ·refine ⟨_, rfl, _, rfl, _, _, rfl, rfl, hm0, ?_⟩
     exact k _ _ (A8p _ (by omega)) (B3i _ hm0) h4 k4
end
local macro_rules | `(tactic| left) => `(tactic| try dsimp only [A04, N7, A08, n5, dOp, m7, A07, dT, A06, A2d, dCb, A0l, A0k, dC, dF, A0n, A0m, z4, x9, y4, dOr, y7, y8, y9, dBV, dIf, d8, dIx, A0p, A0q, A0t, A0u, A0v, dSl, A0w, A0x, A0y, A00, A02, A01, aV, aS, O5, arD, e9, N6, A2t, ixD, lenD, M0, Z1, gI, gI0, A0b, A0c, A0d, A0e, A0f, A0g, gLt, gLe, gGt, gGe, gEq, Z0, isN, m9, A0r, A0s, gI2, A16, n4, A17, A18, A05, A1c, n6, A09, A1a, gN, gT2, gT3, gT5, A2v, n8, A2w, A2x, A2y, A2z, A20, g5, A2u, A1b, gIn, gB2, oN, oS, W7, V2, A2h, A2i, A2j, A2k, A2l, A2m, U3, tyD, A4t, A4u, A4v, A3t, A4w, A4x, M2, A3x, A4y, A4z, A1x, W3, A2n, A2o, A2p, A2q, A2r, A2s, A40, A41, o9, p5, A1l, W8, arF, A1m, A3g, A3h, A3f, A3i, A3j, A3k, p6, p7, gL2, A1g, g3, A1h, A1i, N2, A1j, A24, o7, A25, A27, A3d, M8, A28, X8, A29, A3a, A3b, aW, A3c, A3e, o8, arS, A1e, A1f, n9])
local macro_rules | `(tactic| array_get_dec) => `(tactic| try dsimp only [A9l, dIl, dIv, dIt, A7v, A9j, A7w, A9o, dIL, A74, A76, A75, A9u, A04, N7, A08, n5, dOp, m7, A07, dT, A06, A2d, dCb, A0l, A0k, dC, dF, A0n, A0m, z4, x9, y4, dOr, y7, y8, y9, dBV, dIf, d8, dIx, A0p, A0q, A0t, A0u, A0v, dSl, A0w, A0x, A0y, A00, A02, A01, aV, aS, O5, arD, e9, N6, A2t, ixD, lenD, M0, Z1, gI, gI0, A0b, A0c, A0d, A0e, A0f, A0g, gLt, gLe, gGt, gGe, gEq, Z0, isN, m9, A0r, A0s, gI2, A16, n4, A17, A18, A05, A1c, n6, A09, A1a, gN, gT2, gT3, gT5, A2v, n8, A2w, A2x, A2y, A2z, A20, g5, A2u, A1b, gIn, gB2, oN, oS, W7, V2, A2h, A2i, A2j, A2k, A2l, A2m, U3, tyD, A4t, A4u, A4v, A3t, A4w, A4x, M2, A3x, A4y, A4z, A1x, W3, A2n, A2o, A2p, A2q, A2r, A2s, A40, A41, o9, p5, A1l, W8, arF, A1m, A3g, A3h, A3f, A3i, A3j, A3k, p6, p7, gL2, A1g, g3, A1h, A1i, N2, A1j, A24, o7, A25, A27, A3d, M8, A28, X8, A29, A3a, A3b, aW, A3c, A3e, o8, arS, A1e, A1f, n9])
local macro_rules | `(tactic| sizeOf_list_dec) => `(tactic| try dsimp only [Blk, A04, N7, A08, n5, dOp, m7, A07, dT, A06, A2d, dCb, A0l, A0k, dC, dF, A0n, A0m, z4, x9, y4, dOr, y7, y8, y9, dBV, dIf, d8, dIx, A0p, A0q, A0t, A0u, A0v, dSl, A0w, A0x, A0y, A00, A02, A01, aV, aS, O5, arD, e9, N6, A2t, ixD, lenD, M0, Z1, gI, gI0, A0b, A0c, A0d, A0e, A0f, A0g, gLt, gLe, gGt, gGe, gEq, Z0, isN, m9, A0r, A0s, gI2, A16, n4, A17, A18, A05, A1c, n6, A09, A1a, gN, gT2, gT3, gT5, A2v, n8, A2w, A2x, A2y, A2z, A20, g5, A2u, A1b, gIn, gB2, oN, oS, W7, V2, A2h, A2i, A2j, A2k, A2l, A2m, U3, tyD, A4t, A4u, A4v, A3t, A4w, A4x, M2, A3x, A4y, A4z, A1x, W3, A2n, A2o, A2p, A2q, A2r, A2s, A40, A41, o9, p5, A1l, W8, arF, A1m, A3g, A3h, A3f, A3i, A3j, A3k, p6, p7, gL2, A1g, g3, A1h, A1i, N2, A1j, A24, o7, A25, A27, A3d, M8, A28, X8, A29, A3a, A3b, aW, A3c, A3e, o8, arS, A1e, A1f, n9])
theorem O1 {k : Nat} {A : Around} (hr : Q6 k A) : A.units + 64 < cLine := hr.units
def C4z : DSp := fun ds Q => ∃ m : Int, ds = [.none, .int m] /\ 0 < m /\ m < 100000000000000000000000000000000000000000000000000000000000000 /\ ∀ r : Int, 0 <= r -> r < m -> Q (.int r)
theorem C40 {F : Addr -> Prop} {hand : Option (Addr × Addr)} {H : Hp} {vs : List V} {ds : List PyData} {ms : List Md} (a : X7 F hand H (.hd :: ms) vs ds) : ∃ q vs' d ds', hand = some q /\ vs = .ref q.1 :: vs' /\ ds = d :: ds' /\ X7 F hand H ms vs' ds' := by
 cases a with
 | cons x t =>
  obtain ⟨q, e, rfl⟩ := x
  exact ⟨q, _, _, _, e, rfl, rfl, t⟩
section
variable {P : Program} {w : World} {K : A3} {mg : Str -> Option Value} {base : Heap}
theorem A3o (T : Txt K mg) : D4 P w K mg base CX0 3 T.a_draw T.d_draw ["_law_hand_here", "_law_many"] (spD [.hd, .sh] C4z) := (C4y T).imp fun vs H Q E h => by
 obtain ⟨F, hand, ds, Qd, h1, h2, h3, a, ⟨m, rfl, m0, m1, hr⟩, h5⟩ := h
 obtain ⟨q, vs', d, ds', e, rfl, e2, a⟩ := C40 a
 cases e2
 subst e
 cases a with
 | cons x t =>
  cases t
  cases (show ThV F H _ (.int m) from x)
  exact ⟨q.1, q.2, m, rfl, h3 q rfl, m0, m1, fun r H' r0 r1 hd kp => h5 _ _ _ (hr r r0 r1) (.int r) (fun b o eb n => kp b o eb (n q rfl)) fun q' e' => by cases e'; exact hd⟩
end
def oD : Option Int -> PyData
 | none => .none
 | some i => .int i
def onD : Option Nat -> PyData
 | none => .none
 | some n => .int (n : Nat)
def L3 (ns : List Int) : List PyData := ns.map PyData.int
def C4 (t : Tb) : List PyData := t.map oD
def rnL (t : Rn) : List PyData := t.map onD
def O2 (r : Rw) : PyData := .tuple [.list (C4 r.1), .list (rnL r.2)]
def L7 (w : Wy) : PyData := .tuple [.int (w.1 : Nat), .int (w.2.1 : Nat), .int w.2.2]
def C7 (m : Nat) (ws : List Wy) : PyData := .tuple [.int (m : Nat), .list (ws.map L7)]
def V9 : Ef -> PyData
 | none => .none
 | some (l, g, t) => .tuple [.int l, .int g, .int t]
def G5 (ns : List Nat) : List PyData := ns.map fun n => .int (n : Nat)
def G1 (p : List Nat × Int) : PyData := .tuple [.list (G5 p.1), .int p.2]
local macro_rules | `(tactic| right) => `(tactic| try dsimp only [A04, N7, A08, n5, dOp, m7, A07, dT, A06, A2d, dCb, A0l, A0k, dC, dF, A0n, A0m, z4, x9, y4, dOr, y7, y8, y9, dBV, dIf, d8, dIx, A0p, A0q, A0t, A0u, A0v, dSl, A0w, A0x, A0y, A00, A02, A01, aV, aS, O5, arD, e9, N6, A2t, ixD, lenD, M0, Z1, gI, gI0, A0b, A0c, A0d, A0e, A0f, A0g, gLt, gLe, gGt, gGe, gEq, Z0, isN, m9, A0r, A0s, gI2, A16, n4, A17, A18, A05, A1c, n6, A09, A1a, gN, gT2, gT3, gT5, A2v, n8, A2w, A2x, A2y, A2z, A20, g5, A2u, A1b, gIn, gB2, oN, oS, W7, V2, A2h, A2i, A2j, A2k, A2l, A2m, U3, tyD, A4t, A4u, A4v, A3t, A4w, A4x, M2, A3x, A4y, A4z, A1x, W3, A2n, A2o, A2p, A2q, A2r, A2s, A40, A41, o9, p5, A1l, W8, arF, A1m, A3g, A3h, A3f, A3i, A3j, A3k, p6, p7, gL2, A1g, g3, A1h, A1i, N2, A1j, A24, o7, A25, A27, A3d, M8, A28, X8, A29, A3a, A3b, aW, A3c, A3e, o8, arS, A1e, A1f, n9, oD, onD, V9, O2, C7, L7, G1])
local macro_rules | `(tactic| array_mem_dec) => `(tactic| try dsimp only [A9l, dIl, dIv, dIt, A7v, A9j, A7w, A9o, dIL, A74, A76, A75, A9u, A04, N7, A08, n5, dOp, m7, A07, dT, A06, A2d, dCb, A0l, A0k, dC, dF, A0n, A0m, z4, x9, y4, dOr, y7, y8, y9, dBV, dIf, d8, dIx, A0p, A0q, A0t, A0u, A0v, dSl, A0w, A0x, A0y, A00, A02, A01, aV, aS, O5, arD, e9, N6, A2t, ixD, lenD, M0, Z1, gI, gI0, A0b, A0c, A0d, A0e, A0f, A0g, gLt, gLe, gGt, gGe, gEq, Z0, isN, m9, A0r, A0s, gI2, A16, n4, A17, A18, A05, A1c, n6, A09, A1a, gN, gT2, gT3, gT5, A2v, n8, A2w, A2x, A2y, A2z, A20, g5, A2u, A1b, gIn, gB2, oN, oS, W7, V2, A2h, A2i, A2j, A2k, A2l, A2m, U3, tyD, A4t, A4u, A4v, A3t, A4w, A4x, M2, A3x, A4y, A4z, A1x, W3, A2n, A2o, A2p, A2q, A2r, A2s, A40, A41, o9, p5, A1l, W8, arF, A1m, A3g, A3h, A3f, A3i, A3j, A3k, p6, p7, gL2, A1g, g3, A1h, A1i, N2, A1j, A24, o7, A25, A27, A3d, M8, A28, X8, A29, A3a, A3b, aW, A3c, A3e, o8, arS, A1e, A1f, n9, oD, onD, V9, O2, C7, L7, G1])
local macro_rules | `(tactic| decreasing_trivial_pre_omega) => `(tactic| try dsimp only [Blk, A04, N7, A08, n5, dOp, m7, A07, dT, A06, A2d, dCb, A0l, A0k, dC, dF, A0n, A0m, z4, x9, y4, dOr, y7, y8, y9, dBV, dIf, d8, dIx, A0p, A0q, A0t, A0u, A0v, dSl, A0w, A0x, A0y, A00, A02, A01, aV, aS, O5, arD, e9, N6, A2t, ixD, lenD, M0, Z1, gI, gI0, A0b, A0c, A0d, A0e, A0f, A0g, gLt, gLe, gGt, gGe, gEq, Z0, isN, m9, A0r, A0s, gI2, A16, n4, A17, A18, A05, A1c, n6, A09, A1a, gN, gT2, gT3, gT5, A2v, n8, A2w, A2x, A2y, A2z, A20, g5, A2u, A1b, gIn, gB2, oN, oS, W7, V2, A2h, A2i, A2j, A2k, A2l, A2m, U3, tyD, A4t, A4u, A4v, A3t, A4w, A4x, M2, A3x, A4y, A4z, A1x, W3, A2n, A2o, A2p, A2q, A2r, A2s, A40, A41, o9, p5, A1l, W8, arF, A1m, A3g, A3h, A3f, A3i, A3j, A3k, p6, p7, gL2, A1g, g3, A1h, A1i, N2, A1j, A24, o7, A25, A27, A3d, M8, A28, X8, A29, A3a, A3b, aW, A3c, A3e, o8, arS, A1e, A1f, n9, oD, onD, V9, O2, C7, L7, G1])
theorem Z7 {t : Tb} {p : Nat} (h : p < t.length) : atI (C4 t) ((p : Nat) : Int) = some (oD (gt t p)) := Y8 (by unfold C4; rw [R8, A9r h]; rfl)
theorem B7f {t : Rn} {p : Nat} (h : p < t.length) : atI (rnL t) ((p : Nat) : Int) = some (onD (gt t p)) := Y8 (by unfold rnL; rw [R8, A9r h]; rfl)
theorem A4m {ws : List Wy} {n : Nat} {w : Wy} (h : ws[n]? = some w) : atI (ws.map L7) ((n : Nat) : Int) = some (L7 w) := Y8 (by rw [R8, h]; rfl)
theorem A8b {n j : Nat} (h : j < n) : ixN n ((j : Nat) : Int) = some j := by
 unfold ixN
 rw [if_pos (by omega), if_pos (by omega)]
 simp
theorem C8n (o : Option Int) : isN (oD o) = o.isNone := by cases o <;> rfl
theorem C8o (o : Option Nat) : isN (onD o) = o.isNone := by cases o <;> rfl
theorem A8c {α : Type} {xs : List α} {x : α} (h : xs.getLast? = some x) : atI xs (-1) = some x := by
 obtain ⟨ys, rfl⟩ := List.getLast?_eq_some_iff.mp h
 exact B4g ys x
def C41 : DSp := fun ds Q => ∃ st lv ch : Int, ds = [.int st, .int lv, .int ch] /\ Q (oD (K4 st lv ch))
def C42 : DSp := fun ds Q => ∃ (st lv : Int) (cs : List Int), ds = [.int st, .int lv, .list (L3 cs)] /\ cs.length <= 900 /\ Q (.list (L3 (M7 st lv cs)))
def C43 : DSp := fun ds Q => ∃ st : Int, ds = [.int st] /\ Q (V9 (some (0, 0, st)))
def C44 : DSp := fun ds Q => ∃ st c : Int, ds = [.int st, .int c] /\ Q (V9 (U4 st c))
def C45 : DSp := fun ds Q => ∃ (e : Ef) (x : Int), ds = [V9 e, .int x] /\ Q (oD (L4 e x))
def C46 : DSp := fun ds Q => ∃ a b : Ef, ds = [V9 a, V9 b] /\ Q (V9 (Q9 a b))
def C47 : DSp := fun ds Q => ∃ (st : Int) (cs : List Int), ds = [.int st, .list (L3 cs)] /\ Q (V9 (fxF st cs))
def p9 (d : PyData) : Bool := U3 "int" d && !U3 "bool" d
def B2r : DSp := fun ds Q => ∃ d, ds = [d] /\ Q (.bool (p9 d))
def C48 : DSp := fun ds Q => ∃ (m : Int) (n : Int), ds = [.int m, .int n] /\ Q (.bool (decide (0 <= n /\ n < m)))
def C49 : DSp := fun ds Q => ∃ a b : Option Int, ds = [oD a, oD b] /\ Q (.bool (S6 a b))
def C5a : DSp := fun ds Q => ∃ (st : Int) (t : Tb) (w : Wy), ds = [.int st, .list (C4 t), L7 w] /\ w.1 < t.length /\ Q (oD (M5 st t w))
section
variable {P : Program} {w : World} {K : A3} {mg : Str -> Option Value} {base : Heap}
theorem B2s (T : Txt K mg) : D4 P w K mg base CX0 1 T.a_stepped T.d_stepped ["store", "level", "change"] (spD [.sh, .sh, .sh] C41) := by
 refine J3 T.F_stepped B6w rfl (fun C cdv A outer s H E hr => ⟨_, (@F8 _ _ _ _ _ _ (E1 (C1 (i := 3) B6w.nd rfl (A8 rfl) (E3 L8 N4 (A1 (pv 1)) (A1 (pv 2))))) (F8 (K0 (G0 T0 d9 (A1 (pv 3)) A6 (D5 _))
   (B6 (D2 J2))
   K1)
   (B6 (D2 (P6 e8 (J6 (b8 rfl) rfl T.n_min d4 (A7 (A1 (pv 3)) (A7 (A1 (pv 0)) D0 A0) A0) (he := A0) (hpl := (A2 A0 A4)))))))), fun ds Q hl h => ?_⟩)
 obtain ⟨st, lv, ch, rfl, q⟩ := h
 left
 unfold K4 at q
 by_cases c : lv + ch < 0
 ·rw [decide_eq_true c, if_pos rfl]
  rw [if_pos c] at q; exact q
 ·rw [decide_eq_false c, if_neg Q2]
  rw [if_neg c] at q; exact q
theorem C5b (T : Txt K mg) : D4 P w K mg base CX0 1 T.a_is_whole T.d_is_whole ["thing"] (spD [.sh] B2r) := by
 refine J3 T.F_is_whole C29 rfl (fun C cdv A outer s H E hr => ⟨_, (@B6 _ _ _ _ (@D2 _ _ _ _ _ (@A9a _ _ _ _ _ _ _ _ (A0z B5m (J6 d7 rfl T.n_isinstance d5 (A9 (pv 0) (A9 (b5 (v := V.ty "int") rfl T.n_int A7m rfl) D3 A0) A0) (he := A0) (hpl := (A2 A0 A4)))) (A7o (B46 (A0z B5n (J6 d7 rfl T.n_isinstance d5 (A9 (pv 0) (A9 (b5 (v := V.ty "bool") rfl T.n_bool B4w rfl) D3 A0) A0) (he := A0) (hpl := (A2 A0 A4))))))))), fun ds Q hl h => ?_⟩)
 obtain ⟨d, rfl, q⟩ := h
 left
 unfold p9 at q
 cases d <;> exact q
theorem C5c (T : Txt K mg) : D4 P w K mg base CX0 2 T.a_is_place T.d_is_place ["many", "thing"] (spD [.sh, .sh] C48) := by
 have G_is_whole := @C5b P w K mg base T
 have b_is_whole := C3s T
 refine J3 T.F_is_place C3d rfl (fun C cdv A outer s H E hr => ⟨_, (B6 (D2 (A9a (C8 (B7 G_is_whole (hr.mono (by decide)) rfl T.mg_is_whole T.kp_is_whole b_is_whole .nil B8 (A5 (A1 (pv 1)) C5 A0) (he := A0) (hpl := A4))) (A7o (C1h A47 T0 A6 (A1 (pv 1)) (A1 (pv 0))))))), fun ds Q hl h => ?_⟩)
 obtain ⟨m, n, rfl, q⟩ := h
 left
 refine ⟨_, rfl, ?_⟩
 left
 by_cases c : 0 <= n
 ·by_cases c2 : n < m
  ·simpa [c, c2, p9, U3, tyD, B2r] using q
  ·simpa [c, c2, p9, U3, tyD] using q
 ·simpa [c, p9, U3, tyD] using q
theorem B7g (T : Txt K mg) : D4 P w K mg base CX0 1 T.a_is_more T.d_is_more ["one", "other"] (spD [.sh, .sh] C49) := by
 refine J3 T.F_is_more C3f rfl (fun C cdv A outer s H E hr => ⟨_, (B6 (D2 (A9a (m8 A8x B1q (A1 (pv 0)) J2 (D5 _)) (A7o (C1f (m8 T1 V6 (A1 (pv 1)) J2 (D5 _)) (A7o (m8 b6 A0j (A1 (pv 0)) (A1 (pv 1)) (D5 _)))))))), fun ds Q hl h => ?_⟩)
 obtain ⟨a, b, rfl, q⟩ := h
 cases a with
 | none =>
  left
  exact q
 | some x =>
  cases b with
  | none =>
   left
   exact q
  | some y =>
   left
   exact q
theorem C5d (T : Txt K mg) : D4 P w K mg base CX0 2 T.a_behind_way T.d_behind_way ["store", "table", "way"] (spD [.sh, .sh, .sh] C5a) := by
 have G_stepped := @B2s P w K mg base T
 have b_stepped := B2p T
 refine J3 T.F_behind_way B6y rfl (fun C cdv A outer s H E hr => ⟨_, (@F8 _ _ _ _ _ _ (E1 (C1 (i := 3) B6y.nd rfl (A8 rfl) (C2 (pv 1) (C2 (pv 2) (E5 (D8 (v := V.int 0) rfl T.mg_START ⟨_, rfl⟩)) (fun _ _ => rfl)) (fun _ _ => rfl)))) (@F8 _ _ _ _ _ _ (K0 (G0 T1 V6 (A1 (pv 3)) J2 (D5 _))
   (B6 (D2 J2))
   K1) (B6 (D2 (C8 (B7 G_stepped (hr.mono (by decide)) rfl T.mg_stepped T.kp_stepped b_stepped .nil B8 (A5 (A1 (pv 0)) (A5 (A1 (pv 3)) (A5 (C2 (pv 2) (E5 (D8 (v := V.int 2) rfl T.mg_CHANGE ⟨_, rfl⟩)) (fun _ _ => rfl)) C5 B3) A0) A0) (he := A0) (hpl := (A2 A0 (A2 B3 A4))))))))), fun ds Q hl h => ?_⟩)
 obtain ⟨st, t, w, rfl, hw, q⟩ := h
 right
 rw [Z7 hw]
 unfold M5 at q
 cases e : gt t w.1 with
 | none =>
  rw [e] at q
  right
  exact q
 | some l =>
  rw [e] at q
  right
  exact ⟨_, _, _, rfl, q⟩
theorem C5e (T : Txt K mg) : D4 P w K mg base CX0 1 T.a_passed T.d_passed ["effect", "level"] (spD [.sh, .sh] C45) := by
 refine J3 T.F_passed C3c rfl (fun C cdv A outer s H E hr => ⟨_, (@F8 _ _ _ _ _ _ (K0 (PW.pt (S5 (G0 T1 V6 (A1 (pv 0)) J2 (D5 _)) (X5 (G0 T0 d9 (A1 (pv 1)) (C2 (pv 0) (E5 (D8 (v := V.int 0) rfl T.mg_LEAST ⟨_, rfl⟩)) (fun _ _ => rfl)) (D5 _)))))
   (B6 (D2 J2))
   K1) (B6 (D2 (P6 e8 (J6 (b8 rfl) rfl T.n_min d4 (A7 (E3 L8 N4 (A1 (pv 1)) (C2 (pv 0) (E5 (D8 (v := V.int 1) rfl T.mg_GAIN ⟨_, rfl⟩)) (fun _ _ => rfl))) (A7 (C2 (pv 0) (E5 (D8 (v := V.int 2) rfl T.mg_TOP ⟨_, rfl⟩)) (fun _ _ => rfl)) D0 B3) G6) (he := G6) (hpl := (A2 B3 A4))))))), fun ds Q hl h => ?_⟩)
 obtain ⟨e, x, rfl, q⟩ := h
 rcases e with _ | ⟨l, g, t⟩
 ·right
  exact q
 ·unfold L4 at q
  dsimp only at q
  right
  by_cases c : x < l
  ·rw [if_pos c] at q
   simp only [c, decide_true, if_true]
   exact q
  ·rw [if_neg c] at q
   simp only [c, decide_false, A8m, if_false]
   exact q
end
section
variable {P : Program} {w : World} {K : A3} {mg : Str -> Option Value} {base : Heap}
theorem C5f (T : Txt K mg) : D4 P w K mg base CX0 2 T.a_joined T.d_joined ["one", "other"] (spD [.sh, .sh] C46) := by
 have G_passed := @C5e P w K mg base T
 have b_passed := C3x T
 refine J3 T.F_joined B6x rfl (fun C cdv A outer s H E hr => ⟨_, (@F8 _ _ _ _ _ _ (@K0 _ _ _ _ _ _ _ _ _ (PW.pt (S5 (G0 T1 V6 (A1 (pv 0)) J2 (D5 _)) (S5 (G0 T1 V6 (A1 (pv 1)) J2 (D5 _)) (X5 (G0 T0 d9 (C2 (pv 0) (E5 (D8 (v := V.int 2) rfl T.mg_TOP ⟨_, rfl⟩)) (fun _ _ => rfl)) (C2 (pv 1) (E5 (D8 (v := V.int 0) rfl T.mg_LEAST ⟨_, rfl⟩)) (fun _ _ => rfl)) (D5 _)))))) (B6 (D2 J2)) K1) (@F8 _ _ _ _ _ _ (@E1 _ _ _ _ _ (@C1 _ _ 2 _ _ _ _ B6x.nd rfl (A8 rfl) (@P6 _ _ _ _ _ _ B1r (@J6 _ _ _ _ _ _ _ _ _ (B02 rfl) rfl T.n_max B1j (A7 (C2 (pv 0) (E5 (D8 (v := V.int 0) rfl T.mg_LEAST ⟨_, rfl⟩)) (fun _ _ => rfl)) (A7 (E3 j8 A0h (C2 (pv 1) (E5 (D8 (v := V.int 0) rfl T.mg_LEAST ⟨_, rfl⟩)) (fun _ _ => rfl)) (C2 (pv 0) (E5 (D8 (v := V.int 1) rfl T.mg_GAIN ⟨_, rfl⟩)) (fun _ _ => rfl))) D0 G6) B3) (by decide) (by decide) B3 ((A2 G6 A4)))) (by rfl) (by first | exact .inl rfl | exact .inr rfl | assumption))) (@B6 _ _ _ _ (@D2 _ _ _ _ _ (@P5 _ _ _ _ _ _ (@A7 _ _ _ _ _ _ (A1 (pv 2)) (@A7 _ _ _ _ _ _ (E3 L8 N4 (C2 (pv 0) (E5 (D8 (v := V.int 1) rfl T.mg_GAIN ⟨_, rfl⟩)) (fun _ _ => rfl)) (C2 (pv 1) (E5 (D8 (v := V.int 1) rfl T.mg_GAIN ⟨_, rfl⟩)) (fun _ _ => rfl))) (A7 (C8 (B7 G_passed (hr.mono (by decide)) rfl T.mg_passed T.kp_passed b_passed .nil B8 (A5 (A1 (pv 1)) (A5 (C2 (pv 0) (E5 (D8 (v := V.int 2) rfl T.mg_TOP ⟨_, rfl⟩)) (fun _ _ => rfl)) C5 B3) A0) (he := A0) (hpl := (A2 B3 A4)))) D0 J5) G6) A0)))))), fun ds Q hl h => ?_⟩)
 obtain ⟨a, b, rfl, q⟩ := h
 rcases a with _ | ⟨l1, g1, t1⟩
 ·right
  exact q
 ·rcases b with _ | ⟨l2, g2, t2⟩
  ·right
   exact q
  ·right
   by_cases c : t1 < l2
   ·rw [A5o (a := (l1, g1, t1)) (b := (l2, g2, t2)) c] at q
    simp only [c, decide_true, if_true]
    exact q
   ·rw [A39 (a := (l1, g1, t1)) (b := (l2, g2, t2)) c] at q
    simp only [c, decide_false, A8m, if_false]
    refine ⟨some (l2, g2, t2), t1, rfl, ?_⟩
    have e : oD (L4 (some (l2, g2, t2)) t1) = .int (if t2 < t1 + g2 then t2 else t1 + g2) := by
     unfold L4
     dsimp only
     rw [if_neg c]
     rfl
    rw [e]
    left
    simp only [V9] at q
    exact ⟨by decide, q⟩
end
section
variable {P : Program} {w : World} {K : A3} {mg : Str -> Option Value} {base : Heap}
theorem C5g (T : Txt K mg) : D4 P w K mg base CX0 1 T.a_effect_of_none T.d_effect_of_none ["store"] (spD [.sh] C43) := by
 refine J3 T.F_effect_of_none C3a rfl (fun C cdv A outer s H E hr => ⟨_, (B6 (D2 (P5 (A7 A6 (A7 A6 (A7 (A1 (pv 0)) D0 A0) G4) G4)))), fun ds Q hl h => ?_⟩)
 obtain ⟨st, rfl, q⟩ := h
 right
 exact ⟨by decide, q⟩
theorem C5h (T : Txt K mg) : D4 P w K mg base CX0 1 T.a_effect_of_one T.d_effect_of_one ["store", "change"] (spD [.sh, .sh] C44) := by
 refine J3 T.F_effect_of_one C3b rfl (fun C cdv A outer s H E hr => ⟨_, (@F8 _ _ _ _ _ _ (K0 (G0 T0 d9 (E3 L8 N4 (A1 (pv 0)) (A1 (pv 1))) A6 (D5 _))
   (B6 (D2 J2))
   K1) (@B6 _ _ _ _ (@D2 _ _ _ _ _ (@P5 _ _ _ _ _ _ (@A7 _ _ _ _ _ _ (P6 B1r (J6 (B02 rfl) rfl T.n_max B1j (A7 A6 (A7 (A0a (A1 (pv 1))) D0 B4x) G4) (he := G4) (hpl := (A2 B4x A4)))) (A7 (A1 (pv 1)) (A7 (P6 e8 (J6 (b8 rfl) rfl T.n_min d4 (A7 (A1 (pv 0)) (A7 (E3 L8 N4 (A1 (pv 0)) (A1 (pv 1))) D0 G6) A0) (he := A0) (hpl := (A2 G6 A4)))) D0 J5) A0) J5))))), fun ds Q hl h => ?_⟩)
 obtain ⟨st, c, rfl, q⟩ := h
 unfold U4 at q
 right
 by_cases d : st + c < 0
 ·rw [if_pos d] at q
  simp only [d, decide_true, if_true]
  exact q
 ·rw [if_neg d] at q
  simp only [d, decide_false, A8m, if_false]
  exact ⟨by decide, q⟩
theorem C5i (T : Txt K mg) : D4 P w K mg base CX0 3 T.a_effect_of T.d_effect_of ["store", "changes"] (spD [.sh, .sh] C47) := by
 have G_effect_of_none := @C5g P w K mg base T
 have b_effect_of_none := C3u T
 have G_effect_of_one := @C5h P w K mg base T
 have b_effect_of_one := C3v T
 have G_joined := @C5f P w K mg base T
 have b_joined := C3y T
 refine J3 T.F_effect_of A91 rfl (fun C cdv A outer s H E hr => ⟨_, (@F8 _ _ _ _ _ _ (E1 (C1 (i := 2) A91.nd rfl (A8 rfl) (C8 (B7 G_effect_of_none (hr.mono (by decide)) rfl T.mg_effect_of_none T.kp_effect_of_none b_effect_of_none .nil B8 (A5 (A1 (pv 0)) C5 A0) (he := A0) (hpl := A4))))) (@F8 _ _ _ _ _ _ (@W6 _ _ _ _ _ _ (@U7 _ _ _ _ _ _ _ _ Q3 rfl (A36 (pv 1)) (Z3 (K6 (i := 3) A91.nd rfl (A8 rfl))) (@B6 _ _ _ _ (@E1 _ _ _ _ _ (@C1 _ _ 2 _ _ _ _ A91.nd rfl (A8 rfl) (@C8 _ _ _ _ _ _ _ (@B7 _ _ _ _ _ _ _ _ _ _ _ _ _ _ _ _ G_joined (hr.mono (by decide)) rfl T.mg_joined T.kp_joined b_joined .nil B8 (A5 (A1 (pv 2)) (A5 (C8 (B7 G_effect_of_one (hr.mono (by decide)) rfl T.mg_effect_of_one T.kp_effect_of_one b_effect_of_one .nil B8 (A5 (A1 (pv 0)) (A5 (A1 (pv 3)) C5 A0) A0) (he := A0) (hpl := (A2 A0 A4)))) C5 J5) A0) (by decide) A0 ((A2 J5 A4)))) (by rfl) (by first | exact .inl rfl | exact .inr rfl | assumption)))) (by intro _; rfl))) (B6 (D2 (A1 (pv 2)))))), fun ds Q hl h => ?_⟩)
 obtain ⟨st, cs, rfl, q⟩ := h
 left
 refine ⟨st, rfl, ?_⟩
 array_get_dec
 refine ⟨fun r ρ => ∃ (cs' : List Int) (e : Ef) (z0 z : Sl), r = L3 cs' /\ ρ = [Sl.sh (.int st), z0, Sl.sh (V9 e), z] /\ Q (V9 (foF st e cs')), ⟨cs, _, _, _, rfl, rfl, q⟩, ?_, ?_⟩
 ·rintro x r ρ ⟨cs', e, z0, z, h1, rfl, q⟩
  cases cs' with
  | nil => cases h1
  | cons c cs' =>
   cases (show x :: r = PyData.int c :: L3 cs' from h1)
   sizeOf_list_dec
   refine ⟨_, _, rfl, ?_⟩
   left
   refine ⟨_, _, rfl, ?_⟩
   exact ⟨cs', _, _, _, rfl, rfl, q⟩
 ·rintro ρ ⟨cs', e, z0, z, h1, rfl, q⟩
  cases cs' with
  | nil =>
   left
   exact q
  | cons c cs' => cases h1
theorem C5j (T : Txt K mg) : D4 P w K mg base CX0 2 T.a_levels_along T.d_levels_along ["store", "level", "changes"] (spD [.sh, .sh, .sh] C42) := by
 have G_stepped := @B2s P w K mg base T
 have b_stepped := B2p T
 refine J3 T.F_levels_along A90 rfl (fun C cdv A outer s H E hr => ⟨_, (@F8 _ _ _ _ _ _ (g6 (C1 (i := 3) A90.nd rfl (A8 rfl) (M1 (A7 (A1 (pv 1)) D0 A0)))) (@F8 _ _ _ _ _ _ (@W6 _ _ _ _ _ _ (@U7 _ _ _ _ _ _ _ _ Q3 rfl (A36 (pv 2)) (Z3 (K6 (i := 4) A90.nd rfl (A8 rfl))) (@F8 _ _ _ _ _ _ (E1 (C1 (i := 5) A90.nd rfl (A8 rfl) (C8 (B7 G_stepped (hr.mono (by decide)) rfl T.mg_stepped T.kp_stepped b_stepped .nil B8 (A5 (A1 (pv 0)) (A5 (C2 (pv 3) (A0a A6) (fun _ _ => rfl)) (A5 (A1 (pv 4)) C5 A0) B3) A0) (he := A0) (hpl := (A2 B3 (A2 A0 A4))))))) (F8 (K0 (G0 T1 V6 (A1 (pv 5)) J2 (D5 _))
   (B6 (D2 (A1 (pv 3))))
   K1)
   (B6 (A2e (X0 (Y9 j6 A1y A1z m6 (pv 3) (A9 (A1 (pv 5)) D3 A0))))))) (by intro _; rfl))) (B6 (D2 (A1 (pv 3)))))), fun ds Q hl h => ?_⟩)
 obtain ⟨st, lv, cs, rfl, hn, q⟩ := h
 array_get_dec
 refine ⟨by decide, fun r ρ => ∃ (cs' ys : List Int) (l : Int) (z0 z1 z2 : Sl), r = L3 cs' /\ ρ = [Sl.sh (.int st), Sl.sh (.int lv), z0, Sl.ow (L3 (ys ++ [l])), z1, z2] /\ ys.length + cs'.length = cs.length /\ ys ++ M7 st l cs' = M7 st lv cs, ⟨cs, [], lv, _, _, _, rfl, rfl, by simp, rfl⟩, ?_, ?_⟩
 ·rintro x r ρ ⟨cs', ys, l, z0, z1, z2, h1, rfl, h2, h3⟩
  cases cs' with
  | nil => cases h1
  | cons c cs' =>
   cases (show x :: r = PyData.int c :: L3 cs' from h1)
   have hlast : atI (L3 (ys ++ [l])) (-1) = some (.int l) := A8c (by unfold L3; simp)
   sizeOf_list_dec
   rw [hlast]
   left
   refine ⟨_, _, _, rfl, ?_⟩
   cases e : K4 st l c with
   | none =>
    rw [C2i e] at h3
    right
    rw [h3]
    exact q
   | some v =>
    rw [C2j e] at h3
    right
    refine ⟨by unfold L3; rw [F6, O3]; simp at h2 ⊢; omega, cs', ys ++ [l], v, z0, _, _, rfl, by rw [show L3 (ys ++ [l] ++ [v]) = L3 (ys ++ [l]) ++ [.int v] by unfold L3; simp], by simp at h2 ⊢; omega, by rw [<- h3]; simp⟩
 ·rintro ρ ⟨cs', ys, l, z0, z1, z2, h1, rfl, h2, h3⟩
  cases cs' with
  | nil =>
   left
   have e : ys ++ [l] = M7 st lv cs := h3
   rw [e]
   exact q
  | cons c cs' => cases h1
end
theorem B7h : ∀ ws : List Wy, O6 (ws.map L7) = true
 | [] => rfl
 | w :: ws => by
  show (N2 (L7 w) && O6 (ws.map L7)) = true
  rw [B7h ws]; rfl
theorem A8d : ∀ ns : List Nat, O6 (G5 ns) = true
 | [] => rfl
 | w :: ws => by
  show (N2 (.int _) && O6 (G5 ws)) = true
  rw [A8d ws]; rfl
def C5k (w : Wy) : Wy := (w.2.1, w.1, w.2.2)
theorem A1q {t : Tb} : (C4 t).length = t.length := by unfold C4; rw [F6]
theorem C5l {t : Rn} : (rnL t).length = t.length := by unfold rnL; rw [F6]
theorem A1r {t : List Nat} : (G5 t).length = t.length := by unfold G5; rw [F6]
theorem C8p {t : List Int} : (L3 t).length = t.length := by unfold L3; rw [F6]
theorem B2t {t : Tb} {i : Nat} {x : Option Int} : (C4 t).set i (oD x) = C4 (t.set i x) := by unfold C4; rw [List.map_set]
theorem C5m {t : Rn} {i n : Nat} : (rnL t).set i (.int (n : Nat)) = rnL (t.set i (some n)) := by unfold rnL; rw [List.map_set]; rfl
theorem B7i {n : Nat} : A35 [PyData.none] n = rnL (G8 n none) := by
 unfold A35 rnL
 induction n with
 | zero => rfl
 | succ n ih => rw [j3, j3, A4s, j1, ih]; rfl
theorem C5n {n : Nat} : A35 [PyData.none] n = C4 (G8 n none) := by
 unfold A35 C4
 induction n with
 | zero => rfl
 | succ n ih => rw [j3, j3, A4s, j1, ih]; rfl
theorem C5o {ws : List Wy} : g4 (ws.map L7) = ws.zipIdx.map fun p => .tuple [.int (p.2 : Nat), L7 p.1] := by
 unfold g4
 rw [List.zipIdx_map, A3y]
 rfl
def C8q : DSp := fun ds Q => ∃ (m : Nat) (ws : List Wy), ds = [C7 m ws] /\ ws.length <= 900 /\ Q (C7 m (ws.map C5k))
def C5p : DSp := fun ds Q => ∃ (m : Nat) (ws : List Wy) (ns : List Nat), ds = [C7 m ws, .list (G5 ns)] /\ (∀ n ∈ ns, n < ws.length) /\ ns.length <= 900 /\ Q (.list (L3 (chs ws ns)))
def C5q : DSp := fun ds Q => ∃ t : Tb, ds = [.list (C4 t)] /\ t.length <= 900 /\ Q (O2 (t, G8 t.length none))
def C5r : DSp := fun ds Q => ∃ (m : Nat) (ws : List Wy) (st : Int) (t s : Tb), ds = [C7 m ws, .int st, .list (C4 t), .list (C4 s)] /\ K2 m ws /\ t.length = m /\ s.length = m /\ Q (O2 (M6 m ws st t s))
def A1s (m : Nat) (ws : List Wy) (rs : List Rw) : Prop := ∀ r ∈ rs, r.2.length = m /\ ∀ q n, gt r.2 q = some n -> n < ws.length
def C5s : DSp := fun ds Q => ∃ (m : Nat) (ws : List Wy) (rs : List Rw) (p : Nat), ds = [C7 m ws, .list (rs.map O2), .int (p : Nat)] /\ p < m /\ K2 m ws /\ A1s m ws rs /\ rs.length <= 900 /\ Q (.tuple [.int ((wlk ws rs.reverse p).1 : Nat), .list (G5 (wlk ws rs.reverse p).2)])
section
variable {P : Program} {w : World} {K : A3} {mg : Str -> Option Value} {base : Heap}
theorem C5t (T : Txt K mg) : D4 P w K mg base CX0 1 T.a_changes_of T.d_changes_of ["land", "numbers"] (spD [.bd, .sh] C5p) := by
 refine J3 T.F_changes_of C3e rfl (fun C cdv A outer s H E hr => ⟨_, (@B6 _ _ _ _ (@D2 _ _ _ _ _ (J7 (A5m rfl (A34 (W5.new (N := ["land", "numbers"]) (osc := B0 A4b) (by decide +kernel)) rfl (A36 (pv 1)) (fun _ => A9k) (fun _ => (h8 (O0 (O0 (O0 (V8 (pv 0)) (E5 (D8 (v := V.int 1) rfl T.mg_WAYS ⟨_, rfl⟩)) (fun _ _ => rfl)) (A1 (pv 2)) (fun _ _ => rfl)) (E5 (D8 (v := V.int 2) rfl T.mg_CHANGE ⟨_, rfl⟩)) (fun _ _ => rfl))))))))), fun ds Q hl h => ?_⟩)
 obtain ⟨m, ws, ns, rfl, hb, hn, q⟩ := h
 array_mem_dec
 refine ⟨⟨rfl, by rw [A1r]; omega⟩, ?_⟩
 unfold G5
 refine A9p (f := fun n => .int (R6 ws n)) (fun n hm Q' q' => ?_) ?_
 ·obtain ⟨w, hw⟩ : ∃ w, ws[n]? = some w := ⟨_, N0 (hb n hm)⟩
  right
  rw [A4m hw]
  right
  have e : R6 ws n = w.2.2 := by unfold R6; rw [hw]
  rw [e] at q'
  exact ⟨rfl, q'⟩
 ·unfold L3 chs at q
  rw [A3y] at q
  exact q
theorem C5u (T : Txt K mg) : D4 P w K mg base CX0 1 T.a_first_row T.d_first_row ["table"] (spD [.bo] C5q) := by
 refine J3 T.F_first_row C3g rfl (fun C cdv A outer s H E hr => ⟨_, (B6 (D2 (P5 (A7 (J7 (A7r (b9 A12 rfl T.n_list X4 (A9 (pv 0) D3 A0) (he := A0) (hpl := A4)))) (A7 (J7 (B1u (J7 (M1 (A7 J2 D0 G4))) (e7 (J6 U0 rfl T.n_len U2 (A9 (pv 0) D3 A0) (he := A0) (hpl := A4))))) D0 G6) J5)))), fun ds Q hl h => ?_⟩)
 obtain ⟨t, rfl, hn, q⟩ := h
 right
 refine ⟨by decide, ⟨by omega, by rw [A1q]; omega, by decide⟩, by decide, ?_⟩
 unfold O2 at q
 rw [A1q, show ((t.length : Nat) : Int).toNat = t.length by simp, B7i]
 exact q
theorem C5v (T : Txt K mg) : D4 P w K mg base CX0 3 T.a_row_behind T.d_row_behind ["land", "store", "table", "stayed"] (spD [.bd, .sh, .sh, .sh] C5r) := by
 have G_behind_way := @C5d P w K mg base T
 have b_behind_way := C31 T
 have G_is_more := @B7g P w K mg base T
 have b_is_more := B65 T
 refine J3 T.F_row_behind A62 rfl (fun C cdv A outer s H E hr => ⟨_, (@F8 _ _ _ _ _ _ (g6 (C1 (i := 4) A62.nd rfl (A8 rfl) (A7r (b9 A12 rfl T.n_list X4 (A9 (pv 3) D3 A0) (he := A0) (hpl := A4))))) (@F8 _ _ _ _ _ _ (g6 (C1 (i := 5) A62.nd rfl (A8 rfl) (B1u (J7 (M1 (A7 J2 D0 G4))) (h8 (O0 (V8 (pv 0)) (E5 (D8 (v := V.int 0) rfl T.mg_MANY ⟨_, rfl⟩)) (fun _ _ => rfl)))))) (@F8 _ _ _ _ _ _ (@W6 _ _ _ _ _ _ (@U7 _ _ _ _ _ _ _ _ Q3 rfl (C2u (B4z rfl T.n_enumerate (A9 (O0 (V8 (pv 0)) (E5 (D8 (v := V.int 1) rfl T.mg_WAYS ⟨_, rfl⟩)) (fun _ _ => rfl)) D3 B3))) (A7y (A11 (n := 2) rfl (O4 (K6 (i := 6) A62.nd rfl (A8 rfl)) (O4 (K6 (i := 7) A62.nd rfl (A8 rfl)) v8)))) (@F8 _ _ _ _ _ _ (E1 (C1 (i := 8) A62.nd rfl (A8 rfl) (C8 (B7 G_behind_way (hr.mono (by decide)) rfl T.mg_behind_way T.kp_behind_way b_behind_way .nil B8 (A5 (A1 (pv 1)) (A5 (A1 (pv 2)) (A5 (A1 (pv 7)) C5 A0) A0) A0) (he := A0) (hpl := (A2 A0 (A2 A0 A4))))))) (@B6 _ _ _ _ (@K0 _ _ _ _ _ _ _ _ _ (V0 (C8 (B7 G_is_more (hr.mono (by decide)) rfl T.mg_is_more T.kp_is_more b_is_more .nil B8 (A5 (A1 (pv 8)) (A5 (C2 (pv 4) (C2 (pv 7) (E5 (D8 (v := V.int 1) rfl T.mg_END ⟨_, rfl⟩)) (fun _ _ => rfl)) (fun _ _ => rfl)) C5 B3) A0) (he := A0) (hpl := (A2 B3 A4))))) (F8 (A7x (Q5 (A1 (pv 8)) (Y6 (pv 4) (C2 (pv 7) (E5 (D8 (v := V.int 1) rfl T.mg_END ⟨_, rfl⟩)) (fun _ _ => rfl)) W4)))
   (B6 (A7x (Q5 (A1 (pv 6)) (Y6 (pv 5) (C2 (pv 7) (E5 (D8 (v := V.int 1) rfl T.mg_END ⟨_, rfl⟩)) (fun _ _ => rfl)) W4))))) K1))) (by intro _; rfl))) (B6 (D2 (P5 (A7 (A1 (pv 4)) (A7 (A1 (pv 5)) D0 A0) A0))))))), fun ds Q hl h => ?_⟩)
 obtain ⟨m, ws, st, t, s0, rfl, ok, ht, hs, q⟩ := h
 have m2 := ok.m2
 array_mem_dec
 refine ⟨by decide, rfl, ⟨by omega, by omega, by decide⟩, ?_⟩
 rw [show ((m : Nat) : Int).toNat = m by simp, B7i, C5o]
 refine ⟨B7h ws, fun r ρ => ∃ (R : List (Wy × Nat)) (acc : Tb × Rn) (z1 z2 z3 : Sl), r = R.map (fun p => .tuple [.int (p.2 : Nat), L7 p.1]) /\ ρ = [Sl.bd (C7 m ws), Sl.sh (.int st), Sl.sh (.list (C4 t)), Sl.sh (.list (C4 s0)), Sl.ow (C4 acc.1), Sl.ow (rnL acc.2), z1, z2, z3] /\ acc.1.length = m /\ acc.2.length = m /\ (∀ p ∈ R, p.1 ∈ ws) /\ R.foldl (A22 st t) acc = M6 m ws st t s0,
  ⟨ws.zipIdx, (s0, G8 m none), _, _, _, rfl, rfl, hs, by simp, fun p hp => ?_, rfl⟩, ?_, ?_⟩
 ·obtain ⟨w, n⟩ := p
  rw [B8q] at hp
  exact R9 hp
 ·rintro x r ρ ⟨R, acc, z1, z2, z3, h1, rfl, l1, l2, hR, hF⟩
  cases R with
  | nil => cases h1
  | cons p R =>
   cases (show x :: r = PyData.tuple [.int (p.2 : Nat), L7 p.1] :: R.map (fun p => .tuple [.int (p.2 : Nat), L7 p.1]) from h1)
   have hw := hR p C6
   have e1 := ok.en _ hw
   have hF' : R.foldl (A22 st t) (A22 st t acc p) = M6 m ws st t s0 := hF
   sizeOf_list_dec
   refine ⟨_, _, _, rfl, by rw [ht]; exact ok.st _ hw, ?_⟩
   unfold L7
   left
   rw [Z7 (by rw [l1]; exact e1)]
   left
   refine ⟨_, _, rfl, ?_⟩
   unfold A22 at hF'
   cases c : S6 (M5 st t p.1) (gt acc.1 p.1.2.1) with
   | true =>
    rw [if_pos c] at hF'
    left
    rw [A8b (by rw [A1q, l1]; exact e1)]
    left
    rw [A8b (by rw [C5l, l2]; exact e1), B2t]
    left
    rw [C5m]
    exact ⟨R, _, _, _, _, rfl, rfl, by rw [N3]; exact l1, by rw [N3]; exact l2, fun p hp => hR p (C3 _ hp), hF'⟩
   | false =>
    rw [if_neg (by rw [c]; exact Q2)] at hF'
    left
    exact ⟨R, acc, _, _, _, rfl, rfl, l1, l2, fun p hp => hR p (C3 _ hp), hF'⟩
 ·rintro ρ ⟨R, acc, z1, z2, z3, h1, rfl, l1, l2, hR, hF⟩
  cases R with
  | cons p R => cases h1
  | nil =>
   left
   refine ⟨by decide, ?_⟩
   have hF' : acc = M6 m ws st t s0 := hF
   rw [<- hF'] at q
   exact q
theorem B7j (T : Txt K mg) : D4 P w K mg base CX0 1 T.a_walk_to T.d_walk_to ["land", "rows", "place"] (spD [.bd, .bd, .sh] C5s) := by
 refine J3 T.F_walk_to A63 rfl (fun C cdv A outer s H E hr => ⟨_, (@F8 _ _ _ _ _ _ (E1 (C1 (i := 3) A63.nd rfl (A8 rfl) (A1 (pv 2)))) (@F8 _ _ _ _ _ _ (g6 (C1 (i := 4) A63.nd rfl (A8 rfl) (M1 D0))) (@F8 _ _ _ _ _ _ (@C23 _ _ _ _ _ _ (@U7 _ _ _ _ _ _ _ _ Q3 rfl (C22 (C1a rfl T.n_reversed (A9 (V8 (pv 1)) D3 A0))) (K6 (i := 5) A63.nd rfl (A8 rfl)) (@F8 _ _ _ _ _ _ (E1 (C1 (i := 6) A63.nd rfl (A8 rfl) (h8 (O0 (O0 (V8 (pv 5)) (E5 (D8 (v := V.int 1) rfl T.mg_RISEN ⟨_, rfl⟩)) (fun _ _ => rfl)) (A1 (pv 3)) (fun _ _ => rfl))))) (@B6 _ _ _ _ (@K0 _ _ _ _ _ _ _ _ _ (G0 A8x B1q (A1 (pv 6)) J2 (D5 _)) (@F8 _ _ _ _ _ _ (A2e (X0 (Y9 j6 A1y A1z m6 (pv 4) (A9 (A1 (pv 6)) D3 A0)))) (B6 (E1 (C1 (i := 3) A63.nd rfl (A8 rfl) (h8 (O0 (O0 (O0 (V8 (pv 0)) (E5 (D8 (v := V.int 1) rfl T.mg_WAYS ⟨_, rfl⟩)) (fun _ _ => rfl)) (A1 (pv 6)) (fun _ _ => rfl)) (E5 (D8 (v := V.int 0) rfl T.mg_START ⟨_, rfl⟩)) (fun _ _ => rfl))))))) K1))) (by intro _; rfl))) (B6 (D2 (P5 (A7 (A1 (pv 3)) (A7 (J7 (C12 (C08 rfl T.n_list rfl T.n_reversed rfl (A9 (A1 (pv 4)) D3 A0)))) D0 J5) A0))))))), fun ds Q hl h => ?_⟩)
 obtain ⟨m, ws, rs, p, rfl, hp, ok, hr2, hn, q⟩ := h
 array_mem_dec
 refine ⟨by decide, ?_⟩
 refine ⟨fun r ρ => ∃ (R : List Rw) (here : Nat) (acc : List Nat) (z1 z2 : Sl), r = R.map O2 /\ ρ = [Sl.bd (C7 m ws), Sl.bd (.list (rs.map O2)), Sl.sh (.int (p : Nat)), Sl.sh (.int (here : Nat)), Sl.ow (G5 acc), z1, z2] /\ here < m /\ A1s m ws R /\ acc.length + R.length <= rs.length /\ wlk ws rs.reverse p = ((wlk ws R here).1, (wlk ws R here).2 ++ acc.reverse),
  ⟨rs.reverse, p, [], _, _, by rw [List.map_reverse], rfl, hp, fun r hr => hr2 r (List.mem_reverse.mp hr), by simp, by simp⟩, ?_, ?_⟩
 ·rintro x r ρ ⟨R, here, acc, z1, z2, h1, rfl, hh, hR, hl2, hW⟩
  cases R with
  | nil => cases h1
  | cons r0 R =>
   cases (show x :: r = O2 r0 :: R.map O2 from h1)
   obtain ⟨l0, b0⟩ := hR r0 C6
   decreasing_trivial_pre_omega
   rw [B7f (by rw [l0]; exact hh)]
   cases c : gt r0.2 here with
   | none =>
    right
    refine ⟨rfl, R, here, acc, _, _, rfl, rfl, hh, fun r hr => hR r (C3 _ hr), by simp at hl2; omega, ?_⟩
    rw [hW]
    have : wlk ws (r0 :: R) here = wlk ws R here := by
     show (match gt r0.2 here with
      | none => wlk ws R here
      | some n => ((wlk ws R (N9 ws n)).1, (wlk ws R (N9 ws n)).2 ++ [n])) = _
     rw [c]
    rw [this]
   | some n =>
    have hn' := b0 here n c
    obtain ⟨w, hw⟩ : ∃ w, ws[n]? = some w := ⟨_, N0 hn'⟩
    right
    refine ⟨rfl, by rw [A1r]; simp at hl2; omega, ?_⟩
    rw [A4m hw]
    right
    refine ⟨rfl, R, w.1, acc ++ [n], _, _, rfl, by rw [show G5 (acc ++ [n]) = G5 acc ++ [.int (n : Nat)] by unfold G5; simp], ok.st w (R9 hw), fun r hr => hR r (C3 _ hr), by simp at hl2 ⊢; omega, ?_⟩
    ·rw [hW]
     have : wlk ws (r0 :: R) here = ((wlk ws R w.1).1, (wlk ws R w.1).2 ++ [n]) := by
      show (match gt r0.2 here with
       | none => wlk ws R here
       | some n => ((wlk ws R (N9 ws n)).1, (wlk ws R (N9 ws n)).2 ++ [n])) = _
      rw [c]
      have e : N9 ws n = w.1 := by unfold N9; rw [hw]
      show ((wlk ws R (N9 ws n)).1, (wlk ws R (N9 ws n)).2 ++ [n]) = _
      rw [e]
     rw [this]
     simp
 ·rintro ρ ⟨R, here, acc, z1, z2, h1, rfl, hh, hR, hl2, hW⟩
  cases R with
  | cons p R => cases h1
  | nil =>
   left
   refine ⟨by decide, ?_⟩
   rw [hW] at q
   have e : (G5 acc).reverse = G5 acc.reverse := by unfold G5; rw [List.map_reverse]
   rw [e]
   exact q
end
inductive Pth (ws : List Wy) : Nat -> List Nat -> Nat -> Prop
 | nil {p} : Pth ws p [] p
 | cons {n w ns q} : ws[n]? = some w -> Pth ws w.2.1 ns q -> Pth ws w.1 (n :: ns) q
abbrev Pt := List Nat × Int
inductive Trp (ws : List Wy) : Nat -> List Pt -> Nat -> Prop
 | nil {p} : Trp ws p [] p
 | cons {p q r pt ps} : Pth ws p pt.1 q -> pt.1 ≠ [] -> 1 <= pt.2 -> pt.2 <= 1000000000000000000000000 -> (pt.2 = 1 \/ q = p) -> Trp ws q ps r -> Trp ws p (pt :: ps) r
theorem Pth.app {ws : List Wy} {a b c : Nat} {xs ys : List Nat} (h1 : Pth ws a xs b) (h2 : Pth ws b ys c) : Pth ws a (xs ++ ys) c := by
 induction h1 with
 | nil => exact h2
 | cons e _ ih => exact .cons e (ih h2)
theorem Trp.app {ws : List Wy} {a b c : Nat} {xs ys : List Pt} (h1 : Trp ws a xs b) (h2 : Trp ws b ys c) : Trp ws a (xs ++ ys) c := by
 induction h1 with
 | nil => exact h2
 | cons e1 e2 e3 e4 e5 _ ih => exact .cons e1 e2 e3 e4 e5 (ih h2)
def prt (ns : List Nat) : List Pt := if ns.isEmpty then [] else [(ns, 1)]
theorem B2u {ws : List Wy} {a b : Nat} {ns : List Nat} (h : Pth ws a ns b) : Trp ws a (prt ns) b := by
 cases h with
 | nil => exact .nil
 | cons e t => exact .cons (pt := (_, 1)) (.cons e t) (by simp) (show (1 : Int) <= 1 by decide) (show (1 : Int) <= 1000000000000000000000000 by decide) (.inl rfl) .nil
theorem Wk.pth {ws : List Wy} {st : Int} {b : Tb} {N : List Nat} {P : Nat -> Nat} {L : Nat -> Int} (W : Wk ws st b N P L) {i : Nat} : ∀ {j : Nat}, i <= j -> j <= N.length -> Pth ws (P i) (My.seg N i j) (P j)
 | 0, h1, _ => by
  have : i = 0 := by omega
  subst this
  rw [A5q]; exact .nil
 | j + 1, h1, h2 => by
  by_cases e : i = j + 1
  ·subst e
   rw [A5q]; exact .nil
  ·rw [B2c (by omega) (by omega)]
   obtain ⟨w, hw, e1, e2, _⟩ := W.way j N[j] (N0 (by omega))
   refine (W.pth (i := i) (j := j) (by omega) (by omega)).app ?_
   rw [<- e1, <- e2]
   exact .cons hw .nil
theorem C8r (i : Int) : PyData.canLay0 (.int i) = true := rfl
theorem Q0 (i j : Int) : min (PyData.depth (.int i)) (PyData.depth (.int j)) <= 64 := by show min 0 0 <= 64; decide
theorem W1 (i j : Int) : PyData.eqv (.int i) (.int j) = (i == j) := by rw [PyData.eqv]
def C5w : DSp := fun ds Q => ∃ (m : Nat) (ws : List Wy) (p q : Nat) (ns : List Nat), ds = [C7 m ws, .int (p : Nat), .list (G5 ns)] /\ Pth ws p ns q /\ Q (.int (q : Nat))
def C5x : DSp := fun ds Q => ∃ (m : Nat) (ws : List Wy) (p q : Nat) (pt : Pt), ds = [C7 m ws, .int (p : Nat), G1 pt] /\ Pth ws p pt.1 q /\ pt.1 ≠ [] /\ 1 <= pt.2 /\ pt.2 <= 1000000000000000000000000 /\ (pt.2 = 1 \/ q = p) /\ Q (.int (q : Nat))
def C5y : DSp := fun ds Q => ∃ (m : Nat) (ws : List Wy) (p q : Nat) (ps : List Pt), ds = [C7 m ws, .int (p : Nat), .list (ps.map G1)] /\ Trp ws p ps q /\ Q (.int (q : Nat))
def C5z : DSp := fun ds Q => ∃ ns : List Nat, ds = [.list (G5 ns)] /\ Q (.list ((prt ns).map G1))
section
variable {P : Program} {w : World} {K : A3} {mg : Str -> Option Value} {base : Heap}
theorem B7k (T : Txt K mg) : D4 P w K mg base CX0 1 T.a_parts_by T.d_parts_by ["numbers"] (spD [.sh] C5z) := by
 refine J3 T.F_parts_by C3i rfl (fun C cdv A outer s H E hr => ⟨_, (B6 (D2 (B47 (G0 b6 A0j (e7 (J6 U0 rfl T.n_len U2 (A9 (pv 0) D3 A0) (he := A0) (hpl := A4))) A6 (D5 _)) (J7 (M1 (A7 (P5 (A7 (A1 (pv 0)) (A7 A6 D0 G4) A0)) D0 x8))) (J7 (M1 D0))))), fun ds Q hl h => ?_⟩)
 obtain ⟨ns, rfl, q⟩ := h
 right
 cases ns with
 | nil => exact ⟨by decide, q⟩
 | cons n ns =>
  have e : decide ((0 : Int) < ((G5 (n :: ns)).length : Nat)) = true := by
   rw [A1r]; exact decide_eq_true (by rw [M2]; omega)
  rw [e]
  right
  exact ⟨by decide, by decide, q⟩
theorem C50 (T : Txt K mg) : D4 P w K mg base CX0 3 T.a_behind_ways T.d_behind_ways ["land", "place", "numbers"] (spD [.bd, .sh, .sh] C5w) := by
 have G_is_place := @C5c P w K mg base T
 have b_is_place := C3z T
 refine J3 T.F_behind_ways A92 rfl (fun C cdv A outer s H E hr => ⟨_, (@F8 _ _ _ _ _ _ (E1 (C1 (i := 3) A92.nd rfl (A8 rfl) (A1 (pv 1)))) (@F8 _ _ _ _ _ _ (@W6 _ _ _ _ _ _ (@U7 _ _ _ _ _ _ _ _ Q3 rfl (A36 (pv 2)) (Z3 (K6 (i := 4) A92.nd rfl (A8 rfl))) (@F8 _ _ _ _ _ _ (@K0 _ _ _ _ _ _ _ _ _ (PW.pt (@S5 _ _ _ _ _ _ _ _ (@V1 _ _ _ _ _ (@V0 _ _ _ _ (@C8 _ _ _ _ _ _ _ (@B7 _ _ _ _ _ _ _ _ _ _ _ _ _ _ _ _ G_is_place (hr.mono (by decide)) rfl T.mg_is_place T.kp_is_place b_is_place .nil B8 (A5 (C2t (J6 U0 rfl T.n_len U2 (A9 (O0 (V8 (pv 0)) (E5 (D8 (v := V.int 1) rfl T.mg_WAYS ⟨_, rfl⟩)) (fun _ _ => rfl)) D3 B3) (he := B3) (hpl := A4))) (A5 (A1 (pv 4)) C5 A0) J5) (by decide) J5 ((A2 A0 A4)))) (by intro _; rfl))) (X5 (G0 (A13 (O1 hr)) N8 (h8 (O0 (O0 (O0 (V8 (pv 0)) (E5 (D8 (v := V.int 1) rfl T.mg_WAYS ⟨_, rfl⟩)) (fun _ _ => rfl)) (A1 (pv 4)) (fun _ _ => rfl)) (E5 (D8 (v := V.int 0) rfl T.mg_START ⟨_, rfl⟩)) (fun _ _ => rfl))) (A1 (pv 3)) (D5 _))))) (B6 (D2 J2)) K1) (B6 (E1 (C1 (i := 3) A92.nd rfl (A8 rfl) (h8 (O0 (O0 (O0 (V8 (pv 0)) (E5 (D8 (v := V.int 1) rfl T.mg_WAYS ⟨_, rfl⟩)) (fun _ _ => rfl)) (A1 (pv 4)) (fun _ _ => rfl)) (E5 (D8 (v := V.int 1) rfl T.mg_END ⟨_, rfl⟩)) (fun _ _ => rfl))))))) (by intro _; rfl))) (B6 (D2 (A1 (pv 3)))))), fun ds Q hl h => ?_⟩)
 obtain ⟨m, ws, p, q0, ns, rfl, hp, q⟩ := h
 array_mem_dec
 refine ⟨fun r ρ => ∃ (ns' : List Nat) (p' : Nat) (z : Sl), r = G5 ns' /\ ρ = [Sl.bd (C7 m ws), Sl.sh (.int (p : Nat)), Sl.sh (.list (G5 ns)), Sl.sh (.int (p' : Nat)), z] /\ Pth ws p' ns' q0, ⟨ns, p, _, rfl, rfl, hp⟩, ?_, ?_⟩
 ·rintro x r ρ ⟨ns', p', z, h1, rfl, hp'⟩
  cases hp' with
  | nil => cases h1
  | @cons n w ns' _ hw hp' =>
   cases (show x :: r = PyData.int (n : Nat) :: G5 ns' from h1)
   have hn := (i8.mp hw).1
   decreasing_trivial_pre_omega
   refine ⟨_, _, rfl, ?_⟩
   rw [F6, decide_eq_true (show (0 : Int) <= ((n : Nat) : Int) /\ ((n : Nat) : Int) < ((ws.length : Nat) : Int) from ⟨by omega, by omega⟩)]
   decreasing_trivial_pre_omega
   rw [A4m hw]
   right
   refine ⟨rfl, rfl, rfl, Q0 _ _, ?_⟩
   rw [W1, beq_self_eq_true]
   right
   exact ⟨rfl, ns', w.2.1, _, rfl, rfl, hp'⟩
 ·rintro ρ ⟨ns', p', z, h1, rfl, hp'⟩
  cases hp' with
  | nil =>
   left
   exact q
  | cons hw hp' => cases h1
theorem C51 (T : Txt K mg) : D4 P w K mg base CX0 4 T.a_behind_part T.d_behind_part ["land", "place", "part"] (spD [.bd, .sh, .sh] C5x) := by
 have G_behind_ways := @C50 P w K mg base T
 have b_behind_ways := C34 T
 refine J3 T.F_behind_part B6z rfl (fun C cdv A outer s H E hr => ⟨_, (@F8 _ _ _ _ _ _ (@K0 _ _ _ _ _ _ _ _ _ (PW.pt (@S5 _ _ _ _ _ _ _ _ (G0 (U9 (O1 hr)) N8 (P6 A9d (J6 U0 rfl T.n_len U2 (A7 (C2 (pv 2) (E5 (D8 (v := V.int 0) rfl T.mg_NUMBERS ⟨_, rfl⟩)) (fun _ _ => rfl)) D0 B3) (he := B3) (hpl := A4))) A6 (D5 _)) (X5 (V1 (A9b A47 A47 A6 (C2 (pv 2) (E5 (D8 (v := V.int 1) rfl T.mg_TIMES ⟨_, rfl⟩)) (fun _ _ => rfl)) (E3 m5 A0i A6 A6)))))) (B6 (D2 J2)) K1) (@F8 _ _ _ _ _ _ (@E1 _ _ _ _ _ (@C1 _ _ 3 _ _ _ _ B6z.nd rfl (A8 rfl) (C8 (B7 G_behind_ways (hr.mono (by decide)) rfl T.mg_behind_ways T.kp_behind_ways b_behind_ways .nil B8 (F3 (pv 0) (A5 (A1 (pv 1)) (A5 (C2 (pv 2) (E5 (D8 (v := V.int 0) rfl T.mg_NUMBERS ⟨_, rfl⟩)) (fun _ _ => rfl)) C5 B3) A0) A0) (he := A0) (hpl := (A2 A0 (A2 B3 A4))))) (by rfl) (by first | exact .inl rfl | exact .inr rfl | assumption))) (F8 (K0 (PW.pt (A14 (G0 b6 A0j (C2 (pv 2) (E5 (D8 (v := V.int 1) rfl T.mg_TIMES ⟨_, rfl⟩)) (fun _ _ => rfl)) A6 (D5 _)) (A5g (G0 (A13 (O1 hr)) N8 (A1 (pv 3)) (A1 (pv 1)) (D5 _)))))
   (B6 (D2 J2))
   K1)
   (B6 (D2 (A1 (pv 3))))))), fun ds Q hl h => ?_⟩)
 obtain ⟨m, ws, p, q0, ⟨ns, t⟩, rfl, hp, hne, t1, t2, ht, q⟩ := h
 simp only at hp hne t1 t2 ht
 right
 refine ⟨rfl, rfl, Q0 _ _, ?_⟩
 have hl0 : PyData.eqv (.int ((G5 ns).length : Nat)) (.int 0) = false := by
  rw [W1, A1r]
  cases ns with
  | nil => exact absurd rfl hne
  | cons n r => exact beq_eq_false_iff_ne.mpr (by simp; omega)
 rw [hl0]
 right
 rw [decide_eq_true (show (1 : Int) <= t from t1)]
 right
 refine ⟨⟨by decide, by decide, by decide⟩, ?_⟩
 rw [decide_eq_true (show t <= (10 : Int) ^ (24 : Int).toNat from t2)]
 right
 refine ⟨rfl, _, _, _, _, _, rfl, hp, ?_⟩
 right
 rcases ht with ht | ht
 ·rw [decide_eq_false (show ¬ (1 : Int) < t by omega)]
  right
  exact q
 ·subst ht
  by_cases c : (1 : Int) < t
  ·rw [decide_eq_true c]
   right
   refine ⟨rfl, rfl, Q0 _ _, ?_⟩
   rw [W1, beq_self_eq_true]
   right
   exact q
  ·rw [decide_eq_false c]
   right
   exact q
theorem C52 (T : Txt K mg) : D4 P w K mg base CX0 5 T.a_end_of T.d_end_of ["land", "place", "trip"] (spD [.bd, .sh, .sh] C5y) := by
 have G_behind_part := @C51 P w K mg base T
 have b_behind_part := C35 T
 refine J3 T.F_end_of A77 rfl (fun C cdv A outer s H E hr => ⟨_, (@F8 _ _ _ _ _ _ (E1 (C1 (i := 3) A77.nd rfl (A8 rfl) (A1 (pv 1)))) (@F8 _ _ _ _ _ _ (@W6 _ _ _ _ _ _ (@U7 _ _ _ _ _ _ _ _ Q3 rfl (C1r (B4z rfl T.n_enumerate (A9 (A1 (pv 2)) D3 A0))) (A7y (A11 (n := 2) rfl (O4 (K6 (i := 4) A77.nd rfl (A8 rfl)) (O4 (K6 (i := 5) A77.nd rfl (A8 rfl)) v8)))) (@F8 _ _ _ _ _ _ (E1 (C1 (i := 3) A77.nd rfl (A8 rfl) (C8 (B7 G_behind_part (hr.mono (by decide)) rfl T.mg_behind_part T.kp_behind_part b_behind_part .nil B8 (F3 (pv 0) (A5 (A1 (pv 3)) (A5 (A1 (pv 5)) C5 A0) A0) A0) (he := A0) (hpl := (A2 A0 (A2 A0 A4))))))) (B6 (K0 (G0 T1 V6 (A1 (pv 3)) J2 (D5 _))
   (B6 C1v)
   K1))) (by intro _; rfl))) (B6 (D2 (A1 (pv 3)))))), fun ds Q hl h => ?_⟩)
 obtain ⟨m, ws, p, q0, ps, rfl, hp, q⟩ := h
 array_mem_dec
 have e0 : g4 (ps.map G1) = ps.zipIdx.map fun p => .tuple [.int (p.2 : Nat), G1 p.1] := by
  unfold g4
  rw [List.zipIdx_map, A3y]
  rfl
 rw [e0]
 refine ⟨fun r ρ => ∃ (ps' : List (Pt × Nat)) (p' : Nat) (z1 z2 : Sl), r = ps'.map (fun p => .tuple [.int (p.2 : Nat), G1 p.1]) /\ ρ = [Sl.bd (C7 m ws), Sl.sh (.int (p : Nat)), Sl.sh (.list (ps.map G1)), Sl.sh (.int (p' : Nat)), z1, z2] /\ Trp ws p' (ps'.map (·.1)) q0, ⟨ps.zipIdx, p, _, _, rfl, rfl, by rw [show ps.zipIdx.map (·.1) = ps by simp]; exact hp⟩, ?_, ?_⟩
 ·rintro x r ρ ⟨ps', p', z1, z2, h1, rfl, hp'⟩
  cases ps' with
  | nil => cases h1
  | cons a ps' =>
   cases (show x :: r = PyData.tuple [.int (a.2 : Nat), G1 a.1] :: ps'.map (fun p => .tuple [.int (p.2 : Nat), G1 p.1]) from h1)
   have hp2 : Trp ws p' (a.1 :: ps'.map (·.1)) q0 := hp'
   cases hp2 with
   | cons e1 e2 e3 e4 e5 e6 =>
    sizeOf_list_dec
    refine ⟨rfl, _, _, _, _, _, rfl, e1, e2, e3, e4, e5, ?_⟩
    left
    exact ⟨ps', _, _, _, rfl, rfl, e6⟩
 ·rintro ρ ⟨ps', p', z1, z2, h1, rfl, hp'⟩
  cases ps' with
  | cons a ps' => cases h1
  | nil =>
   cases hp'
   left
   exact q
end
theorem C53 (a b : Option Int) : PyData.eqv (oD a) (oD b) = decide (a = b) := by
 cases a with
 | none => cases b with
  | none => rfl
  | some y => rfl
 | some x => cases b with
  | none => rfl
  | some y =>
   show PyData.eqv (.int x) (.int y) = _
   rw [W1]
   by_cases h : x = y
   ·subst h; simp
   ·simp [h]
theorem B7l : ∀ a b : Tb, PyData.eqvAll (C4 a) (C4 b) = decide (a = b)
 | [], [] => rfl
 | [], _ :: _ => rfl
 | _ :: _, [] => rfl
 | x :: a, y :: b => by
  show PyData.eqvAll (oD x :: C4 a) (oD y :: C4 b) = _
  rw [PyData.eqvAll, C53, B7l a b]
  by_cases h : x = y
  ·subst h; simp
  ·simp [h]
theorem C54 (a b : Tb) : PyData.eqv (.list (C4 a)) (.list (C4 b)) = decide (a = b) := by rw [PyData.eqv]; exact B7l a b
theorem B7m : ∀ t : Tb, PyData.canLayAll0 (C4 t) = true
 | [] => rfl
 | x :: t => by
  show (PyData.canLay0 (oD x) && PyData.canLayAll0 (C4 t)) = true
  rw [B7m t]
  cases x <;> rfl
theorem B7n (t : Tb) : PyData.canLay0 (.list (C4 t)) = true := by rw [PyData.canLay0]; exact B7m t
theorem B7o : ∀ t : Tb, PyData.depthAll (C4 t) = 0
 | [] => rfl
 | x :: t => by
  show max (PyData.depth (oD x)) (PyData.depthAll (C4 t)) = 0
  rw [B7o t]
  cases x <;> rfl
theorem B7p (t : Tb) : PyData.depth (.list (C4 t)) = 1 := by
 show PyData.depthAll (C4 t) + 1 = 1
 rw [B7o]
def C55 : DSp := fun ds Q => ∃ (m : Nat) (ws : List Wy) (st : Int) (t : Tb), ds = [C7 m ws, .int st, .list (C4 t)] /\ K2 m ws /\ t.length = m /\ Q (.list ((P7 m ws st m (t, G8 m none)).map O2))
def C56 : DSp := fun ds Q => ∃ (m : Nat) (ws : List Wy) (rs : List Rw), ds = [C7 m ws, .list (rs.map O2)] /\ Q (.bool (decide (m < rs.length)))
def C57 : DSp := fun ds Q => ∃ (m : Nat) (ws : List Wy) (rs : List Rw) (r : Rw), ds = [C7 m ws, .list (rs.map O2)] /\ K2 m ws /\ A1s m ws rs /\ rs.length <= 900 /\ rs.getLast? = some r /\ (∃ p n, gt r.2 p = some n) /\
 ∀ p n, p < m -> gt r.2 p = some n -> Q (.tuple [.int ((wlk ws rs.reverse p).1 : Nat), .list (G5 (wlk ws rs.reverse p).2)])
def A8e (p : Nat) (N : List Nat) : PyData := .tuple [.int (p : Nat), .list (G5 N)]
def C58 : DSp := fun ds Q => ∃ (m : Nat) (ws : List Wy) (st : Int) (b : Tb) (N : List Nat) (P : Nat -> Nat) (L : Nat -> Int), ds = [C7 m ws, A8e (P 0) N] /\ K2 m ws /\ G7 m st b /\ Wk ws st b N P L /\ N.length = m /\
 ∀ i j, i < j -> j <= m -> P i = P j -> Q (.tuple [.list (G5 (seg N 0 i)), .list (G5 (seg N i j))])
theorem A99 {α β : Type} {f : α -> β} {xs : List α} {x : α} (h : xs.getLast? = some x) : (xs.map f).getLast? = some (f x) := by
 obtain ⟨ys, rfl⟩ := List.getLast?_eq_some_iff.mp h
 simp
theorem Wk.places {ws : List Wy} {st : Int} {b : Tb} {N : List Nat} {P : Nat -> Nat} {L : Nat -> Int} (W : Wk ws st b N P L) : [P 0] ++ N.map (A1d ws) = (N5 (N.length + 1)).map P := by
 apply List.ext_getElem?
 intro k
 cases k with
 | zero => simp
 | succ k =>
  rw [A7a (by simp), R8, R8]
  by_cases h : k < N.length
  ·rw [B0o (by omega)]
   show (N[k]?).map (A1d ws) = some (P (k + 1))
   obtain ⟨w, hw, _, e, _⟩ := W.way k N[k] (N0 h)
   rw [N0 h]
   show some (A1d ws N[k]) = _
   unfold A1d
   rw [hw, <- e]
  ·rw [j4 (l := N5 _) (by rw [b3]; omega)]
   show (N[k]?).map (A1d ws) = none
   rw [j4 (by omega)]
   rfl
section
variable {P : Program} {w : World} {K : A3} {mg : Str -> Option Value} {base : Heap}
theorem C59 (T : Txt K mg) : D4 P w K mg base CX0 4 T.a_rows_from T.d_rows_from ["land", "store", "table"] (spD [.bd, .sh, .bo] C55) := by
 have G_first_row := @C5u P w K mg base T
 have b_first_row := C32 T
 have G_row_behind := @C5v P w K mg base T
 have b_row_behind := C33 T
 refine J3 T.F_rows_from A93 rfl (fun C cdv A outer s H E hr => ⟨_, (@F8 _ _ _ _ _ _ (g6 (C1 (i := 3) A93.nd rfl (A8 rfl) (M1 D0))) (@F8 _ _ _ _ _ _ (E1 (C1 (i := 4) A93.nd rfl (A8 rfl) (C8 (B7 G_first_row (hr.mono (by decide)) rfl T.mg_first_row T.kp_first_row b_first_row .nil B8 (F3 (pv 2) C5 A0) (he := A0) (hpl := A4))))) (@F8 _ _ _ _ _ _ (@B11 _ _ _ _ _ (@A7g _ _ _ _ _ _ Q3 (G0 T0 d9 (e7 (J6 U0 rfl T.n_len U2 (A9 (pv 3) D3 A0) (he := A0) (hpl := A4))) (h8 (O0 (V8 (pv 0)) (E5 (D8 (v := V.int 0) rfl T.mg_MANY ⟨_, rfl⟩)) (fun _ _ => rfl))) (D5 _)) (@F8 _ _ _ _ _ _ (A2e (X0 (Y9 j6 A1y A1z m6 (pv 3) (A9 (A1 (pv 4)) D3 A0)))) (@F8 _ _ _ _ _ _ (@E1 _ _ _ _ _ (@C1 _ _ 4 _ _ _ _ A93.nd rfl (A8 rfl) (@C8 _ _ _ _ _ _ _ (@B7 _ _ _ _ _ _ _ _ _ _ _ _ _ _ _ _ G_row_behind (hr.mono (by decide)) rfl T.mg_row_behind T.kp_row_behind b_row_behind .nil B8 (F3 (pv 0) (A5 (A1 (pv 1)) (A5 (C2 (pv 4) (E5 (D8 (v := V.int 0) rfl T.mg_TABLE ⟨_, rfl⟩)) (fun _ _ => rfl)) (A5 (C2 (pv 4) (E5 (D8 (v := V.int 0) rfl T.mg_TABLE ⟨_, rfl⟩)) (fun _ _ => rfl)) C5 B3) B3) A0) A0) (by decide) A0 ((A2 A0 (A2 B3 (A2 B3 A4)))))) (by rfl) (by first | exact .inl rfl | exact .inr rfl | assumption))) (B6 (K0 (G0 (U9 (O1 hr)) N8 (C2 (pv 4) (E5 (D8 (v := V.int 0) rfl T.mg_TABLE ⟨_, rfl⟩)) (fun _ _ => rfl)) (L6 (C2 (pv 3) (A0a A6) (fun _ _ => rfl)) (E5 (D8 (v := V.int 0) rfl T.mg_TABLE ⟨_, rfl⟩)) (fun _ _ => rfl)) (D5 _))
   (B6 (D2 (A1 (pv 3))))
   K1)))))) (F8 (A2e (X0 (Y9 j6 A1y A1z m6 (pv 3) (A9 (A1 (pv 4)) D3 A0))))
   (B6 (D2 (A1 (pv 3)))))))), fun ds Q hl h => ?_⟩)
 obtain ⟨m, ws, st, t, rfl, ok, ht, q⟩ := h
 have m2 := ok.m2
 left
 refine ⟨by decide, rfl, t, rfl, by omega, ?_⟩
 unfold A9m
 refine ⟨fun μ ρ => ∃ (rs : List Rw) (r : Rw), ρ = [Sl.bd (C7 m ws), Sl.sh (.int st), Sl.bo (C4 t), Sl.ow (rs.map O2), Sl.sh (O2 r)] /\ rs.length + μ = m /\ r.1.length = m /\ rs ++ P7 m ws st μ r = P7 m ws st m (t, G8 m none), ⟨m, [], (t, G8 t.length none), rfl, by simp, ht, by rw [ht]; rfl⟩, ?_⟩
 rintro μ ρ ⟨rs, r, rfl, h1, h2, h3⟩
 right
 rw [F6]
 refine ⟨rfl, ?_⟩
 cases μ with
 | zero =>
  rw [decide_eq_false (by omega)]
  right
  refine ⟨by omega, ?_⟩
  have e : rs ++ [r] = P7 m ws st m (t, G8 m none) := h3
  rw [<- e, S0] at q
  exact q
 | succ μ =>
  rw [decide_eq_true (by omega)]
  decreasing_trivial_pre_omega
  refine ⟨by rw [F6]; omega, ?_⟩
  refine ⟨rfl, m, ws, st, r.1, r.1, rfl, ok, h2, h2, ?_⟩
  right
  rw [show -(1 : Int) = -1 from rfl, B4g]
  right
  refine ⟨B7n _, B7n _, by rw [B7p, B7p]; decide, ?_⟩
  rw [C54]
  by_cases c : (M6 m ws st r.1 r.1).1 = r.1
  ·rw [decide_eq_true c]
   right
   have e : rs ++ [r] = P7 m ws st m (t, G8 m none) := by rw [<- h3, P7, if_pos c]
   rw [<- e, S0] at q
   exact q
  ·rw [decide_eq_false c]
   right
   refine ⟨μ, by omega, rs ++ [r], M6 m ws st r.1 r.1, by rw [S0]; rfl, by simp; omega, (g9 (st := st) (t := r.1) ok h2).l1, ?_⟩
   rw [<- h3, P7, if_neg c]
   simp
theorem C6a (T : Txt K mg) : D4 P w K mg base CX0 1 T.a_still_rises T.d_still_rises ["land", "rows"] (spD [.bd, .sh] C56) := by
 refine J3 T.F_still_rises C3h rfl (fun C cdv A outer s H E hr => ⟨_, (B6 (D2 (m8 b6 A0j (e7 (J6 U0 rfl T.n_len U2 (A9 (pv 1) D3 A0) (he := A0) (hpl := A4))) (h8 (O0 (V8 (pv 0)) (E5 (D8 (v := V.int 0) rfl T.mg_MANY ⟨_, rfl⟩)) (fun _ _ => rfl))) (D5 _)))), fun ds Q hl h => ?_⟩)
 obtain ⟨m, ws, rs, rfl, q⟩ := h
 right
 rw [F6]
 rw [show decide (((m : Nat) : Int) < ((rs.length : Nat) : Int)) = decide (m < rs.length) by by_cases c : m < rs.length <;> simp [c]]
 exact ⟨rfl, q⟩
theorem C6b (T : Txt K mg) : D4 P w K mg base CX0 2 T.a_rising_walk T.d_rising_walk ["land", "rows"] (spD [.bd, .sh] C57) := by
 have G_walk_to := @B7j P w K mg base T
 have b_walk_to := B66 T
 refine J3 T.F_rising_walk B60 rfl (fun C cdv A outer s H E hr => ⟨_, (@F8 _ _ _ _ _ _ (E1 (C1 (i := 2) B60.nd rfl (Or.inr rfl) (L6 (C2 (pv 1) (A0a A6) (fun _ _ => rfl)) (E5 (D8 (v := V.int 1) rfl T.mg_RISEN ⟨_, rfl⟩)) (fun _ _ => rfl)))) (@B6 _ _ _ _ (@D2 _ _ _ _ _ (@C8 _ _ _ _ _ _ _ (@B7 _ _ _ _ _ _ _ _ _ _ _ _ _ _ _ _ G_walk_to (hr.mono (by decide)) rfl T.mg_walk_to T.kp_walk_to b_walk_to .nil B8 (@F3 _ _ _ _ _ _ (pv 0) (@F3 _ _ _ _ _ _ (pv 1) (@A5 _ _ _ _ _ _ (@L6 _ _ _ _ _ _ _ (@J7 _ _ _ _ (@A5m _ _ _ _ _ _ _ _ rfl (@A34 _ _ _ _ _ _ _ _ _ _ _ _ _ _ _ (W5.new (N := ["land", "rows", "last"]) (osc := B0 A4c) (by decide +kernel)) rfl (A2b (w4 rfl T.n_range (A7 (h8 (O0 (V8 (pv 0)) (E5 (D8 (v := V.int 0) rfl T.mg_MANY ⟨_, rfl⟩)) (fun _ _ => rfl))) D0 B3))) (fun _ => (B1f (G0 A8x B1q (C2 (pv 2) (A1 (pv 3)) (fun _ _ => rfl)) J2 (D5 _)))) (fun _ => (A1 (pv 3))) (by rfl) (by rfl) (by intro _; rfl)))) A6 (fun _ _ => rfl)) C5 B3) A0) A0) (by decide) A0 ((A2 A0 (A2 B3 A4)))))))), fun ds Q hl h => ?_⟩)
 obtain ⟨m, ws, rs, r, rfl, ok, hR, hn, hl2, ⟨p0, n0, hp0⟩, q⟩ := h
 have m2 := ok.m2
 have hr0 := hR r (List.mem_of_getLast? hl2)
 array_mem_dec
 rw [show -(1 : Int) = -1 from rfl, A8c (A99 hl2)]
 array_mem_dec
 refine ⟨rfl, rfl, rfl, ⟨by omega, by omega⟩, ⟨rfl, by unfold K8; rw [F6, b3]; omega⟩, ?_⟩
 unfold K8
 rw [show ((m : Nat) : Int).toNat = m by simp]
 refine A7z (p := fun i => (gt r.2 i).isSome) (f := fun i => .int (0 + ((i : Nat) : Int))) (fun i hi Q' q' => ?_) (fun i hi _ Q' q' => ?_) ?_
 ·left
  rw [show (0 : Int) + ((i : Nat) : Int) = ((i : Nat) : Int) by omega] at q' ⊢
  rw [B7f (by rw [hr0.1]; exact i7.mp hi)]
  left
  cases c : gt r.2 i with
  | none => rw [c] at q'; exact q'
  | some n => rw [c] at q'; exact q'
 ·exact q'
 ·have hp0m : p0 < m := by
   by_cases h : p0 < m
   ·exact h
   ·rw [A21 (by rw [hr0.1]; omega)] at hp0; cases hp0
  have hmem : p0 ∈ (N5 m).filter fun i => (gt r.2 i).isSome := A68.mpr ⟨i7.mpr hp0m, by rw [hp0]; rfl⟩
  cases hf : (N5 m).filter fun i => (gt r.2 i).isSome with
  | nil => rw [hf] at hmem; cases hmem
  | cons p ps =>
   have hpm : p ∈ (N5 m).filter fun i => (gt r.2 i).isSome := by rw [hf]; exact C6
   obtain ⟨h1, h2⟩ := A68.mp hpm
   obtain ⟨n, hn'⟩ := Option.isSome_iff_exists.mp h2
   rw [W3, j1, B5x]
   left
   refine ⟨m, ws, rs, p, by rw [show (0 : Int) + ((p : Nat) : Int) = ((p : Nat) : Int) by omega]; rfl, i7.mp h1, ok, hR, hn, q p n (i7.mp h1) hn'⟩
end
theorem B7q {P : Nat -> Nat} : ∀ k : Nat, (∀ i j, i < j -> j < k -> P i ≠ P j) -> ((N5 k).map P).Nodup
 | 0, _ => B0s
 | k + 1, h => by
  rw [List.range_succ, S0, A3v]
  refine ⟨B7q k fun i j h1 h2 => h i j h1 (by omega), by simp, fun a ha b hb => ?_⟩
  obtain ⟨i, hi, rfl⟩ := b4.mp ha
  have : b = P k := by simpa using hb
  subst this
  exact h i k (i7.mp hi) (by omega)
theorem C8s {P : Nat -> Nat} {n k : Nat} (h : k <= n) : ((N5 n).map P).take k = (N5 k).map P := by
 rw [<- j5, List.take_range, A8o h]
def plI (P : Nat -> Nat) (n : Nat) : List Int := ((N5 n).map P).map fun p => ((p : Nat) : Int)
theorem B2v {P : Nat -> Nat} {n : Nat} {x : Nat} : ((x : Nat) : Int) ∈ plI P n ↔ ∃ i, i < n /\ P i = x := by
 unfold plI
 constructor
 ·intro h
  obtain ⟨y, hy, e⟩ := b4.mp h
  obtain ⟨i, hi, rfl⟩ := b4.mp hy
  exact ⟨i, i7.mp hi, by omega⟩
 ·rintro ⟨i, hi, rfl⟩
  exact b4.mpr ⟨P i, b4.mpr ⟨i, i7.mpr hi, rfl⟩, rfl⟩
theorem C6c {P : Nat -> Nat} {n : Nat} : G5 ((N5 n).map P) = (plI P n).map PyData.int := by
 simp only [G5, plI, A3y]
 rfl
theorem B2w {P : Nat -> Nat} {n : Nat} : (plI P n).length = n := by unfold plI; rw [F6, F6, b3]
theorem C6d {P : Nat -> Nat} {n : Nat} {x : Nat} (h : ((x : Nat) : Int) ∈ plI P n) : (plI P n).idxOf ((x : Nat) : Int) < n /\ P ((plI P n).idxOf ((x : Nat) : Int)) = x := by
 have h1 := B0n.mpr h
 have h2 := B8p h1
 rw [B2w] at h1
 refine ⟨h1, ?_⟩
 have hx : ∀ i (h : i < (plI P n).length), (plI P n)[i] = ((P i : Nat) : Int) := fun i h => by simp [plI]
 rw [hx] at h2
 omega
section
variable {P : Program} {w : World} {K : A3} {mg : Str -> Option Value} {base : Heap}
theorem C6e (T : Txt K mg) : D4 P w K mg base CX0 1 T.a_parted_at_round T.d_parted_at_round ["land", "walk"] (spD [.bd, .sh] C58) := by
 refine J3 T.F_parted_at_round A78 rfl (fun C cdv A outer s H E hr => ⟨_, (@F8 _ _ _ _ _ _ (@E1 _ _ _ _ _ (@C1 _ _ 2 _ _ _ _ A78.nd rfl (A8 rfl) (@J7 _ _ _ _ (@A9e _ _ _ _ _ _ _ (J7 (M1 (A7 (C2 (pv 1) (E5 (D8 (v := V.int 0) rfl T.mg_FROM ⟨_, rfl⟩)) (fun _ _ => rfl)) D0 B3))) (@J7 _ _ _ _ (@A5m _ _ _ _ _ _ _ _ rfl (@A34 _ _ _ _ _ _ _ _ _ _ _ _ _ _ _ (W5.new (N := ["land", "walk", "places", "end", "begin"]) (osc := B0 A4d) (by decide +kernel)) rfl (A9i (C2 (pv 1) (E5 (D8 (v := V.int 1) rfl T.mg_BY ⟨_, rfl⟩)) (fun _ _ => rfl))) (fun _ => A9k) (fun _ => (h8 (O0 (O0 (O0 (V8 (pv 0)) (E5 (D8 (v := V.int 1) rfl T.mg_WAYS ⟨_, rfl⟩)) (fun _ _ => rfl)) (A1 (pv 5)) (fun _ _ => rfl)) (E5 (D8 (v := V.int 1) rfl T.mg_END ⟨_, rfl⟩)) (fun _ _ => rfl)))) (by rfl) (by rfl) (by intro _; rfl)))))) (by rfl) (by first | exact .inl rfl | exact .inr rfl | assumption))) (@F8 _ _ _ _ _ _ (E1 (C1 (i := 3) A78.nd rfl (A8 rfl) A6)) (@F8 _ _ _ _ _ _ (B11 (A7g Q3 (G0 C0j C11 (C2 (pv 2) (A1 (pv 3)) (fun _ _ => rfl)) (J7 (B5j (pv 2) B1t (A7s (A1 (pv 3))))) (by with_unfolding_all rfl))
   (B6 (E1 (C1 (i := 3) A78.nd rfl (A8 rfl) (E3 L8 N4 (A1 (pv 3)) A6)))))) (@F8 _ _ _ _ _ _ (E1 (C1 (i := 4) A78.nd rfl (A8 rfl) (B5w (Y9 j6 B8o PySem.F.type_list_index B41 (pv 2) (A9 (C2 (pv 2) (A1 (pv 3)) (fun _ _ => rfl)) D3 B3))))) (B6 (D2 (P5 (A7 (J7 (B5k (C2 (pv 1) (E5 (D8 (v := V.int 1) rfl T.mg_BY ⟨_, rfl⟩)) (fun _ _ => rfl)) B1t (A7s (A1 (pv 4))))) (A7 (J7 (B5k (C2 (pv 1) (E5 (D8 (v := V.int 1) rfl T.mg_BY ⟨_, rfl⟩)) (fun _ _ => rfl)) (A7s (A1 (pv 4))) (A7s (A1 (pv 3))))) D0 B3) B3)))))))), fun ds Q hl h => ?_⟩)
 obtain ⟨m, ws, st, b, N, PP, L, rfl, ok, hb, W, hN, q⟩ := h
 have m2 := ok.m2
 have hpl : ∀ k, k <= m -> PP k < m := fun k hk => W.pl ok hb k (by omega)
 unfold A8e
 array_mem_dec
 refine ⟨by decide, ⟨rfl, by rw [A1r]; omega⟩, ?_⟩
 unfold G5
 refine A9p (f := fun n => .int (A1d ws n : Nat)) (fun n hm Q' q' => ?_) ?_
 ·obtain ⟨k, hk, rfl⟩ := B3e.mp hm
  obtain ⟨w, hw, _, e, _⟩ := W.way k N[k] (N0 hk)
  right
  rw [A4m hw]
  right
  have e2 : A1d ws N[k] = w.2.1 := by unfold A1d; rw [hw]
  rw [e2] at q'
  exact ⟨rfl, q'⟩
 ·left
  refine ⟨by rw [F6]; omega, ?_⟩
  have epl : PyData.int ((PP 0 : Nat) : Int) :: N.map (fun n => PyData.int ((A1d ws n : Nat) : Int)) = (plI PP (m + 1)).map PyData.int := by
   have := W.places
   rw [hN] at this
   rw [<- C6c, <- this]
   unfold G5
   rw [S0, A3y]
   rfl
  rw [epl]
  unfold A9m
  refine ⟨fun μ ρ => ∃ (k : Nat) (z : Sl), ρ = [Sl.bd (C7 m ws), Sl.sh (A8e (PP 0) N), Sl.sh (.list ((plI PP (m + 1)).map PyData.int)), Sl.sh (.int (k : Nat)), z] /\ 1 <= k /\ k <= m /\ μ + k = m /\ ∀ i j, i < j -> j < k -> PP i ≠ PP j, ⟨m - 1, 1, _, rfl, by omega, ok.m1, by have := ok.m1; omega, fun i j h1 h2 => by omega⟩, ?_⟩
  rintro μ ρ ⟨k, z, rfl, k1, k2, hμ, hd⟩
  right
  have eat : atI ((plI PP (m + 1)).map PyData.int) ((k : Nat) : Int) = some (.int ((PP k : Nat) : Int)) := Y8 (by
   unfold plI
   rw [A3y, R8, R8, B0o (by omega)]
   rfl)
  have ecut : Z2 ((plI PP (m + 1)).map PyData.int) none (some ((k : Nat) : Int)) = (plI PP k).map PyData.int := by
   rw [B12, <- j5]
   congr 1
   unfold plI
   rw [<- j5, <- j5, List.take_range, A8o (by omega)]
  rw [eat]
  right
  rw [ecut, A9n]
  right
  by_cases c : ((PP k : Nat) : Int) ∈ plI PP k
  ·rw [show (!(plI PP k).contains ((PP k : Nat) : Int)) = false by simp [c]]
   right
   rw [A9n]
   right
   have hc2 : ((PP k : Nat) : Int) ∈ plI PP (m + 1) := B2v.mpr ⟨k, by omega, rfl⟩
   refine ⟨⟨hc2, by rw [B2w]; omega⟩, ?_⟩
   obtain ⟨i0, hi0, ei0⟩ := B2v.mp c
   obtain ⟨hi1, hi2⟩ := C6d hc2
   have hik : (plI PP (m + 1)).idxOf ((PP k : Nat) : Int) < k := by
    by_cases h : (plI PP (m + 1)).idxOf ((PP k : Nat) : Int) < k
    ·exact h
    ·exfalso
     have hmem : ((PP k : Nat) : Int) ∈ (plI PP (m + 1)).take k := by
      have : (plI PP (m + 1)).take k = plI PP k := by
       unfold plI
       rw [<- j5, <- j5, List.take_range, A8o (by omega)]
      rw [this]; exact c
     have h1 := B0n.mpr hmem
     rw [A4q, B2w] at h1
     have h2 : (plI PP (m + 1)).idxOf ((PP k : Nat) : Int) = ((plI PP (m + 1)).take k).idxOf ((PP k : Nat) : Int) := by
      conv => lhs; rw [<- List.take_append_drop k (plI PP (m + 1))]
      rw [List.idxOf_append, if_pos hmem]
     omega
   unfold A8e
   right
   generalize (plI PP (m + 1)).idxOf ((PP k : Nat) : Int) = i at hi1 hi2 hik
   refine ⟨by decide, ?_⟩
   have qq := q i k hik k2 hi2
   have e1 : Z2 (G5 N) none (some ((i : Nat) : Int)) = G5 (seg N 0 i) := by
    rw [B12]
    unfold G5 seg
    rw [<- j5, List.drop_zero, Nat.sub_zero]
   have e2 : Z2 (G5 N) (some ((i : Nat) : Int)) (some ((k : Nat) : Int)) = G5 (seg N i k) := by
    rw [C13 (by rw [A1r]; omega) (by rw [A1r]; omega)]
    unfold G5 seg
    rw [j5, List.map_drop]
   rw [e1, e2]
   exact qq
  ·rw [show (!(plI PP k).contains ((PP k : Nat) : Int)) = true by simp [c]]
   decreasing_trivial_pre_omega
   have hd2 : ∀ i j, i < j -> j < k + 1 -> PP i ≠ PP j := fun i j h1 h2 e => by
    by_cases hj : j < k
    ·exact hd i j h1 hj e
    ·have : j = k := by omega
     subst this
     exact c (B2v.mpr ⟨i, h1, e⟩)
   have hkm : k + 1 <= m := by
    have := B2h m ((N5 (k + 1)).map PP) (B7q (k + 1) hd2) fun x hx => by
     obtain ⟨i, hi, rfl⟩ := b4.mp hx
     exact hpl i (by have := i7.mp hi; omega)
    rw [F6, b3] at this
    exact this
   exact ⟨μ - 1, by omega, k + 1, _, rfl, by omega, hkm, by omega, hd2⟩
end
theorem Wk.nb {ws : List Wy} {st : Int} {b : Tb} {N : List Nat} {P : Nat -> Nat} {L : Nat -> Int} (W : Wk ws st b N P L) : ∀ n ∈ N, n < ws.length := fun n hn => by
 obtain ⟨k, hk, rfl⟩ := B3e.mp hn
 obtain ⟨w, hw, _⟩ := W.way k N[k] (N0 hk)
 exact (i8.mp hw).1
theorem C6f {N : List Nat} {i j n : Nat} (h : n ∈ seg N i j) : n ∈ N := List.mem_of_mem_drop (List.mem_of_mem_take h)
theorem B2x {N : List Nat} {i j : Nat} : (seg N i j).length <= N.length := by
 unfold seg
 rw [A4q, List.length_drop]
 omega
theorem B7r {m : Nat} {ws : List Wy} (ok : K2 m ws) (n : Nat) : R6 ws n <= 1000000000000000000 := by
 unfold R6
 split
 ·rename_i w hw; exact ok.hi w (R9 hw)
 ·decide
theorem B7s {B : Int} : ∀ {cs : List Int}, (∀ c ∈ cs, c <= B) -> cs.sum <= (cs.length : Int) * B
 | [], _ => by simp
 | c :: cs, h => by
  have := B7s (cs := cs) fun d hd => h d (C3 _ hd)
  have h1 := h c C6
  rw [B3f, M2, B0r, A7d]
  omega
theorem C6g {x g : Int} (hx : 0 < x) (hg : 0 < g) : 1 <= -(-x / g) /\ -(-x / g) <= x := by
 have e := Int.mul_ediv_add_emod (-x) g
 have r0 := A8p (-x) (show g ≠ 0 by omega)
 have r1 := B3i (-x) hg
 generalize -x / g = d at e
 constructor
 ·by_cases h : 0 <= d
  ·have := Int.mul_nonneg (Int.le_of_lt hg) h
   omega
  ·omega
 ·by_cases h : -x <= d
  ·omega
  ·exfalso
   have h1 : g * d <= g * (-x - 1) := Int.mul_le_mul_of_nonneg_left (by omega) (by omega)
   have h2 : g * (-x - 1) = -(g * x) - g := by rw [Int.mul_sub, Int.mul_neg, Int.mul_one]
   have h3 : 1 * x <= g * x := Int.mul_le_mul_of_nonneg_right (by omega) (by omega)
   omega
theorem C6h {x g : Int} (hg : 0 < g) : x <= -(-x / g) * g := by
 have e := Int.mul_ediv_add_emod (-x) g
 have r0 := A8p (-x) (show g ≠ 0 by omega)
 rw [Int.neg_mul, Int.mul_comm]
 omega
def Y0 (N : List Nat) (i j k : Nat) (tm : Int) : List Pt := (prt (seg N 0 i) ++ [(seg N i j, tm)]) ++ prt (seg N i (i + k))
def C6i : DSp := fun ds Q => ∃ (m : Nat) (ws : List Wy) (st : Int) (b : Tb) (N : List Nat) (P : Nat -> Nat) (L : Nat -> Int), ds = [C7 m ws, .int st, .int (L 0), A8e (P 0) N] /\ K2 m ws /\ 0 <= st /\ st <= 1000000000000000000000 /\ G7 m st b /\ Wk ws st b N P L /\ N.length = m /\
 ∀ i j k le g tp tm, i < j -> j <= m -> P i = P j -> le <= L i -> Rnd st (chs ws (seg N i j)) (L i) le g tp k -> 1 <= tm -> tm <= 1000000000000000000000000 -> tp <= L i + tm * g -> Q (.list ((Y0 N i j k tm).map G1))
theorem A66 {ns : List Nat} : (prt ns).length <= 1 := by unfold prt; split <;> simp
section
variable {P : Program} {w : World} {K : A3} {mg : Str -> Option Value} {base : Heap}
theorem C6j (T : Txt K mg) : D4 P w K mg base CX0 6 T.a_filling_parts T.d_filling_parts ["land", "store", "level", "walk"] (spD [.bd, .sh, .sh, .sh] C6i) := by
 have G_parted_at_round := @C6e P w K mg base T
 have b_parted_at_round := C4a T
 have G_effect_of := @C5i P w K mg base T
 have b_effect_of := C3w T
 have G_changes_of := @C5t P w K mg base T
 have b_changes_of := C30 T
 have G_levels_along := @C5j P w K mg base T
 have b_levels_along := C3t T
 have G_parts_by := @B7k P w K mg base T
 have b_parts_by := B67 T
 refine J3 T.F_filling_parts A3l rfl (fun C cdv A outer s H E hr => ⟨_, (@D1 _ _ _ _ _ _ (E1 (C1 (i := 4) A3l.nd rfl (A8 rfl) (C8 (B7 G_parted_at_round (hr.mono (by decide)) rfl T.mg_parted_at_round T.kp_parted_at_round b_parted_at_round .nil B8 (F3 (pv 0) (A5 (A1 (pv 3)) C5 A0) A0) (he := A0) (hpl := (A2 A0 A4)))))) (@D1 _ _ _ _ _ _ (E1 (C1 (i := 5) A3l.nd rfl (A8 rfl) (C2 (pv 4) A6 (fun _ _ => rfl)))) (@D1 _ _ _ _ _ _ (E1 (C1 (i := 6) A3l.nd rfl (A8 rfl) (C2 (pv 4) A6 (fun _ _ => rfl)))) (@D1 _ _ _ _ _ _ (@E1 _ _ _ _ _ (@C1 _ _ 7 _ _ _ _ A3l.nd rfl (A8 rfl) (@C8 _ _ _ _ _ _ _ (@B7 _ _ _ _ _ _ _ _ _ _ _ _ _ _ _ _ G_effect_of (hr.mono (by decide)) rfl T.mg_effect_of T.kp_effect_of b_effect_of .nil B8 (A5 (A1 (pv 1)) (A5 (C8 (B7 G_changes_of (hr.mono (by decide)) rfl T.mg_changes_of T.kp_changes_of b_changes_of .nil B8 (F3 (pv 0) (A5 (A1 (pv 6)) C5 A0) A0) (he := A0) (hpl := (A2 A0 A4)))) C5 J5) A0) (by decide) A0 ((A2 J5 A4)))) (by rfl) (by first | exact .inl rfl | exact .inr rfl | assumption))) (@D1 _ _ _ _ _ _ (@E1 _ _ _ _ _ (@C1 _ _ 8 _ _ _ _ A3l.nd rfl (A8 rfl) (@E3 _ _ _ _ _ _ _ _ _ _ j8 A0h (C2 (pv 7) (E5 (D8 (v := V.int 2) rfl T.mg_TOP ⟨_, rfl⟩)) (fun _ _ => rfl)) (@L6 _ _ _ _ _ _ _ (@C8 _ _ _ _ _ _ _ (@B7 _ _ _ _ _ _ _ _ _ _ _ _ _ _ _ _ G_levels_along (hr.mono (by decide)) rfl T.mg_levels_along T.kp_levels_along b_levels_along .nil B8 (A5 (A1 (pv 1)) (A5 (A1 (pv 2)) (A5 (C8 (B7 G_changes_of (hr.mono (by decide)) rfl T.mg_changes_of T.kp_changes_of b_changes_of .nil B8 (F3 (pv 0) (A5 (A1 (pv 5)) C5 A0) A0) (he := A0) (hpl := (A2 A0 A4)))) C5 J5) A0) A0) (by decide) A0 ((A2 A0 (A2 J5 A4))))) (A0a A6) (fun _ _ => rfl))) (by rfl) (by first | exact .inl rfl | exact .inr rfl | assumption))) (@D1 _ _ _ _ _ _ (E1 (C1 (i := 9) A3l.nd rfl (A8 rfl) (A0a (E3 B1h B49 (A0a (A1 (pv 8))) (C2 (pv 7) (E5 (D8 (v := V.int 1) rfl T.mg_GAIN ⟨_, rfl⟩)) (fun _ _ => rfl)))))) (@D1 _ _ _ _ _ _ (@E1 _ _ _ _ _ (@C1 _ _ 10 _ _ _ _ A3l.nd rfl (A8 rfl) (@C8 _ _ _ _ _ _ _ (@B7 _ _ _ _ _ _ _ _ _ _ _ _ _ _ _ _ G_levels_along (hr.mono (by decide)) rfl T.mg_levels_along T.kp_levels_along b_levels_along .nil B8 (A5 (A1 (pv 1)) (A5 (C2 (pv 7) (E5 (D8 (v := V.int 2) rfl T.mg_TOP ⟨_, rfl⟩)) (fun _ _ => rfl)) (A5 (C8 (B7 G_changes_of (hr.mono (by decide)) rfl T.mg_changes_of T.kp_changes_of b_changes_of .nil B8 (F3 (pv 0) (A5 (A1 (pv 6)) C5 A0) A0) (he := A0) (hpl := (A2 A0 A4)))) C5 J5) B3) A0) (by decide) A0 ((A2 B3 (A2 J5 A4))))) (by rfl) (by first | exact .inl rfl | exact .inr rfl | assumption))) (@B6 _ _ _ _ (@D2 _ _ _ _ _ (@J7 _ _ _ _ (@A9e _ _ _ _ _ _ _ (J7 (A9e (C8 (B7 G_parts_by (hr.mono (by decide)) rfl T.mg_parts_by T.kp_parts_by b_parts_by .nil B8 (A5 (A1 (pv 5)) C5 A0) (he := A0) (hpl := A4))) (J7 (M1 (A7 (P5 (A7 (A1 (pv 6)) (A7 (A1 (pv 9)) D0 A0) A0)) D0 x8))))) (C8 (B7 G_parts_by (hr.mono (by decide)) rfl T.mg_parts_by T.kp_parts_by b_parts_by .nil B8 (A5 (J7 (B5j (pv 6) B1t (A7s (B5w (Y9 j6 B8o PySem.F.type_list_index B41 (pv 10) (A9 (A1 (pv 1)) D3 A0)))))) C5 B3) (he := B3) (hpl := A4)))))))))))))), fun ds Q hl h => ?_⟩)
 obtain ⟨m, ws, st, b, N, PP, L, rfl, ok, h0, hst, hb, W, hN, q⟩ := h
 have m2 := ok.m2
 left
 refine ⟨rfl, m, ws, st, b, N, PP, L, rfl, ok, hb, W, hN, fun i j hij hj hp => ?_⟩
 have nb : ∀ a c n, n ∈ seg N a c -> n < ws.length := fun a c n hn => W.nb n (C6f hn)
 have fw : ∀ a c, (seg N a c).length <= 900 := fun a c => by have := @B2x N a c; omega
 have fw2 : ∀ a c, (chs ws (seg N a c)).length <= 900 := fun a c => by unfold chs; rw [F6]; exact fw a c
 obtain ⟨b0, b1⟩ := W.bd h0 hb i (by omega)
 obtain ⟨le, g, tp, k, R, hle⟩ := C2k b0 b1 (W.seg (i := i) (j := j) (by omega) (by omega)) (W.strict i j hij (by omega) hp)
 have kl : k <= j - i := by
  have := R.kl
  unfold chs at this
  rw [F6, A71 (by omega)] at this
  exact this
 refine go ?_; left
 refine go ?_; left
 refine go ?_; left
 refine ⟨rfl, m, ws, seg N i j, rfl, nb i j, fw i j, ?_⟩
 left
 refine ⟨st, _, rfl, ?_⟩
 rw [R.fx]
 refine go ?_; right
 refine ⟨rfl, m, ws, seg N 0 i, rfl, nb 0 i, fw 0 i, ?_⟩
 left
 refine ⟨st, L 0, _, rfl, fw2 0 i, ?_⟩
 have w0 := W.seg (i := 0) (j := i) (M9 _) (by omega)
 have hlast : (M7 st (L 0) (chs ws (seg N 0 i))).getLast? = some (L i) := by
  obtain ⟨z, z1, z2⟩ := B2e w0 (chs ws (seg N 0 i)).length (J8 _)
  rw [B0p (J8 _), w0] at z2
  cases z2
  rw [List.getLast?_eq_getElem?, B2f w0]
  exact z1
 left
 rw [show -(1 : Int) = -1 from rfl, A8c (xs := L3 _) (A99 hlast)]
 left
 refine go ?_; left
 have hg : g < 100000000000000000000000000000000000000000000000000000000000000 := by
  rw [R.gs]
  have h1 := B7s (B := 1000000000000000000) (cs := chs ws (seg N i j)) fun c hc => by
   obtain ⟨n, _, rfl⟩ := b4.mp hc
   exact B7r ok n
  have h2 := fw2 i j
  omega
 refine ⟨⟨R.g0, hg⟩, ?_⟩
 refine go ?_; left
 refine ⟨rfl, m, ws, seg N i j, rfl, nb i j, fw i j, ?_⟩
 left
 refine ⟨st, tp, _, rfl, fw2 i j, ?_⟩
 refine go ?_; left
 refine ⟨seg N 0 i, rfl, ?_⟩
 left
 have hp1 := @A66 (seg N 0 i)
 refine ⟨by decide, by decide, by rw [F6]; simp; omega, ?_⟩
 unfold L3
 rw [A9n]
 left
 refine ⟨⟨R.km, by rw [R.ll]; have := fw2 i j; omega⟩, ?_⟩
 rw [R.ki]
 have ecut : Z2 (G5 (seg N i j)) none (some ((k : Nat) : Int)) = G5 (seg N i (i + k)) := by
  rw [B12]
  unfold G5
  rw [<- j5, B2g kl]
 rw [ecut]
 refine ⟨_, rfl, ?_⟩
 left
 have hp2 := @A66 (seg N i (i + k))
 refine ⟨by simp; omega, ?_⟩
 obtain ⟨t1, t2⟩ := C6g (x := tp - L i) (g := g) (by have := R.xt; omega) R.g0
 have t3 := R.tst
 have qq := q i j k le g tp (-(-(tp - L i) / g)) hij hj hp hle R t1 (by omega) (by have := @C6h (tp - L i) g R.g0; omega)
 unfold Y0 at qq
 rw [S0, S0] at qq
 exact qq
end
theorem Rows.risen {m : Nat} {ws : List Wy} {st : Int} {b : Tb} (ok : K2 m ws) (h0 : 0 <= st) (hb : G7 m st b) {r : Rw} {rs : List Rw} (h : Rows m ws st b (r :: rs)) (hn : rs ≠ []) : ∃ p n, gt r.2 p = some n := by
 cases h with
 | one => exact absurd rfl hn
 | @more r0 rs0 h' c =>
  obtain ⟨a1, _, _⟩ := h'.ok ok h0 hb
  have I := g9 (st := st) (t := r0.1) ok a1.len
  by_cases z : ∃ p n, gt (M6 m ws st r0.1 r0.1).2 p = some n
  ·exact z
  ·refine absurd (B2b (by rw [I.l1, a1.len]) fun p => I.no p ?_) c
   cases e : gt (M6 m ws st r0.1 r0.1).2 p with
   | none => rfl
   | some n => exact absurd ⟨p, n, e⟩ z
theorem Rows.rok {m : Nat} {ws : List Wy} {st : Int} {b : Tb} (ok : K2 m ws) (h0 : 0 <= st) (hb : G7 m st b) : ∀ {rs : List Rw}, Rows m ws st b rs -> A1s m ws rs
 | _, .one => fun r hr => by
  have : r = (b, G8 m none) := by simpa using hr
  subst this
  exact ⟨by simp, fun q n e => by rw [A38] at e; cases e⟩
 | _, .more (r := r0) h c => fun r hr => by
  rcases O7.mp hr with e | hr
  ·subst e
   obtain ⟨a1, _, _⟩ := h.ok ok h0 hb
   have I := g9 (st := st) (t := r0.1) ok a1.len
   refine ⟨I.l2, fun q n e => ?_⟩
   obtain ⟨w, hw, _⟩ := I.yes q n e
   exact (i8.mp hw).1
  ·exact Rows.rok ok h0 hb h r hr
theorem C6k {m : Nat} {ws : List Wy} {st : Int} {b : Tb} (ok : K2 m ws) (h0 : 0 <= st) (hb : G7 m st b) : ∃ r rs, (P7 m ws st m (b, G8 m none)).reverse = r :: rs /\ (P7 m ws st m (b, G8 m none)).getLast? = some r /\ (P7 m ws st m (b, G8 m none)).length = rs.length + 1 /\ rs.length <= m /\ Rows m ws st b (r :: rs) /\ A1s m ws (P7 m ws st m (b, G8 m none)) /\
  ((P7 m ws st m (b, G8 m none)).length <= m -> Q8 m ws st b r.1) := by
 obtain ⟨r, rs, e, h, z⟩ := B53 (m := m) (ws := ws) (st := st) (b := b) m (b, G8 m none) [] .one
 rw [List.reverse_nil, W3] at e
 have hl : (P7 m ws st m (b, G8 m none)).length = rs.length + 1 := by
  rw [<- A1w, e]; rfl
 have hbd : ∀ (k : Nat) (q : Rw), (P7 m ws st k q).length <= k + 1 := by
  intro k
  induction k with
  | zero => intro q; exact J8 _
  | succ k ih =>
   intro q
   unfold P7
   split
   ·simp
   ·have := ih (M6 m ws st q.1 q.1); simp; omega
 have hb2 := hbd m (b, G8 m none)
 refine ⟨r, rs, e, ?_, hl, by omega, h, fun q hq => h.rok ok h0 hb q (by rw [<- e]; exact List.mem_reverse.mpr hq), fun hm => ?_⟩
 ·rw [<- List.head?_reverse, e]; rfl
 ·rcases z with z | z
  ·exact h.least ok h0 hb z
  ·rw [M2] at z
   simp at z
   omega
abbrev Rd := Nat × List Pt
def W2 (r : Rd) : PyData := .tuple [.int (r.1 : Nat), .list (r.2.map G1)]
def itF (st : Int) (cs : List Int) : Nat -> Option Int -> Option Int
 | 0, o => o
 | n + 1, o => itF st cs n (wkF st o cs)
def S7 (ws : List Wy) (st : Int) : Option Int -> List Pt -> Option Int
 | o, [] => o
 | o, p :: ps => S7 ws st (itF st (chs ws p.1) p.2.toNat o) ps
theorem A8f {ws : List Wy} {st : Int} : ∀ (xs : List Pt) (o : Option Int) (ys : List Pt), S7 ws st o (xs ++ ys) = S7 ws st (S7 ws st o xs) ys
 | [], _, _ => rfl
 | x :: xs, o, ys => A8f xs _ ys
theorem B2y {ws : List Wy} {st : Int} {o : Option Int} {ns : List Nat} : S7 ws st o (prt ns) = wkF st o (chs ws ns) := by
 cases ns with
 | nil => rfl
 | cons n ns => rfl
theorem B7t {st : Int} {cs : List Int} {le g tp : Int} (fx : fxF st cs = some (le, g, tp)) (g0 : 0 < g) (tst : tp <= st) : ∀ (n : Nat) {x : Int}, 0 <= x -> le <= x -> x <= tp -> itF st cs n (some x) = some (if x + ((n : Nat) : Int) * g < tp then x + ((n : Nat) : Int) * g else tp)
 | 0, x, x0, h1, h2 => by
  show some x = _
  congr 1
  split <;> simp at * <;> omega
 | n + 1, x, x0, h1, h2 => by
  show itF st cs n (wkF st (some x) cs) = _
  have w := A5p x0 (show x <= st by omega) cs
  rw [fx] at w
  unfold L4 at w
  dsimp only at w
  rw [if_neg (by omega)] at w
  rw [<- w]
  have e : (((n + 1 : Nat)) : Int) * g = ((n : Nat) : Int) * g + g := by rw [B0r, A7d]; simp
  have e0 : 0 <= ((n : Nat) : Int) * g := Int.mul_nonneg (by omega) (by omega)
  rw [B7t fx g0 tst n (by split <;> omega) (by split <;> omega) (by split <;> omega), e]
  congr 1
  split <;> split <;> split <;> omega
theorem C6l {ws : List Wy} {st : Int} {b : Tb} {N : List Nat} {P : Nat -> Nat} {L : Nat -> Int} {m : Nat} (W : Wk ws st b N P L) (h0 : 0 <= st) (hb : G7 m st b) {i j : Nat} (hij : i < j) (hj : j <= N.length) {le g tp tm : Int} {k : Nat} (hle : le <= L i) (R : Rnd st (chs ws (seg N i j)) (L i) le g tp k) (t1 : 1 <= tm) (t3 : tp <= L i + tm * g) :
  S7 ws st (some (L 0)) (Y0 N i j k tm) = some st := by
 have kl : k <= j - i := by
  have := R.kl
  unfold chs at this
  rw [F6, A71 hj] at this
  exact this
 unfold Y0
 rw [A8f, A8f, B2y (o := some (L 0)), W.seg (M9 _) (by omega)]
 have hr : S7 ws st (some (L i)) [(seg N i j, tm)] = some tp := by
  show itF st (chs ws (seg N i j)) tm.toNat (some (L i)) = _
  rw [B7t R.fx R.g0 R.tst tm.toNat (W.bd h0 hb i (by omega)).1 hle (Int.le_of_lt R.xt), if_neg (by rw [show ((tm.toNat : Nat) : Int) = tm by omega]; omega)]
 rw [hr, B2y]
 have kw := R.kw
 unfold chs at kw ⊢
 rw [<- j5, B2g kl] at kw
 exact kw
structure B7u (ws : List Wy) (st : Int) (b0 : Tb) (r : Rd) (q : Nat) (y : Int) : Prop where
 trp : Trp ws r.1 r.2 q
 arr : ∃ y0, gt b0 r.1 = some y0 /\ S7 ws st (some y0) r.2 = some y
structure r8 (m : Nat) (ws : List Wy) (st : Int) (b0 b : Tb) (rd : List Rd) (B : Nat) : Prop where
 len : rd.length = m
 ok : ∀ q y r, gt b q = some y -> rd[q]? = some r -> B7u ws st b0 r q y
 few : ∀ r ∈ rd, r.2.length <= B /\ ∀ pt ∈ r.2, pt.1.length <= m
theorem r8.more {m : Nat} {ws : List Wy} {st : Int} {b0 b : Tb} {rd : List Rd} {B C : Nat} (h : r8 m ws st b0 b rd B) (l : B <= C) : r8 m ws st b0 b rd C := ⟨h.len, h.ok, fun r hr => ⟨t8 (h.few r hr).1 l, (h.few r hr).2⟩⟩
def B2z (st : Int) (b0 b : Tb) : Prop := ∀ p, gt b p = gt b0 p \/ gt b p = some st
theorem C6m {N : List Nat} {i j k : Nat} {tm : Int} : ∀ pt ∈ Y0 N i j k tm, pt.1.length <= N.length := fun pt h => by
 have hp : ∀ {a c : Nat}, pt ∈ prt (seg N a c) -> pt.1.length <= N.length := fun {a c} h => by
  unfold prt at h
  split at h
  ·cases h
  ·have : pt = (seg N a c, 1) := by simpa using h
   subst this
   exact B2x
 unfold Y0 at h
 rcases O8.mp h with h | h
 ·rcases O8.mp h with h | h
  ·exact hp h
  ·have : pt = (seg N i j, tm) := by simpa using h
   subst this
   exact B2x
 ·exact hp h
theorem r8.fill {m : Nat} {ws : List Wy} {st : Int} {b0 b : Tb} {rd : List Rd} {B : Nat} (h : r8 m ws st b0 b rd B) {p f : Nat} {x : Int} {r : Rd} {ps : List Pt} (hf : f < b.length) (hp : gt b p = some x) (hr : rd[p]? = some r) (ht : Trp ws p ps f) (ha : S7 ws st (some x) ps = some st) (h3 : ps.length <= 3) (hfe : ∀ pt ∈ ps, pt.1.length <= m) : r8 m ws st b0 (b.set f (some st)) (rd.set f (r.1, r.2 ++ ps)) (B + 3) := by
 refine ⟨by rw [N3]; exact h.len, fun q y r' hq hr' => ?_, fun r' hr' => ?_⟩
 ·rw [Z5 hf] at hq
  by_cases c : f = q
  ·subst c
   rw [if_pos rfl] at hq
   cases hq
   rw [Y4] at hr'
   simp only [if_true] at hr'
   split at hr'
   ·cases hr'
    obtain ⟨t, y0, e0, e1⟩ := h.ok p x r hp hr
    exact ⟨t.app ht, y0, e0, by rw [A8f, e1]; exact ha⟩
   ·cases hr'
  ·rw [if_neg c] at hq
   rw [Q1 c] at hr'
   exact h.ok q y r' hq hr'
 ·rcases List.mem_or_eq_of_mem_set hr' with z | rfl
  ·exact ⟨by have := (h.few r' z).1; omega, (h.few r' z).2⟩
  ·have z := h.few r (R9 hr)
   refine ⟨by have := z.1; rw [O3]; omega, fun pt hpt => ?_⟩
   rcases O8.mp hpt with q | q
   ·exact z.2 pt q
   ·exact hfe pt q
theorem B0a {m : Nat} {ws : List Wy} {st : Int} {b : Tb} (ok : K2 m ws) (h0 : 0 <= st) (hb : G7 m st b) : ∀ {r : Rw} {rs : List Rw}, Rows m ws st b (r :: rs) -> ∀ p x, gt r.1 p = some x ->
  ∃ q y N, wlk ws (r :: rs) p = (q, N) /\ gt b q = some y /\ Pth ws q N p /\ wkF st (some y) (chs ws N) = some x /\ N.length <= rs.length
 | _, _, .one, p, x, e => by
  refine ⟨p, x, [], ?_, e, .nil, rfl, M9 _⟩
  show (match gt (G8 m (none : Option Nat)) p with
   | none => wlk ws [] p
   | some n => ((wlk ws [] (N9 ws n)).1, (wlk ws [] (N9 ws n)).2 ++ [n])) = _
  rw [A38]
  rfl
 | _, _, .more (r := r) (rs := rs) h c, p, x, e => by
  obtain ⟨a1, _, a3⟩ := h.ok ok h0 hb
  have I := g9 (st := st) (t := r.1) ok a1.len
  have ew : wlk ws (M6 m ws st r.1 r.1 :: r :: rs) p = (match gt (M6 m ws st r.1 r.1).2 p with
   | none => wlk ws (r :: rs) p
   | some n => ((wlk ws (r :: rs) (N9 ws n)).1, (wlk ws (r :: rs) (N9 ws n)).2 ++ [n])) := rfl
  cases hn : gt (M6 m ws st r.1 r.1).2 p with
  | none =>
   obtain ⟨q, y, N, f1, f2, f3, f4, f5⟩ := B0a ok h0 hb h p x (by rw [<- I.no p hn]; exact e)
   exact ⟨q, y, N, by rw [ew, hn]; exact f1, f2, f3, f4, by rw [M2]; omega⟩
  | some n =>
   obtain ⟨w, hw, e1, e2, e3⟩ := I.yes p n hn
   rw [e] at e2
   obtain ⟨l', hl', hs⟩ : ∃ l', gt r.1 w.1 = some l' /\ K4 st l' w.2.2 = some x := by
    have hl2 := e2.symm
    unfold M5 at hl2
    split at hl2
    ·cases hl2
    ·rename_i l' e; exact ⟨l', e, hl2⟩
   obtain ⟨q, y, N, f1, f2, f3, f4, f5⟩ := B0a ok h0 hb h w.1 l' hl'
   have ws1 : N9 ws n = w.1 := by unfold N9; rw [hw]
   have wc : R6 ws n = w.2.2 := by unfold R6; rw [hw]
   refine ⟨q, y, N ++ [n], by rw [ew, hn]; show ((wlk ws (r :: rs) (N9 ws n)).1, (wlk ws (r :: rs) (N9 ws n)).2 ++ [n]) = _; rw [ws1, f1], f2, f3.app (by rw [<- e1]; exact .cons hw .nil), ?_, by simp only [O3, M2, A3x]; omega⟩
   unfold chs
   rw [S0, B2d]
   show wkF st (wkF st (some y) (chs ws N)) [R6 ws n] = _
   rw [f4, wc]
   exact hs
def C6n : DSp := fun ds Q => ∃ (m : Nat) (ws : List Wy) (st : Int) (b0 : Tb), ds = [C7 m ws, .int st, .list (C4 b0)] /\ K2 m ws /\ 0 <= st /\ st <= 1000000000000000000000 /\ G7 m st b0 /\
 ∀ (rs qs : List Rw) (r : Rw) (b : Tb) (rd : List Rd), rs.getLast? = some r -> rs.reverse = r :: qs -> Q8 m ws st b0 r.1 -> Rows m ws st b (r :: qs) -> A1s m ws rs -> rs.length <= m -> G7 m st b -> B2z st b0 b -> r8 m ws st b0 b rd (3 * m) -> Q (.tuple [.list (rs.map O2), .list (rd.map W2)])
def B0b (m : Nat) (ws : List Wy) (st : Int) (b0 t : Tb) : Prop := ∀ p x, gt t p = some x -> ∃ q y N, (gt b0 q = some y \/ y = st) /\ gt t q ≠ none /\ leO (some y) (gt t q) /\ Pth ws q N p /\ wkF st (some y) (chs ws N) = some x /\ N.length + 1 <= m
theorem B7v {m : Nat} {ws : List Wy} {st : Int} {b0 b : Tb} (ok : K2 m ws) (h0 : 0 <= st) (hb : G7 m st b) (hf : B2z st b0 b) {r : Rw} {rs : List Rw} (h : Rows m ws st b (r :: rs)) (hl : rs.length + 1 <= m) : B0b m ws st b0 r.1 := fun p x e => by
 obtain ⟨q, y, N, _, f2, f3, f4, f5⟩ := B0a ok h0 hb h p x e
 have up := (h.ok ok h0 hb).2.2 q
 rw [f2] at up
 refine ⟨q, y, N, ?_, fun z => by rw [z] at up; exact g7 up, up, f3, f4, by omega⟩
 rcases hf q with z | z
 ·exact .inl (by rw [<- z]; exact f2)
 ·rw [f2] at z; cases z; exact .inr rfl
def C6o : DSp := fun ds Q => ∃ (m : Nat) (ws : List Wy) (st : Int) (b0 : Tb), ds = [C7 m ws, .int st, .list (C4 b0)] /\ K2 m ws /\ 0 <= st /\ st <= 1000000000000000000000 /\ G7 m st b0 /\ ∀ t, Q8 m ws st b0 t -> B0b m ws st b0 t -> Q (.list (C4 t))
theorem C6p {st : Int} {b : Tb} : A4a st b <= b.length := List.countP_le_length
theorem C6q {N : List Nat} {i j k : Nat} {tm : Int} : (Y0 N i j k tm).length <= 3 := by
 unfold Y0
 have h1 := @A66 (seg N 0 i)
 have h2 := @A66 (seg N i (i + k))
 rw [O3, O3]
 simp
 omega
section
variable {P : Program} {w : World} {K : A3} {mg : Str -> Option Value} {base : Heap}
theorem B7w (T : Txt K mg) : D4 P w K mg base CX0 7 T.a_settled T.d_settled ["land", "store", "base"] (spD [.bd, .sh, .bo] C6n) := by
 have G_rows_from := @C59 P w K mg base T
 have b_rows_from := C37 T
 have G_still_rises := @C6a P w K mg base T
 have b_still_rises := C38 T
 have G_rising_walk := @C6b P w K mg base T
 have b_rising_walk := C39 T
 have G_filling_parts := @C6j P w K mg base T
 have b_filling_parts := C4b T
 have G_end_of := @C52 P w K mg base T
 have b_end_of := C36 T
 refine J3 T.F_settled A1o rfl (fun C cdv A outer s H E hr => ⟨_, (@D1 _ _ _ _ _ _ (g6 (C1 (i := 3) A1o.nd rfl (A8 rfl) (A7r (b9 A12 rfl T.n_list X4 (A9 (pv 2) D3 A0) (he := A0) (hpl := A4))))) (@D1 _ _ _ _ _ _ (@C1w _ _ _ _ _ _ _ _ _ rfl (@B4u _ _ _ _ _ _ _ _ _ _ _ _ _ 4 _ _ _ _ _ A1o.nd rfl (A8 rfl) (W5.new (N := ["land", "store", "base", "table", "roads", "rows", "walk", "parts", "full", "road"]) (osc := B0 A4e) (by decide +kernel)) rfl (A2b (w4 rfl T.n_range (A7 (h8 (O0 (V8 (pv 0)) (E5 (D8 (v := V.int 0) rfl T.mg_MANY ⟨_, rfl⟩)) (fun _ _ => rfl))) D0 B3))) (fun _ => A9k) (fun _ => (P5 (A7 (A1 (pv 10)) (A7 (J7 (M1 D0)) D0 B1l) A0))) (by rfl) (by first | exact .inl rfl | exact .inr rfl | assumption) (by rfl) (by rfl) (by intro _; rfl))) (@D1 _ _ _ _ _ _ (E1 (C1 (i := 5) A1o.nd rfl (A8 rfl) (C8 (B7 G_rows_from (hr.mono (by decide)) rfl T.mg_rows_from T.kp_rows_from b_rows_from .nil B8 (F3 (pv 0) (A5 (A1 (pv 1)) (F3 (pv 3) C5 A0) A0) A0) (he := A0) (hpl := (A2 A0 (A2 A0 A4))))))) (@D1 _ _ _ _ _ _ (@B11 _ _ _ _ _ (@A7g _ _ _ _ _ _ Q3 (V0 (C8 (B7 G_still_rises (hr.mono (by decide)) rfl T.mg_still_rises T.kp_still_rises b_still_rises .nil B8 (F3 (pv 0) (A5 (A1 (pv 5)) C5 A0) A0) (he := A0) (hpl := (A2 A0 A4))))) (@D1 _ _ _ _ _ _ (E1 (C1 (i := 6) A1o.nd rfl (A8 rfl) (C8 (B7 G_rising_walk (hr.mono (by decide)) rfl T.mg_rising_walk T.kp_rising_walk b_rising_walk .nil B8 (F3 (pv 0) (A5 (A1 (pv 5)) C5 A0) A0) (he := A0) (hpl := (A2 A0 A4)))))) (@D1 _ _ _ _ _ _ (@E1 _ _ _ _ _ (@C1 _ _ 7 _ _ _ _ A1o.nd rfl (A8 rfl) (@C8 _ _ _ _ _ _ _ (@B7 _ _ _ _ _ _ _ _ _ _ _ _ _ _ _ _ G_filling_parts (hr.mono (by decide)) rfl T.mg_filling_parts T.kp_filling_parts b_filling_parts .nil B8 (F3 (pv 0) (A5 (A1 (pv 1)) (A5 (C2 (pv 3) (C2 (pv 6) (E5 (D8 (v := V.int 0) rfl T.mg_FROM ⟨_, rfl⟩)) (fun _ _ => rfl)) (fun _ _ => rfl)) (A5 (A1 (pv 6)) C5 A0) B3) A0) A0) (by decide) A0 ((A2 A0 (A2 B3 (A2 A0 A4)))))) (by rfl) (by first | exact .inl rfl | exact .inr rfl | assumption))) (@D1 _ _ _ _ _ _ (E1 (C1 (i := 8) A1o.nd rfl (A8 rfl) (C8 (B7 G_end_of (hr.mono (by decide)) rfl T.mg_end_of T.kp_end_of b_end_of .nil B8 (F3 (pv 0) (A5 (C2 (pv 6) (E5 (D8 (v := V.int 0) rfl T.mg_FROM ⟨_, rfl⟩)) (fun _ _ => rfl)) (A5 (A1 (pv 7)) C5 A0) B3) A0) (he := A0) (hpl := (A2 B3 (A2 A0 A4))))))) (@D1 _ _ _ _ _ _ (E1 (C1 (i := 9) A1o.nd rfl (A8 rfl) (C2 (pv 4) (C2 (pv 6) (E5 (D8 (v := V.int 0) rfl T.mg_FROM ⟨_, rfl⟩)) (fun _ _ => rfl)) (fun _ _ => rfl)))) (@D1 _ _ _ _ _ _ (A7x (Q5 (P5 (A7 (C2 (pv 9) (E5 (D8 (v := V.int 0) rfl T.mg_FROM ⟨_, rfl⟩)) (fun _ _ => rfl)) (A7 (J7 (A9e (C2 (pv 9) (E5 (D8 (v := V.int 1) rfl T.mg_BY ⟨_, rfl⟩)) (fun _ _ => rfl)) (A1 (pv 7)))) D0 G6) B3)) (Y6 (pv 4) (A1 (pv 8)) W4))) (@D1 _ _ _ _ _ _ (A7x (Q5 (A1 (pv 1)) (Y6 (pv 3) (A1 (pv 8)) W4))) (B6 (E1 (C1 (i := 5) A1o.nd rfl (A8 rfl) (C8 (B7 G_rows_from (hr.mono (by decide)) rfl T.mg_rows_from T.kp_rows_from b_rows_from .nil B8 (F3 (pv 0) (A5 (A1 (pv 1)) (F3 (pv 3) C5 A0) A0) A0) (he := A0) (hpl := (A2 A0 (A2 A0 A4)))))))))))))))) (B6 (D2 (P5 (A7 (A1 (pv 5)) (A7 (A1 (pv 4)) D0 A0) A0)))))))), fun ds Q hl h => ?_⟩)
 obtain ⟨m, ws, st, b0, rfl, ok, h0, hst, hb0, q⟩ := h
 have m2 := ok.m2
 left
 refine go ?_; array_mem_dec
 refine ⟨rfl, ⟨by omega, by omega⟩, ⟨rfl, by unfold K8; rw [F6, b3]; omega⟩, ?_⟩
 unfold K8
 rw [show ((m : Nat) : Int).toNat = m by simp]
 refine A9p (f := fun i => .tuple [.int (0 + ((i : Nat) : Int)), .list []]) (fun i hi Q' q' => ?_) ?_
 ·left
  exact ⟨by decide, by decide, q'⟩
 left
 rw [show List.map (fun i => PyData.tuple [.int (0 + ((i : Nat) : Int)), .list []]) (N5 m) = List.map W2 ((N5 m).map fun i => (i, ([] : List Pt))) by
  rw [A3y]
  refine List.map_congr_left fun i _ => ?_
  show PyData.tuple [.int (0 + ((i : Nat) : Int)), .list []] = .tuple [.int ((i : Nat) : Int), .list []]
  rw [Int.zero_add]]
 refine go ?_; left
 refine ⟨rfl, rfl, m, ws, st, b0, rfl, ok, hb0.len, ?_⟩
 left
 refine go ?_
 unfold N7 A9m
 refine ⟨fun μ ρ => ∃ (b : Tb) (rd : List Rd) (z2 z6 z7 z8 z9 : Sl), ρ = [Sl.bd (C7 m ws), Sl.sh (.int st), z2, Sl.ow (C4 b), Sl.ow (rd.map W2), Sl.sh (.list ((P7 m ws st m (b, G8 m none)).map O2)), z6, z7, z8, z9] /\ G7 m st b /\ A4a st b = μ /\ (∀ t, Q8 m ws st b t -> Q8 m ws st b0 t) /\ B2z st b0 b /\ r8 m ws st b0 b rd (3 * (m - μ)),
  ⟨A4a st b0, b0, _, _, _, _, _, _, rfl, hb0, rfl, fun t h => h, fun p => .inl rfl, by simp, fun q y r hq hr => ?_, fun r hr => ?_⟩, ?_⟩
 ·rw [R8] at hr
  cases e : (N5 m)[q]? with
  | none => rw [e] at hr; cases hr
  | some i =>
   rw [e] at hr
   obtain ⟨_, e2⟩ := i8.mp e
   rw [List.getElem_range] at e2
   subst e2
   cases hr
   exact ⟨.nil, y, hq, rfl⟩
 ·obtain ⟨i, _, rfl⟩ := b4.mp hr
  exact ⟨M9 _, fun pt h => nomatch h⟩
 rintro μ ρ ⟨b, rd, z2, z6, z7, z8, z9, rfl, hb, hμ, hle, hfl, hrd⟩
 obtain ⟨r, rs, e1, e2, e3, e4, hR, hok, hfin⟩ := C6k ok h0 hb
 left
 refine ⟨rfl, m, ws, _, rfl, ?_⟩
 by_cases c : m < (P7 m ws st m (b, G8 m none)).length
 ·rw [decide_eq_true c]
  sizeOf_list_dec
  have hne : rs ≠ [] := fun z => by rw [z] at e3; have := ok.m1; simp at e3; omega
  refine ⟨rfl, m, ws, _, r, rfl, ok, hok, by omega, e2, hR.risen ok h0 hb hne, fun p n hp hn => ?_⟩
  obtain ⟨N, PP, L, f1, f2, f3, f4, W, f6⟩ := B6c ok h0 hb hR p (.inr ⟨n, hn⟩)
  have hN : N.length = m := by omega
  rw [e1, f1]
  have hbeg : gt b (PP 0) = some (L 0) := W.beg
  have hP0 : PP 0 < m := W.pl ok hb 0 (M9 _)
  refine go ?_; left
  rw [Z7 (by rw [hb.len]; exact hP0), hbeg]
  right
  refine ⟨rfl, m, ws, st, b, N, PP, L, rfl, ok, h0, hst, hb, W, hN, fun i j k le g tp tm hij hj hpp hle2 R t1 t2 t3 => ?_⟩
  have kl : k <= j - i := by
   have := R.kl
   unfold chs at this
   rw [F6, A71 (by omega)] at this
   exact this
  have hfull : PP (i + k) < m := W.pl ok hb (i + k) (by omega)
  have htrp : Trp ws (PP 0) (Y0 N i j k tm) (PP (i + k)) := by
   unfold Y0
   refine ((B2u (W.pth (i := 0) (j := i) (M9 _) (by omega))).app ?_).app (B2u (W.pth (i := i) (j := i + k) (by omega) (by omega)))
   have hs := W.pth (i := i) (j := j) (by omega) (by omega)
   rw [<- hpp] at hs
   exact .cons hs (fun z => by have := congrArg A3q z; rw [A71 (by omega)] at this; simp at this; omega) t1 t2 (.inr rfl) .nil
  have harr := C6l W h0 hb hij (by omega) hle2 R t1 t3
  refine go ?_; left
  refine ⟨rfl, m, ws, PP 0, PP (i + k), _, rfl, htrp, ?_⟩
  obtain ⟨r0, hr0⟩ : ∃ d, rd[PP 0]? = some d := ⟨_, N0 (by rw [hrd.len]; exact hP0)⟩
  have hps := (hrd.few r0 (R9 hr0)).1
  refine go ?_; left
  rw [Y8 (show (rd.map W2)[PP 0]? = some (.tuple [.int (r0.1 : Nat), .list (r0.2.map G1)]) by rw [R8, hr0]; rfl)]
  left
  refine go ?_; left
  have h3 := @C6q N i j k tm
  have hlk := B6e st b (PP (i + k)) (by rw [hb.len]; exact hfull) (C2m W h0 hb hij (by omega) hpp (by omega))
  have hlm := @C6p st b
  rw [hb.len] at hlm
  refine ⟨by rw [F6, F6]; omega, by decide, ?_⟩
  rw [A8b (by rw [F6, hrd.len]; exact hfull)]
  left
  rw [show (rd.map W2).set (PP (i + k)) (.tuple [.int (r0.1 : Nat), .list (r0.2.map G1 ++ (Y0 N i j k tm).map G1)]) = (rd.set (PP (i + k)) (r0.1, r0.2 ++ Y0 N i j k tm)).map W2 by
   rw [List.map_set, <- S0]; rfl]
  refine go ?_; left
  rw [A8b (by rw [A1q, hb.len]; exact hfull)]
  left
  rw [show (C4 b).set (PP (i + k)) (PyData.int st) = C4 (b.set (PP (i + k)) (some st)) from B2t (x := some st)]
  refine go ?_; left
  have hb' := C2n h0 hb hfull
  refine ⟨rfl, rfl, m, ws, st, _, rfl, ok, hb'.len, ?_⟩
  left
  refine ⟨A4a st (b.set (PP (i + k)) (some st)), by omega, b.set (PP (i + k)) (some st), rd.set (PP (i + k)) (r0.1, r0.2 ++ Y0 N i j k tm), _, _, _, _, _, rfl, hb', rfl, fun t h => hle t (h.fill hb hfull fun T hT h1 h2 => C2l W hij (by omega) hpp hle2 R hT h1 h2), fun p => ?_, (hrd.fill (by rw [hb.len]; exact hfull) hbeg hr0 htrp harr h3 fun pt hpt => by rw [<- hN]; exact C6m pt hpt).more (by omega)⟩
  rw [Z5 (by rw [hb.len]; exact hfull)]
  split
  ·exact .inr rfl
  ·exact hfl p
 ·rw [decide_eq_false c]
  left
  refine go ?_
  left
  refine ⟨by decide, ?_⟩
  exact q _ rs r b rd e2 e1 (hle _ (hfin (by omega))) hR hok (by omega) hb hfl (hrd.more (by omega))
theorem C6r (T : Txt K mg) : D4 P w K mg base CX0 8 T.a_highest T.d_highest ["land", "store", "base"] (spD [.bd, .sh, .bo] C6o) := by
 have G_settled := @B7w P w K mg base T
 have b_settled := B68 T
 refine J3 T.F_highest C3j rfl (fun C cdv A outer s H E hr => ⟨_, (@B6 _ _ _ _ (@D2 _ _ _ _ _ (@L6 _ _ _ _ _ _ _ (L6 (L6 (C8 (B7 G_settled (hr.mono (by decide)) rfl T.mg_settled T.kp_settled b_settled .nil B8 (F3 (pv 0) (A5 (A1 (pv 1)) (F3 (pv 2) C5 A0) A0) A0) (he := A0) (hpl := (A2 A0 (A2 A0 A4))))) A6 (fun _ _ => rfl)) (A0a A6) (fun _ _ => rfl)) (E5 (D8 (v := V.int 0) rfl T.mg_TABLE ⟨_, rfl⟩)) (fun _ _ => rfl)))), fun ds Q hl h => ?_⟩)
 obtain ⟨m, ws, st, b0, rfl, ok, h0, hst, hb0, q⟩ := h
 left
 refine ⟨rfl, rfl, m, ws, st, b0, rfl, ok, h0, hst, hb0, fun rs qs r b rd hl he hL hR hok hlen hb hf hrd => ?_⟩
 left
 rw [show -(1 : Int) = -1 from rfl, A8c (A99 hl)]
 right
 have hq : qs.length + 1 <= m := by
  have := congrArg A3q he
  rw [A1w, M2] at this
  omega
 exact q _ hL (B7v ok h0 hb hf hR hq)
end
def trO : Option Rd -> PyData
 | none => .none
 | some r => W2 r
def Z8 (ws : List Wy) (rs : List Rw) (rd : List Rd) (p : Nat) : Rd := ((rd.getD (wlk ws rs.reverse p).1 (0, [])).1, (rd.getD (wlk ws rs.reverse p).1 (0, [])).2 ++ prt (wlk ws rs.reverse p).2)
def C8t : DSp := fun ds Q => ∃ (m : Nat) (ws : List Wy) (rs : List Rw) (rd : List Rd) (p : Nat), ds = [C7 m ws, .list (rs.map O2), .list (rd.map W2), .int (p : Nat)] /\ p < m /\ K2 m ws /\ A1s m ws rs /\ rs.length <= 900 /\ (wlk ws rs.reverse p).1 < rd.length /\ (∀ r ∈ rd, r.2.length <= 900) /\ Q (W2 (Z8 ws rs rd p))
structure B7x (m : Nat) (ws : List Wy) (st : Int) (b0 : Tb) (r : Rd) (p : Nat) (x : Int) : Prop extends B7u ws st b0 r p x where
 few : r.2.length <= 40
 thin : ∀ pt ∈ r.2, pt.1.length <= 12
structure B20 (m : Nat) (ws : List Wy) (st : Int) (b0 t : Tb) (trs : List (Option Rd)) : Prop where
 len : trs.length = m
 no : ∀ p, p < m -> gt t p = none -> trs[p]? = some none
 yes : ∀ p x, gt t p = some x -> ∃ r, trs[p]? = some (some r) /\ B7x m ws st b0 r p x
def C6s : DSp := fun ds Q => ∃ (m : Nat) (ws : List Wy) (st : Int) (b0 : Tb), ds = [C7 m ws, .int st, .list (C4 b0)] /\ K2 m ws /\ 0 <= st /\ st <= 1000000000000000000000 /\ G7 m st b0 /\ ∀ t trs, Q8 m ws st b0 t -> B0b m ws st b0 t -> B20 m ws st b0 t trs -> Q (.list (trs.map trO))
theorem C8u (n : Nat) : K8 0 n = (N5 n).map fun k => PyData.int ((k : Nat) : Int) := by
 unfold K8
 exact List.map_congr_left fun k _ => by rw [Int.zero_add]
theorem C6t {ns : List Nat} {pt : Pt} (h : pt ∈ prt ns) : pt.1.length <= ns.length := by
 unfold prt at h
 split at h
 ·cases h
 ·have : pt = (ns, 1) := by simpa using h
  subst this
  exact J8 _
theorem B7y {m : Nat} {ws : List Wy} {st : Int} {b0 b : Tb} {rd : List Rd} {r : Rw} {qs rs : List Rw} (ok : K2 m ws) (h0 : 0 <= st) (hb : G7 m st b) (he : rs.reverse = r :: qs) (hR : Rows m ws st b (r :: qs)) (hl : rs.length <= m) (hrd : r8 m ws st b0 b rd (3 * m)) {p : Nat} {x : Int} (e : gt r.1 p = some x) : (wlk ws rs.reverse p).1 < m /\ B7x m ws st b0 (Z8 ws rs rd p) p x := by
 obtain ⟨q, y, N, f1, f2, f3, f4, f5⟩ := B0a ok h0 hb hR p x e
 have m2 := ok.m2
 have hq : q < m := by
  by_cases h : q < m
  ·exact h
  ·rw [A21 (by rw [hb.len]; omega)] at f2; cases f2
 have hqs : qs.length + 1 <= m := by
  have := congrArg A3q he
  rw [A1w, M2] at this
  omega
 rw [he, f1]
 refine ⟨hq, ?_⟩
 unfold Z8
 rw [he, f1]
 obtain ⟨d, hd⟩ : ∃ d, rd[q]? = some d := ⟨_, N0 (by rw [hrd.len]; exact hq)⟩
 rw [List.getD_eq_getElem?_getD, hd]
 obtain ⟨t, y0, e0, e1⟩ := hrd.ok q y d f2 hd
 have hfe := hrd.few d (R9 hd)
 refine ⟨⟨t.app (B2u f3), y0, e0, ?_⟩, ?_, fun pt hpt => ?_⟩
 ·show S7 ws st (some y0) (d.2 ++ prt N) = _
  rw [A8f, e1, B2y]
  exact f4
 ·show (d.2 ++ prt N).length <= 40
  have := hfe.1
  have := @A66 N
  rw [O3]
  omega
 ·rcases O8.mp (show pt ∈ d.2 ++ prt N from hpt) with z | z
  ·have := hfe.2 pt z; omega
  ·have := C6t z; omega
def B7z : Sp := fun vs H Q _ => ∃ (F : Addr -> Prop) (vl vr vd : V) (m : Nat) (ws : List Wy) (rs : List Rw) (rd : List Rd) (p : Nat), vs = [vl, vr, vd, .int (p : Nat)] /\ ThV F H vl (C7 m ws) /\ ThV F H vr (.list (rs.map O2)) /\ ThV F H vd (.list (rd.map W2)) /\ (p < m /\ K2 m ws /\ A1s m ws rs /\ rs.length <= 900 /\ (wlk ws rs.reverse p).1 < rd.length /\ ∀ r ∈ rd, r.2.length <= 900) /\
 ∀ v H' fp, Same H H' -> FpV (fun b => H b = none \/ ∃ xs, H b = some (.tup xs)) H' v (W2 (Z8 ws rs rd p)) fp -> fp.Nodup -> Q v H'
theorem A3p {H H' : Hp} (k : Kq none H H') : Same H H' := fun b o e => k b o e fun q hq => nomatch hq
theorem C6u {G F2 : Addr -> Prop} {H2 H3 : Hp} {l : Addr} {ns : List Nat} {zs : List V} (hG : ∀ b, F2 b -> G b) (hF : ∀ b, F2 b -> H2 b = none \/ (∃ xs, H2 b = some (.tup xs)) \/ b = l) (sm : Same H2 H3) (t : B4 F2 H3 zs ((prt ns).map G1)) : ∃ fq, F4 G H3 zs ((prt ns).map G1) fq /\ fq.Nodup /\ ∀ b ∈ fq, H2 b = none \/ b = l := by
 unfold prt at t ⊢
 split at t
 ·rename_i c
  rw [if_pos c]
  cases t
  exact ⟨[], .nil, B0s, fun b hb => nomatch hb⟩
 ·rename_i c
  rw [if_neg c]
  obtain ⟨v, rfl, t1⟩ := A5j t
  obtain ⟨tq, xs, rfl, g1, e1, t2⟩ := A03 t1
  obtain ⟨v1, v2, rfl, t3, t4⟩ := X6 t2
  obtain ⟨l', us, rfl, g2, e2, t5⟩ := P9 t3
  cases t4
  have hu := t5.fp0 (A8d _)
  refine ⟨[l'] ++ ([] ++ []) ++ [], .cons (.tup (hG _ g1) e1 (.cons (.lst (hG _ g2) e2 (hu.mvm fun b o z e _ => ⟨hG b z, e⟩)) (.cons (.int _) .nil))) .nil, by simp, fun b hb => ?_⟩
  have : b = l' := by simpa using hb
  subst this
  rcases hF b g2 with h | ⟨xs, h⟩ | h
  ·exact .inl h
  ·have := sm b _ h
   rw [e2] at this; cases this
  ·exact .inr h
section
variable {P : Program} {w : World} {K : A3} {mg : Str -> Option Value} {base : Heap}
theorem C6v (T : Txt K mg) : D4 P w K mg base CX0 3 T.a_trip_to T.d_trip_to ["land", "rows", "roads", "place"] B7z := by
 have G_walk_to := @B7j P w K mg base T
 have b_walk_to := B66 T
 have G_parts_by := @B7k P w K mg base T
 have b_parts_by := B67 T
 refine T.F_trip_to.ok A94 (fun vs H Q E h => ?_) (fun cdv A outer s H vs Q E hr h => ?_)
 ·obtain ⟨F, vl, vr, vd, m, ws, rs, rd, p, rfl, _⟩ := h
  rfl
 ·obtain ⟨F, vl, vr, vd, m, ws, rs, rd, p, rfl, tl, tr, td, ⟨hp, ok, hR, hn, hw, hfe⟩, q⟩ := h
  refine ⟨_, (K5 (C1 (i := 4) A94.nd rfl (A8 rfl) (B7 G_walk_to (hr.mono (by decide)) rfl T.mg_walk_to T.kp_walk_to b_walk_to .nil B8 (A9 (pv 0) (A9 (pv 1) (A9 (pv 3) D3 A0) A0) A0) (he := A0) (hpl := (A2 A0 (A2 A0 A4)))))
   (K5 (C1 (i := 5) A94.nd rfl (A8 rfl) (J0 L9 (pv 2) (J0 L9 (pv 4) (D8 (v := V.int 0) rfl T.mg_FROM ⟨_, rfl⟩) (fun _ _ => rfl)) (fun _ _ => rfl)))
   (K5 (B4u (i := 6) A94.nd rfl (A8 rfl) (W5.new (N := ["land", "rows", "roads", "place", "walk", "road", "trip"]) (osc := B0 A4f) (by decide +kernel)) rfl (A8t (J0 L9 (pv 5) (D8 (v := V.int 1) rfl T.mg_BY ⟨_, rfl⟩) (fun _ _ => rfl))) (fun _ => B1e) (fun _ => (A49 (A9 (b9 A12 rfl T.n_list X4 (A9 (J0 L9 (pv 7) (D8 (v := V.int 0) rfl T.mg_NUMBERS ⟨_, rfl⟩) (fun _ _ => rfl)) D3 B3) (he := B3) (hpl := A4)) (A9 (J0 L9 (pv 7) (D8 (v := V.int 1) rfl T.mg_TIMES ⟨_, rfl⟩) (fun _ _ => rfl)) D3 B3) J5))))
   (S3 (v7 (A49 (A9 (J0 L9 (pv 5) (D8 (v := V.int 0) rfl T.mg_FROM ⟨_, rfl⟩) (fun _ _ => rfl)) (A9 (M4 A83 (pv 6) (B7 G_parts_by (hr.mono (by decide)) rfl T.mg_parts_by T.kp_parts_by b_parts_by .nil B8 (A9 (J0 L9 (pv 4) (D8 (v := V.int 1) rfl T.mg_BY ⟨_, rfl⟩) (fun _ _ => rfl)) D3 B3) (he := B3) (hpl := A4))) D3 G6) B3))))))), ?_⟩
  let G : Addr -> Prop := fun b => H b = none \/ ∃ xs, H b = some (.tup xs)
  refine ⟨vl, rfl, vr, rfl, .int (p : Nat), rfl, ?_⟩
  refine ⟨G, none, [C7 m ws, .list (rs.map O2), .int (p : Nat)], fun d => d = .tuple [.int ((wlk ws rs.reverse p).1 : Nat), .list (G5 (wlk ws rs.reverse p).2)], ⟨fun b hb => .inl hb, fun b xs e => .inr ⟨xs, e⟩⟩, fun q hq => (nomatch hq), fun q hq => (nomatch hq), .cons (ThV.mv (fun b o _ e => ⟨fun q hq => (nomatch hq), e⟩) tl) (.cons (ThV.mv (fun b o _ e => ⟨fun q hq => (nomatch hq), e⟩) tr) (.cons (.int _) .nil)), ⟨m, ws, rs, p, rfl, hp, ok, hR, hn, rfl⟩, fun dw vw H1 hd tw k1 _ => ?_⟩
  subst hd
  have s1 := A3p k1
  obtain ⟨aw, xw, rfl, _, ew, tw2⟩ := A03 tw
  obtain ⟨w1, w2, rfl, tw3, tw4⟩ := X6 tw2
  cases tw3
  obtain ⟨l, lus, rfl, gl, el, tl5⟩ := P9 tw4
  have hlN : H l = none := by
   rcases gl with h | ⟨xs, h⟩
   ·exact h
   ·have := s1 l _ h
    rw [el] at this; cases this
  obtain ⟨d, hd⟩ : ∃ d, rd[(wlk ws rs.reverse p).1]? = some d := ⟨_, N0 hw⟩
  have hd2 := hfe d (R9 hd)
  unfold Z8 at q
  rw [List.getD_eq_getElem?_getD, hd] at q
  obtain ⟨ar, rvs, rfl, _, er, td2⟩ := P9 td
  obtain ⟨vroad, hvr, tro⟩ := td2.at (show (rd.map W2)[(wlk ws rs.reverse p).1]? = some (W2 d) by rw [R8, hd]; rfl)
  obtain ⟨ad, xd, rfl, _, ead, td3⟩ := A03 tro
  obtain ⟨u1, u2, rfl, td4, td5⟩ := X6 td3
  cases td4
  obtain ⟨lb, us, rfl, _, elb, tus⟩ := P9 td5
  refine ⟨_, rfl, _, rfl, .inr (.inl ⟨aw, _, 0, _, rfl, rfl, SqT.of ew, rfl, .inl ⟨ar, rvs, _, _, rfl, rfl, SqL.of (s1 _ _ er), Y8 hvr, ?_⟩⟩)⟩
  refine ⟨_, rfl, .inr (.inl ⟨ad, _, 1, _, rfl, rfl, SqT.of (s1 _ _ ead), rfl, lb, rfl, ⟨us, SqL.of (s1 _ _ elb)⟩, ?_⟩)⟩
  refine C0x (xs := us) (fun i ys H' => Same H1 H' /\ ys.length = i /\ ∃ fp, F4 G H' ys ((d.2.take i).map G1) fp /\ fp.Nodup /\ ∀ b ∈ fp, H1 b = none) ?_ ?_ ?_ ?_ ?_
  ·rw [tus.len, F6, sizeLine_eq]; omega
  ·exact ⟨Same.refl _, rfl, [], .nil, B0s, fun b hb => nomatch hb⟩
  ·exact fun i ys H' _ h => ⟨by rw [h.2.1]; exact J8 _, SqL.of (h.1 _ _ (s1 _ _ elb))⟩
  ·rintro i x ys H' hx ⟨sm, hl, fp, Tf, nd, nw⟩ ca
   obtain ⟨dp, hdp, tx⟩ := tus.get hx
   rw [R8] at hdp
   obtain ⟨pt, hpt, rfl⟩ := B3h.mp hdp
   obtain ⟨tb, xb, rfl, _, etb, tb2⟩ := A03 tx
   obtain ⟨b1, b2, rfl, tb3, tb4⟩ := X6 tb2
   cases tb4
   obtain ⟨ln, lns, rfl, _, eln, tln⟩ := P9 tb3
   have etb' := sm _ _ (s1 _ _ etb)
   have eln' := sm _ _ (s1 _ _ eln)
   unfold B1d
   refine L5 ?_
   refine ⟨_, rfl, .inr (.inl ⟨tb, _, 0, _, rfl, rfl, SqT.of etb', rfl, ln, lns, rfl, .inl (SqL.of eln'), fun l2 hl2 => ?_⟩)⟩
   have k2 : ∀ b o, H' b = some o -> upd H' l2 (.lst lns) b = some o := fun b o e => by rw [B9 (M3 e hl2)]; exact e
   refine ⟨_, rfl, .inr (.inl ⟨tb, _, 1, _, rfl, rfl, SqT.of (k2 _ _ etb'), rfl, by show 2 <= sizeLine; decide, fun t2 ht2 => ?_⟩)⟩
   have k3 : ∀ b o, H' b = some o -> upd (upd H' l2 (.lst lns)) t2 (.tup [.ref l2, .int pt.2]) b = some o := fun b o e => by rw [B9 (M3 (k2 b o e) ht2)]; exact k2 b o e
   have kn : ∀ b, H' b = none -> H b = none := fun b hb => by
    cases z : H b with
    | none => rfl
    | some o => rw [sm _ _ (s1 _ _ z)] at hb; cases hb
   have kn1 : ∀ b, H' b = none -> H1 b = none := fun b hb => by
    cases z : H1 b with
    | none => rfl
    | some o => rw [sm _ _ z] at hb; cases hb
   have ht2' : H' t2 = none := by
    cases z : H' t2 with
    | none => rfl
    | some o => rw [k2 _ _ z] at ht2; cases ht2
   have el2 : upd (upd H' l2 (.lst lns)) t2 (.tup [.ref l2, .int pt.2]) l2 = some (.lst lns) := by rw [B9 (M3 J1 ht2)]; exact J1
   have hu := (tln.fp0 (A8d _)).mvm (G := G) (H' := upd (upd H' l2 (.lst lns)) t2 (.tup [.ref l2, .int pt.2])) fun b o _ e h => by
    have e' := k3 _ _ (sm _ _ (s1 _ _ e))
    rcases h with h | ⟨xs, rfl⟩
    ·cases h
    ·exact ⟨.inr ⟨xs, e⟩, e'⟩
   have item : FpV G (upd (upd H' l2 (.lst lns)) t2 (.tup [.ref l2, .int pt.2])) (.ref t2) (G1 pt) ([l2] ++ ([] ++ [])) := .tup (.inl (kn _ ht2')) J1 (.cons (.lst (.inl (kn _ hl2)) el2 hu) (.cons (.int _) .nil))
   refine ⟨fun b o e => k3 b o (sm b o e), by rw [O3, hl]; rfl, fp ++ ([l2] ++ ([] ++ []) ++ []), ?_, ?_, fun b hb => ?_⟩
   ·rw [List.take_add_one, hpt]
    show F4 G _ _ (List.map G1 (d.2.take i ++ [pt])) _
    rw [S0]
    exact (Tf.mvm fun b o g e _ => ⟨g, k3 b o e⟩).append (.cons item .nil)
   ·refine A3v.mpr ⟨nd, by simp, fun b hb c hc e => ?_⟩
    have : c = l2 := by simpa using hc
    subst this
    subst e
    obtain ⟨_, xs, ex⟩ := Tf.mem b hb
    rw [ex] at hl2; cases hl2
   ·rcases O8.mp hb with h | h
    ·exact nw b h
    ·have : b = l2 := by simpa using h
     subst this
     exact kn1 b hl2
  rintro ys H2 ⟨sm, hl, fp, Tf, nd, nw⟩ tr0 htr
  have hk : us.length = d.2.length := by rw [tus.len, F6]
  rw [hk, List.take_length] at Tf
  have k2 : ∀ b o, H2 b = some o -> upd H2 tr0 (.lst ys) b = some o := fun b o e => by rw [B9 (M3 e htr)]; exact e
  have S2 : Same H (upd H2 tr0 (.lst ys)) := fun b o e => k2 _ _ (sm _ _ (s1 _ _ e))
  refine ⟨_, rfl, .inr (.inl ⟨ad, _, 0, _, rfl, rfl, SqT.of (S2 _ _ ead), rfl, ?_⟩)⟩
  refine ⟨_, rfl, _, rfl, .inr (.inl ⟨aw, _, 1, _, rfl, rfl, SqT.of (k2 _ _ (sm _ _ ew)), rfl, ?_⟩)⟩
  let H3 : Hp := upd H2 tr0 (.lst ys)
  let F2 : Addr -> Prop := fun b => H3 b = none \/ (∃ xs, H3 b = some (.tup xs)) \/ b = l
  have el3 : H3 l = some (.lst lus) := k2 _ _ (sm _ _ el)
  refine ⟨F2, none, [.list (G5 (wlk ws rs.reverse p).2)], fun dd => dd = .list ((prt (wlk ws rs.reverse p).2).map G1), ⟨fun b hb => .inl hb, fun b xs e => .inr (.inl ⟨xs, e⟩)⟩, fun q hq => (nomatch hq), fun q hq => (nomatch hq), .cons (.lst (.inr (.inr rfl)) el3 ((tl5.fp0 (A8d _)).mvm fun b o _ e h => by
   rcases h with h | ⟨xs, rfl⟩
   ·cases h
   ·exact ⟨.inr (.inl ⟨xs, k2 _ _ (sm _ _ e)⟩), k2 _ _ (sm _ _ e)⟩).th) .nil, ⟨_, rfl, rfl⟩, fun dd vv H4 hdd tdd k4 _ => ?_⟩
  subst hdd
  have s4 := A3p k4
  obtain ⟨aq, zs, rfl, _, eaq, tzs⟩ := P9 tdd
  obtain ⟨fq, Tq, ndq, nq⟩ := C6u (G := fun b => F2 b) (fun b h => h) (fun b h => h) s4 tzs
  have kn4 : ∀ b, H4 b = none -> H b = none := fun b hb => by
   cases z : H b with
   | none => rfl
   | some o => rw [s4 _ _ (S2 _ _ z)] at hb; cases hb
  have tr4 : H4 tr0 = some (.lst ys) := s4 _ _ J1
  refine ⟨tr0, aq, ys, zs, rfl, rfl, tr4, eaq, by rw [hl, tus.len, F6, tzs.len, F6, sizeLine_eq]; have := @A66 (wlk ws rs.reverse p).2; omega, fun c hc => ⟨by show 2 <= sizeLine; decide, fun u hu => ?_⟩⟩
  have k5 : ∀ b o, H4 b = some o -> upd (upd H4 c (.lst (ys ++ zs))) u (.tup [.int (d.1 : Nat), .ref c]) b = some o := fun b o e => by
   have e1 : upd H4 c (.lst (ys ++ zs)) b = some o := by rw [B9 (M3 e hc)]; exact e
   rw [B9 (M3 e1 hu)]; exact e1
  have hu4 : H4 u = none := by
   cases z : H4 u with
   | none => rfl
   | some o =>
    have : upd H4 c (.lst (ys ++ zs)) u = some o := by rw [B9 (M3 z hc)]; exact z
    rw [this] at hu; cases hu
  have ec : upd (upd H4 c (.lst (ys ++ zs))) u (.tup [.int (d.1 : Nat), .ref c]) c = some (.lst (ys ++ zs)) := by rw [B9 (M3 J1 hu)]; exact J1
  have Tq' : F4 G (upd (upd H4 c (.lst (ys ++ zs))) u (.tup [.int (d.1 : Nat), .ref c])) zs ((prt (wlk ws rs.reverse p).2).map G1) fq := Tq.mvm fun b o g e h => by
   refine ⟨?_, k5 b o e⟩
   rcases h with h | ⟨xs, rfl⟩
   ·rcases nq b h with z | z
    ·exact .inl (by
      cases y : H b with
      | none => rfl
      | some o => exact absurd ((S2 _ _ y).symm.trans z) (fun q => nomatch q))
    ·rw [z]; exact .inl hlN
   ·cases y : H b with
    | none => exact .inl y
    | some o =>
     have := s4 _ _ (S2 _ _ y)
     rw [e] at this
     cases this
     exact .inr ⟨xs, y⟩
  have Tf' : F4 G (upd (upd H4 c (.lst (ys ++ zs))) u (.tup [.int (d.1 : Nat), .ref c])) ys (d.2.map G1) fp := Tf.mvm fun b o g e _ => ⟨g, k5 _ _ (s4 _ _ (k2 _ _ e))⟩
  have nd2 : (fp ++ fq).Nodup := A3v.mpr ⟨nd, ndq, fun b hb b' hb' e => by
   subst e
   obtain ⟨_, xs, ex⟩ := Tf.mem b hb
   rcases nq b hb' with z | z
   ·exact absurd ((k2 _ _ ex).symm.trans z) (fun q => nomatch q)
   ·have := nw b hb
    rw [z, el] at this; cases this⟩
  refine q (.ref u) _ ([] ++ (c :: (fp ++ fq) ++ [])) (fun b o e => k5 _ _ (s4 _ _ (S2 _ _ e))) (.tup (.inl (kn4 _ hu4)) J1 (.cons (.int _) (.cons ?_ .nil))) ?_
  ·show FpV G _ _ (.list (List.map G1 (d.2 ++ prt (wlk ws rs.reverse p).2))) _
   rw [S0]
   exact .lst (.inl (kn4 _ hc)) ec (Tf'.append Tq')
  ·rw [W3, Y3]
   refine t9.mpr ⟨fun hb => ?_, nd2⟩
   rcases O8.mp hb with h | h
   ·obtain ⟨_, xs, ex⟩ := Tf.mem c h
    rw [s4 _ _ (k2 _ _ ex)] at hc; cases hc
   ·obtain ⟨_, xs, ex⟩ := Tq.mem c h
    rw [ex] at hc; cases hc
end
theorem B70 : ∀ b : Tb, O6 (C4 b) = true
 | [] => rfl
 | o :: b => by
  show (N2 (oD o) && O6 (C4 b)) = true
  rw [B70 b]
  cases o <;> rfl
abbrev B21 : Sp := B2l [.bd, .sh, .bd] C6s
theorem FpV.early {H H' H2 : Hp} {v : V} {d : PyData} {fp : List Addr} (s1 : Same H H') (s2 : Same H' H2) (t : FpV (fun b => H' b = none \/ ∃ xs, H' b = some (.tup xs)) H2 v d fp) : FpV (fun b => H b = none \/ ∃ xs, H b = some (.tup xs)) H2 v d fp /\ ∀ b ∈ fp, H' b = none := by
 have back : ∀ b, H' b = none -> H b = none := fun b h => by
  cases z : H b with
  | none => rfl
  | some o => rw [s1 _ _ z] at h; cases h
 refine ⟨t.mvm fun b o g e _ => ⟨?_, e⟩, fun b hb => ?_⟩
 ·rcases g with g | ⟨xs, g⟩
  ·exact .inl (back b g)
  ·cases z : H b with
   | none => exact .inl rfl
   | some o' =>
    have := s1 _ _ z
    rw [g] at this
    cases this
    exact .inr ⟨xs, rfl⟩
 ·obtain ⟨g, xs, e⟩ := t.mem b hb
  rcases g with g | ⟨ys, g⟩
  ·exact g
  ·rw [s2 _ _ g] at e; cases e
section
variable {P : Program} {w : World} {K : A3} {mg : Str -> Option Value} {base : Heap}
theorem C6w (T : Txt K mg) : D4 P w K mg base CX0 8 T.a_trips_to T.d_trips_to ["land", "store", "base"] B21 := by
 have G_settled := @B7w P w K mg base T
 have b_settled := B68 T
 have G_trip_to : D4 P w K mg base CX0 3 T.a_trip_to T.d_trip_to ["land", "rows", "roads", "place"] B7z := C6v T
 have b_trip_to := C4d T
 refine T.F_trips_to.ok A95 (fun vs H Q E h => ?_) (fun cdv A outer s H vs Q E hr h => ?_)
 ·obtain ⟨_, _, _, _, _, _, _, a, _⟩ := h
  rw [a.len.1]; rfl
 ·obtain ⟨F0, hand, ds, Qd, _, _, hq, ar, hsp, told⟩ := h
  obtain ⟨m, ws, st, b0, rfl, ok, h0, hst, hb0, q⟩ := hsp
  have m2 := ok.m2
  cases ar with
  | @cons _ vl _ _ _ _ tl ar =>
  cases ar with
  | @cons _ vs0 _ _ _ _ ts ar =>
  cases ar with
  | @cons _ vb _ _ _ _ tb ar =>
  cases ar
  cases (show ThV F0 H vs0 (.int st) from ts)
  refine ⟨_, (K5 (C1 (i := 3) A95.nd rfl (Or.inr rfl) (B7 G_settled (hr.mono (by decide)) rfl T.mg_settled T.kp_settled b_settled .nil B8 (A9 (pv 0) (A9 (pv 1) (A9 (pv 2) D3 A0) A0) A0) (he := A0) (hpl := (A2 A0 (A2 A0 A4)))))
   (K5 (C1 (i := 4) A95.nd rfl (Or.inr rfl) (J0 L9 (pv 3) D7 (fun _ _ => rfl)))
   (K5 (C1 (i := 5) A95.nd rfl (Or.inr rfl) (J0 L9 (J0 L9 (pv 4) (B32 B33 D7) (fun _ _ => rfl)) (D8 (v := V.int 0) rfl T.mg_TABLE ⟨_, rfl⟩) (fun _ _ => rfl)))
   (S3 (v7 (A34 (W5.new (N := ["land", "store", "base", "found", "rows", "table"]) (osc := B0 A4g) (by decide +kernel)) rfl (w4 rfl T.n_range (A9 (J0 L9 (pv 0) (D8 (v := V.int 0) rfl T.mg_MANY ⟨_, rfl⟩) (fun _ _ => rfl)) D3 B3)) (fun _ => B1e) (fun _ => (B3s (b7 T1 (J0 L9 (pv 5) (pv 6) (fun _ _ => rfl)) A42 (D5 _)) A42 (B7 G_trip_to (hr.mono (by decide)) rfl T.mg_trip_to T.kp_trip_to b_trip_to .nil B8 (A9 (pv 0) (A9 (pv 4) (A9 (J0 L9 (pv 3) D7 (fun _ _ => rfl)) (A9 (pv 6) D3 A0) B3) A0) A0) (he := A0) (hpl := (A2 A0 (A2 B3 (A2 A0 A4))))))))))))), ?_⟩
  let G : Addr -> Prop := fun b => H b = none \/ ∃ xs, H b = some (.tup xs)
  refine ⟨vl, rfl, .int st, rfl, vb, rfl, ?_⟩
  obtain ⟨ba, bvs, rfl, _, eb, tbs⟩ := P9 (show ThV _ H vb (.list (C4 b0)) from tb)
  refine ⟨G, none, [C7 m ws, .int st, .list (C4 b0)], fun d => ∃ (rs qs : List Rw) (r : Rw) (b : Tb) (rd : List Rd), d = .tuple [.list (rs.map O2), .list (rd.map W2)] /\ rs.getLast? = some r /\ rs.reverse = r :: qs /\ Q8 m ws st b0 r.1 /\ Rows m ws st b (r :: qs) /\ A1s m ws rs /\ rs.length <= m /\ G7 m st b /\ B0b m ws st b0 r.1 /\ r8 m ws st b0 b rd (3 * m), ⟨fun b hb => .inl hb, fun b xs e => .inr ⟨xs, e⟩⟩, fun q hq => (nomatch hq), fun q hq => (nomatch hq), .cons (ThV.mv (fun b o _ e => ⟨fun q hq => (nomatch hq), e⟩) (show ThV _ H vl _ from tl)) (.cons (.int _) (.cons ⟨ba, bvs, C4 b0, rfl, rfl, fun q hq => (nomatch hq), eb, (tbs.flat (fun b xs e => .inr ⟨xs, e⟩) (B70 b0))⟩ .nil)), ⟨m, ws, st, b0, rfl, ok, h0, hst, hb0, fun rs qs r b rd hl he hL hR hok hlen hb hf hrd => ?_⟩, fun dw vw H1 hd tw k1 _ => ?_⟩
  ·have hq : qs.length + 1 <= m := by
    have := congrArg A3q he
    rw [A1w, M2] at this
    omega
   exact ⟨rs, qs, r, b, rd, rfl, hl, he, hL, hR, hok, hlen, hb, B7v ok h0 hb hf hR hq, hrd⟩
  obtain ⟨rs, qs, r, b, rd, rfl, hl, he, hL, hR, hok, hlen, hb, hN, hrd⟩ := hd
  have s1 := A3p k1
  obtain ⟨af, xf, rfl, _, ef, tf⟩ := A03 tw
  obtain ⟨f1, f2, rfl, tf1, tf2⟩ := X6 tf
  obtain ⟨ar, rvs, rfl, gr, er, trv⟩ := P9 tf1
  obtain ⟨vlast, hvl, tvl⟩ := A0o trv (show atI (rs.map O2) (-1) = some (O2 r) from A8c (A99 hl))
  obtain ⟨al, xl, rfl, _, eal, tal⟩ := A03 tvl
  obtain ⟨t1, t2, rfl, tt1, tt2⟩ := X6 tal
  obtain ⟨at', tvs, rfl, _, eat, ttv⟩ := P9 tt1
  refine ⟨_, rfl, .inr (.inl ⟨af, _, 0, _, rfl, rfl, SqT.of ef, rfl, ?_⟩)⟩
  refine ⟨_, rfl, 1, rfl, .inl ⟨ar, rvs, _, _, rfl, rfl, SqL.of er, hvl, .inr (.inl ⟨al, _, 0, _, rfl, rfl, SqT.of eal, rfl, ?_⟩)⟩⟩
  obtain ⟨ll, lxs, rfl, _, ell, tll⟩ := A03 (show ThV _ H vl (C7 m ws) from tl)
  obtain ⟨l1, l2, rfl, tl1, tl2⟩ := X6 tll
  cases tl1
  refine ⟨_, rfl, .inr (.inl ⟨ll, _, 0, _, rfl, rfl, SqT.of (s1 _ _ ell), rfl, ?_⟩)⟩
  refine ⟨((m : Nat) : Int), rfl, by omega, by omega, ?_⟩
  rw [show ((m : Nat) : Int).toNat = m by simp]
  refine C0w (fun i ys H' => Same H1 H' /\ ys.length = i /\ ∃ fp, F4 G H' ys ((N5 i).map fun k => trO ((gt r.1 k).map fun _ => Z8 ws rs rd k)) fp /\ fp.Nodup /\ ∀ b ∈ fp, H1 b = none) ?_ ?_ ?_ ?_ ?_
  ·rw [sizeLine_eq]; omega
  ·exact ⟨Same.refl _, rfl, [], .nil, B0s, fun b hb => nomatch hb⟩
  ·exact fun i ys H' _ h => by rw [h.2.1]; exact J8 _
  ·rintro i ys H' hi ⟨sm, hl', fp, Tf, nd, nw⟩ ca
   rw [show (0 : Int) + ((i : Nat) : Int) = ((i : Nat) : Int) by omega]
   obtain ⟨vt, hvt, tvt⟩ := A0o ttv (show atI (C4 r.1) ((i : Nat) : Int) = some (oD (gt r.1 i)) from Z7 (by rw [hL.tab.len]; exact hi))
   unfold B1d
   refine L5 ?_
   refine ⟨_, rfl, _, rfl, .inl ⟨at', tvs, _, _, rfl, rfl, SqL.of (sm _ _ eat), hvt, rfl, _, rfl, ?_⟩⟩
   have st1 : ((N5 (i + 1)).map fun k => trO ((gt r.1 k).map fun _ => Z8 ws rs rd k)) = ((N5 i).map fun k => trO ((gt r.1 k).map fun _ => Z8 ws rs rd k)) ++ [trO ((gt r.1 i).map fun _ => Z8 ws rs rd i)] := by rw [List.range_succ, S0]; rfl
   rw [st1]
   rw [A7q tvt]
   cases e : gt r.1 i with
   | none =>
    refine L5 ?_
    exact ⟨sm, by rw [O3, hl']; rfl, fp ++ ([] ++ []), Tf.append (.cons .non .nil), by simpa using nd, fun b hb => nw b (by simpa using hb)⟩
   | some x =>
    refine G9 ?_
    have htr := B7y ok h0 hb he hR hlen hrd e
    refine ⟨_, rfl, _, rfl, _, rfl, .inr (.inl ⟨af, _, 1, _, rfl, rfl, SqT.of (sm _ _ ef), rfl, _, rfl, ?_⟩)⟩
    refine ⟨fun _ => True, .ref ll, .ref ar, _, m, ws, rs, rd, i, rfl, ThV.mv (fun b o _ e => ⟨trivial, sm _ _ (s1 _ _ e)⟩) (show ThV _ H (.ref ll) (C7 m ws) from tl), ThV.mv (fun b o _ e => ⟨trivial, sm _ _ e⟩) tf1, ThV.mv (fun b o _ e => ⟨trivial, sm _ _ e⟩) tf2, ⟨hi, ok, hok, by omega, by rw [hrd.len]; exact htr.1, fun r hr => by have := (hrd.few r hr).1; omega⟩, fun v H'' fp' s2 tv nd' => ?_⟩
    obtain ⟨tv2, nw2⟩ := tv.early (fun b o e => sm _ _ (s1 _ _ e)) s2
    refine ⟨fun b o e => s2 _ _ (sm _ _ e), by rw [O3, hl']; rfl, fp ++ (fp' ++ []), (Tf.mvm fun b o g e _ => ⟨g, s2 _ _ e⟩).append (.cons tv2 .nil), ?_, fun b hb => ?_⟩
    ·rw [Y3]
     refine A3v.mpr ⟨nd, nd', fun b hb c hc z => ?_⟩
     subst z
     obtain ⟨_, xs, ex⟩ := Tf.mem b hb
     rw [nw2 b hc] at ex; cases ex
    ·rcases O8.mp hb with h | h
     ·exact nw b h
     ·have := nw2 b (by simpa using h)
      cases z : H1 b with
      | none => rfl
      | some o => rw [sm _ _ z] at this; cases this
  rintro ys H2 ⟨sm, hl', fp, Tf, nd, nw⟩ p hp
  have k2 : ∀ b o, H2 b = some o -> upd H2 p (.lst ys) b = some o := fun b o e => by rw [B9 (M3 e hp)]; exact e
  have S : Same H (upd H2 p (.lst ys)) := fun b o e => k2 _ _ (sm _ _ (s1 _ _ e))
  have pn : H p = none := by
   cases z : H p with
   | none => rfl
   | some o => rw [sm _ _ (s1 _ _ z)] at hp; cases hp
  refine told (.list (((N5 m).map fun k => (gt r.1 k).map fun _ => Z8 ws rs rd k).map trO)) (.ref p) _ (p :: fp) (q r.1 ((N5 m).map fun k => (gt r.1 k).map fun _ => Z8 ws rs rd k) hL hN ⟨by rw [F6, b3], fun p hp e => by rw [R8, B0o hp]; show some ((gt r.1 p).map _) = _; rw [e]; rfl, fun p x e => ?_⟩) (.lst (.inl pn) J1 ?_) (t9.mpr ⟨fun hb => ?_, nd⟩) (Kq.same S) (hq.same S)
  ·have hp : p < m := by
    by_cases h : p < m
    ·exact h
    ·rw [A21 (by rw [hL.tab.len]; omega)] at e; cases e
   exact ⟨Z8 ws rs rd p, by rw [R8, B0o hp]; show some ((gt r.1 p).map _) = _; rw [e]; rfl, (B7y ok h0 hb he hR hlen hrd e).2⟩
  ·rw [A3y]
   exact Tf.mvm fun b o g e _ => ⟨g, k2 _ _ e⟩
  ·obtain ⟨_, xs, ex⟩ := Tf.mem p hb
   rw [hp] at ex; cases ex
end
def C6x : DSp := fun ds Q => ∃ (st : Int) (cs : List Int), ds = [.int st, .list (L3 cs)] /\ 0 <= st /\ Q (V9 (fxF st cs))
def C6y : DSp := fun ds Q => ∃ (e : Ef) (n : Int) (o : Option Int), ds = [V9 e, .int n, oD o] /\ (∀ lo g tp, e = some (lo, g, tp) -> -18000000000000000000 <= g /\ g <= 18000000000000000000) /\ Q (oD (A9s e n o))
def C6z : DSp := fun ds Q => ∃ (m : Nat) (ws : List Wy) (st x y : Int) (p q : Nat) (ps : List Pt), ds = [C7 m ws, .int st, .int (p : Nat), .int x, .list (ps.map G1)] /\ K2 m ws /\ 0 <= x /\ x <= st /\ Trp ws p ps q /\ (∀ pt ∈ ps, pt.1.length <= 18) /\ S7 ws st (some x) ps = some y /\ Q (.list [.int (q : Nat), .int y])
theorem B0c {st : Int} {cs : List Int} : ∀ (n : Nat) (o : Option Int), itF st cs n o = itN st cs n o
 | 0, _ => rfl
 | n + 1, o => B0c n _
theorem B22 {ws : List Wy} {st : Int} : ∀ ps : List Pt, S7 ws st none ps = none
 | [] => rfl
 | p :: ps => by
  show S7 ws st (itF st (chs ws p.1) p.2.toNat none) ps = none
  rw [B0c, A5r]; exact B22 ps
theorem B71 {st : Int} : ∀ cs : List Int, foF st none cs = none
 | [] => rfl
 | c :: cs => by
  show foF st (Q9 none (U4 st c)) cs = none
  exact B71 cs
theorem C60 {st : Int} {e : Int × Int × Int} {c : Int} {cs : List Int} : foF st (some e) (c :: cs) = foF st (Q9 (some e) (U4 st c)) cs := rfl
theorem B72 {B : Int} : ∀ {cs : List Int}, (∀ c ∈ cs, -B <= c /\ c <= B) -> -((cs.length : Int) * B) <= cs.sum /\ cs.sum <= (cs.length : Int) * B
 | [], _ => by simp
 | c :: cs, h => by
  have := B72 (cs := cs) fun d hd => h d (C3 _ hd)
  have h1 := h c C6
  rw [B3f, M2, B0r, A7d]
  omega
theorem C61 {m : Nat} {ws : List Wy} (ok : K2 m ws) (n : Nat) : -1000000000000000000 <= R6 ws n := by
 unfold R6
 split
 ·rename_i w hw; exact ok.lo w (R9 hw)
 ·decide
theorem C62 {m : Nat} {ws : List Wy} (ok : K2 m ws) {st : Int} {ns : List Nat} (hn : ns.length <= 18) {lo g tp : Int} (h : fxF st (chs ws ns) = some (lo, g, tp)) : -18000000000000000000 <= g /\ g <= 18000000000000000000 := by
 have e := B6b h
 simp only at e
 have b := B72 (B := 1000000000000000000) (cs := chs ws ns) fun c hc => by
  obtain ⟨n, _, rfl⟩ := b4.mp hc
  exact ⟨C61 ok n, B7r ok n⟩
 have l : ((chs ws ns).length : Int) <= 18 := by unfold chs; rw [F6]; omega
 rw [e]
 have l0 : (0 : Int) <= ((chs ws ns).length : Int) := by omega
 generalize ((chs ws ns).length : Int) = L at *
 omega
section
variable {P : Program} {w : World} {K : A3} {mg : Str -> Option Value} {base : Heap}
theorem B23 (T : Txt K mg) : D4 P w K mg base CX0 1 T.a_law_is_whole T.d_law_is_whole ["_law_thing"] (spD [.sh] B2r) := by
 refine J3 T.F_law_is_whole C3r rfl (fun C cdv A outer s H E hr => ⟨_, (@B6 _ _ _ _ (@D2 _ _ _ _ _ (@A9a _ _ _ _ _ _ _ _ (A0z B5m (J6 d7 rfl T.n_isinstance d5 (A9 (pv 0) (A9 (b5 (v := V.ty "int") rfl T.n_int A7m rfl) D3 A0) A0) (he := A0) (hpl := (A2 A0 A4)))) (A7o (B46 (A0z B5n (J6 d7 rfl T.n_isinstance d5 (A9 (pv 0) (A9 (b5 (v := V.ty "bool") rfl T.n_bool B4w rfl) D3 A0) A0) (he := A0) (hpl := (A2 A0 A4))))))))), fun ds Q hl h => ?_⟩)
 obtain ⟨d, rfl, q⟩ := h
 left
 unfold p9 at q
 cases d <;> exact q
theorem C63 (T : Txt K mg) : D4 P w K mg base CX0 1 T.a_effect T.d_effect ["_law_store_here", "_law_changes"] (spD [.sh, .sh] C6x) := by
 refine J3 T.F_effect A65 rfl (fun C cdv A outer s H E hr => ⟨_, (@D1 _ _ _ _ _ _ (C2o (C00 (i0 := 2) (i1 := 3) (i2 := 4) rfl A65.nd rfl rfl rfl (by decide) (by decide) (by decide) rfl rfl rfl (A7 A6 (A7 A6 (A7 (A1 (pv 0)) D0 A0) G4) G4) (by rfl))) (@D1 _ _ _ _ _ _ (@N1 _ _ _ _ (@W6 _ _ _ _ _ _ (@U7 _ _ _ _ _ _ _ _ Q3 rfl (A36 (pv 1)) (Z3 (K6 (i := 5) A65.nd rfl (A8 rfl))) (@D1 _ _ _ _ _ _ (N1 (K0 (G0 T0 d9 (E3 L8 N4 (A1 (pv 4)) (A1 (pv 5))) A6 (D5 _))
   (B6 (D2 J2))
   K1)) (@D1 _ _ _ _ _ _ (E1 (C1 (i := 2) A65.nd rfl (A8 rfl) (P6 B1r (J6 (B02 rfl) rfl T.n_max B1j (A7 (A1 (pv 2)) (A7 (E3 j8 A0h (A0a (A1 (pv 5))) (A1 (pv 3))) D0 G6) A0) (he := A0) (hpl := (A2 G6 A4)))))) (@D1 _ _ _ _ _ _ (E1 (C1 (i := 3) A65.nd rfl (A8 rfl) (E3 L8 N4 (A1 (pv 3)) (A1 (pv 5))))) (B6 (E1 (C1 (i := 4) A65.nd rfl (A8 rfl) (P6 e8 (J6 (b8 rfl) rfl T.n_min d4 (A7 (A1 (pv 0)) (A7 (E3 L8 N4 (A1 (pv 4)) (A1 (pv 5))) D0 G6) A0) (he := A0) (hpl := (A2 G6 A4)))))))))) (by intro _; rfl)))) (B6 (D2 (P5 (A7 (A1 (pv 2)) (A7 (A1 (pv 3)) (A7 (A1 (pv 4)) D0 A0) A0) A0)))))), fun ds Q hl h => ?_⟩)
 obtain ⟨st, cs, rfl, h0, q⟩ := h
 left
 (try unfold B6f)
 left
 refine go ?_
 (try unfold N7); (try unfold V7)
 refine ⟨fun ρ' => ∃ (lo g tp : Int) (z : Sl), ρ' = [Sl.sh (.int st), Sl.sh (.list (L3 cs)), Sl.sh (.int lo), Sl.sh (.int g), Sl.sh (.int tp), z] /\ fxF st cs = some (lo, g, tp), ?_, ?_⟩
 ·array_get_dec
  refine ⟨fun r ρ => ∃ (R : List Int) (lo g tp : Int) (z : Sl), r = L3 R /\ ρ = [Sl.sh (.int st), Sl.sh (.list (L3 cs)), Sl.sh (.int lo), Sl.sh (.int g), Sl.sh (.int tp), z] /\ EOk st (lo, g, tp) /\ foF st (some (lo, g, tp)) R = fxF st cs, ⟨cs, 0, 0, st, _, rfl, rfl, B54 h0, rfl⟩, ?_, ?_⟩
  ·rintro x r ρ ⟨R, lo, g, tp, z, h1, rfl, hE, hF⟩
   cases R with
   | nil => cases h1
   | cons c R =>
    cases (show x :: r = PyData.int c :: L3 R from h1)
    rw [C60, B6h hE] at hF
    sizeOf_list_dec
    (try unfold N7); (try unfold V7)
    refine ⟨fun ρ' => ¬ tp + c < 0 /\ ρ' = [Sl.sh (.int st), Sl.sh (.list (L3 cs)), Sl.sh (.int lo), Sl.sh (.int g), Sl.sh (.int tp), Sl.sh (.int c)], ?_, ?_⟩
    ·left
     by_cases c1 : tp + c < 0
     ·rw [decide_eq_true c1]
      rw [if_pos c1, B71] at hF
      rw [<- hF] at q
      exact L5 q
     ·rw [decide_eq_false c1]
      exact G9 ⟨c1, rfl⟩
    rintro ρ ⟨c1, rfl⟩
    rw [if_neg c1] at hF
    have hE2 : OkE st (Q9 (some (lo, g, tp)) (U4 st c)) := OkE.join (show OkE st (some (lo, g, tp)) from hE) (B55 h0 c)
    rw [B6h hE, if_neg c1] at hE2
    refine go ?_; left
    refine go ?_; left
    refine go ?_; left
    exact ⟨R, _, _, _, _, rfl, rfl, hE2, hF⟩
  ·rintro ρ ⟨R, lo, g, tp, z, h1, rfl, hE, hF⟩
   cases R with
   | cons c R => cases h1
   | nil => exact ⟨lo, g, tp, z, rfl, hF.symm⟩
 rintro ρ ⟨lo, g, tp, z, rfl, hF⟩
 rw [hF] at q
 refine go ?_; left
 exact ⟨by show 3 <= 1000; decide, q⟩
theorem C64 (T : Txt K mg) : D4 P w K mg base CX0 1 T.a_times T.d_times ["_law_effect_here", "_law_times_here", "_law_level"] (spD [.sh, .sh, .sh] C6y) := by
 refine J3 T.F_times A79 rfl (fun C cdv A outer s H E hr => ⟨_, (@F8 _ _ _ _ _ _ (K0 (PW.pt (S5 (G0 T1 V6 (A1 (pv 0)) J2 (D5 _)) (S5 (G0 T1 V6 (A1 (pv 2)) J2 (D5 _)) (X5 (G0 T0 d9 (A1 (pv 2)) (C2 (pv 0) A6 (fun _ _ => rfl)) (D5 _))))))
   (B6 (D2 J2))
   K1) (@F8 _ _ _ _ _ _ (A37 (Q5 (A1 (pv 0)) (C1x (A11 (n := 3) rfl (O4 (K6 (i := 3) A79.nd rfl (A8 rfl)) (O4 (K6 (i := 4) A79.nd rfl (A8 rfl)) (O4 (K6 (i := 5) A79.nd rfl (A8 rfl)) v8))))))) (@F8 _ _ _ _ _ _ (@K0 _ _ _ _ _ _ _ _ _ (PW.pt (@A14 _ _ _ _ _ _ _ _ (G0 b6 A0j (A1 (pv 1)) A6 (D5 _)) (A14 (G0 B35 C1g (A1 (pv 4)) A6 (D5 _)) (A5g (G0 T0 d9 (P6 e8 (J6 (b8 rfl) rfl T.n_min d4 (A7 (E3 L8 N4 (A1 (pv 2)) (A1 (pv 4))) (A7 (A1 (pv 5)) D0 A0) G6) (he := G6) (hpl := (A2 A0 A4)))) (A1 (pv 3)) (D5 _)))))) (B6 (D2 J2)) K1) (@F8 _ _ _ _ _ _ (@K0 _ _ _ _ _ _ _ _ _ (G0 T0 d9 (A1 (pv 4)) A6 (D5 _)) (@F8 _ _ _ _ _ _ (@E1 _ _ _ _ _ (@C1 _ _ 6 _ _ _ _ A79.nd rfl (A8 rfl) (P6 e8 (J6 (b8 rfl) rfl T.n_min d4 (A7 (E3 L8 N4 (A1 (pv 2)) (E3 X1 A15 (E3 j8 A0h (A1 (pv 1)) A6) (A1 (pv 4)))) (A7 (E3 L8 N4 (A1 (pv 5)) (E3 X1 A15 (E3 j8 A0h (A1 (pv 1)) A6) (A1 (pv 4)))) D0 G6) G6) (he := G6) (hpl := (A2 G6 A4)))) (by rfl) (by first | exact .inl rfl | exact .inr rfl | assumption))) (@F8 _ _ _ _ _ _ (K0 (PW.pt (A14 (G0 b6 A0j (A1 (pv 1)) A6 (D5 _)) (A5g (G0 T0 d9 (A1 (pv 6)) (A1 (pv 3)) (D5 _)))))
   (B6 (D2 J2))
   K1) (B6 (D2 (P6 e8 (J6 (b8 rfl) rfl T.n_min d4 (A7 (E3 L8 N4 (A1 (pv 2)) (E3 X1 A15 (A1 (pv 1)) (A1 (pv 4)))) (A7 (E3 L8 N4 (A1 (pv 5)) (E3 X1 A15 (E3 j8 A0h (A1 (pv 1)) A6) (A1 (pv 4)))) D0 G6) G6) (he := G6) (hpl := (A2 G6 A4)))))))) K1) (B6 (D2 (P6 e8 (J6 (b8 rfl) rfl T.n_min d4 (A7 (E3 L8 N4 (A1 (pv 2)) (E3 X1 A15 (A1 (pv 1)) (A1 (pv 4)))) (A7 (A1 (pv 5)) D0 A0) G6) (he := G6) (hpl := (A2 A0 A4)))))))))), fun ds Q hl h => ?_⟩)
 obtain ⟨e, n, o, rfl, hg, q⟩ := h
 cases e with
 | none =>
  right
  exact q
 | some r =>
  obtain ⟨lo, g, tp⟩ := r
  cases o with
  | none =>
   right
   exact q
  | some x =>
   unfold A9s at q
   dsimp only at q
   have hm : ∀ a, A46 a g := fun a => .inr (by have := hg lo g tp rfl; omega)
   right
   by_cases c1 : x < lo
   ·rw [decide_eq_true c1]
    rw [if_pos c1] at q
    exact L5 q
   ·rw [decide_eq_false c1]
    rw [if_neg c1] at q
    refine G9 ?_
    by_cases c2 : 1 < n
    ·rw [decide_eq_true c2]
     refine L5 ?_
     by_cases c3 : 0 <= g
     ·rw [decide_eq_true c3, decide_eq_false (show ¬ g < 0 by omega)]
      refine L5 ?_
      by_cases c4 : (if tp < x + g then tp else x + g) < lo
      ·rw [decide_eq_true c4]
       rw [if_pos ⟨c2, c3, c4⟩] at q
       exact L5 q
      ·rw [decide_eq_false c4]
       rw [if_neg (fun z => c4 z.2.2), if_neg (by omega)] at q
       exact G9 (G9 ⟨hm _, q⟩)
     ·rw [decide_eq_false c3, decide_eq_true (show g < 0 by omega)]
      rw [if_neg (fun z => c3 z.2.1), if_pos (by omega)] at q
      refine G9 (L5 ⟨hm _, hm _, L5 ?_⟩)
      by_cases c4 : (if tp + (n - 2) * g < x + (n - 1) * g then tp + (n - 2) * g else x + (n - 1) * g) < lo
      ·rw [decide_eq_true c4]
       rw [if_pos ⟨c2, c4⟩] at q
       exact L5 q
      ·rw [decide_eq_false c4]
       rw [if_neg (fun z => c4 z.2)] at q
       exact G9 ⟨hm _, hm _, q⟩
    ·rw [decide_eq_false c2]
     rw [if_neg (fun z => c2 z.1)] at q
     refine G9 ?_
     by_cases c3 : g < 0
     ·rw [decide_eq_true c3]
      rw [if_pos c3, if_neg (fun z => c2 z.1)] at q
      exact L5 ⟨hm _, hm _, G9 ⟨hm _, hm _, q⟩⟩
     ·rw [decide_eq_false c3]
      rw [if_neg c3] at q
      exact G9 ⟨hm _, q⟩
end
theorem C65 {ns : List Nat} (h : ns ≠ []) : PyData.eqv (.list (G5 ns)) (.list []) = false := by
 cases ns with
 | nil => exact absurd rfl h
 | cons n ns => rfl
theorem B24 : ∀ ns : List Nat, PyData.canLayAll0 (G5 ns) = true
 | [] => rfl
 | n :: ns => by
  show (PyData.canLay0 (.int (n : Nat)) && PyData.canLayAll0 (G5 ns)) = true
  rw [B24 ns]; rfl
section
variable {P : Program} {w : World} {K : A3} {mg : Str -> Option Value} {base : Heap}
theorem C66 (T : Txt K mg) : D4 P w K mg base CX0 3 T.a_arrive T.d_arrive ["_law_land_here", "_law_store_here", "_law_place", "_law_level", "_law_trip"] (spD [.sh, .sh, .sh, .sh, .sh] C6z) := by
 have G_law_is_whole := @B23 P w K mg base T
 have b_law_is_whole := B2q T
 have G_effect := @C63 P w K mg base T
 have b_effect := C4q T
 have G_times := @C64 P w K mg base T
 have b_times := C4r T
 refine J3 T.F_arrive A3m rfl (fun C cdv A outer s H E hr => ⟨_, (@D1 _ _ _ _ _ _ (N1 (K0 (V1 (V0 (A0z A7t (J6 d7 rfl T.n_isinstance d5 (A9 (pv 4) (A9 (b5 (v := V.ty "list") rfl T.n_list X4 rfl) D3 A0) A0) (he := A0) (hpl := (A2 A0 A4))))))
   (B6 (D2 J2))
   K1)) (@D1 _ _ _ _ _ _ (@N1 _ _ _ _ (@W6 _ _ _ _ _ _ (@U7 _ _ _ _ _ _ _ _ Q3 rfl (A36 (pv 4)) (Z3 (K6 (i := 5) A3m.nd rfl (A8 rfl))) (@D1 _ _ _ _ _ _ (@N1 _ _ _ _ (@K0 _ _ _ _ _ _ _ _ _ (PW.pt (@S5 _ _ _ _ _ _ _ _ (V1 (V0 (A0z B1x (J6 d7 rfl T.n_isinstance d5 (A9 (pv 5) (A9 (b5 (v := V.ty "tuple") rfl T.n_tuple B1k rfl) D3 A0) A0) (he := A0) (hpl := (A2 A0 A4)))))) (X5 (G0 (A13 (O1 hr)) N8 (e7 (J6 U0 rfl T.n_len U2 (A9 (pv 5) D3 A0) (he := A0) (hpl := A4))) A6 (D5 _))))) (B6 (D2 J2)) K1)) (@D1 _ _ _ _ _ _ (@N1 _ _ _ _ (@K0 _ _ _ _ _ _ _ _ _ (PW.pt (@S5 _ _ _ _ _ _ _ _ (V1 (V0 (C1j A7t (J6 d7 rfl T.n_isinstance d5 (A9 (C2 (pv 5) A6 (fun _ _ => rfl)) (A9 (b5 (v := V.ty "list") rfl T.n_list X4 rfl) D3 A0) B3) (he := B3) (hpl := (A2 A0 A4)))))) (X5 (G0 (U9 (O1 hr)) N8 (C2 (pv 5) A6 (fun _ _ => rfl)) (J7 (M1 D0)) (D5 _))))) (B6 (D2 J2)) K1)) (@D1 _ _ _ _ _ _ (E1 (C1 (i := 6) A3m.nd rfl (A8 rfl) (A1 (pv 2)))) (@D1 _ _ _ _ _ _ (g6 (C1 (i := 7) A3m.nd rfl (A8 rfl) (M1 D0))) (@D1 _ _ _ _ _ _ (@N1 _ _ _ _ (@W6 _ _ _ _ _ _ (@U7 _ _ _ _ _ _ _ _ Q3 rfl (A9i (C2 (pv 5) A6 (fun _ _ => rfl))) (Z3 (K6 (i := 8) A3m.nd rfl (A8 rfl))) (@D1 _ _ _ _ _ _ (@N1 _ _ _ _ (@K0 _ _ _ _ _ _ _ _ _ (PW.pt (@S5 _ _ _ _ _ _ _ _ (V1 (V0 (C8 (B7 G_law_is_whole (hr.mono (by decide)) rfl T.mg_law_is_whole T.kp_law_is_whole b_law_is_whole .nil B8 (A5 (A1 (pv 8)) C5 A0) (he := A0) (hpl := A4))))) (X5 (V1 (A9b A47 T0 A6 (A1 (pv 8)) (P6 A9d (J6 U0 rfl T.n_len U2 (A7 (C2 (pv 0) A6 (fun _ _ => rfl)) D0 B3) (he := B3) (hpl := A4)))))))) (B6 (D2 J2)) K1)) (@D1 _ _ _ _ _ _ (N1 (K0 (G0 (A13 (O1 hr)) N8 (L6 (L6 (C2 (pv 0) A6 (fun _ _ => rfl)) (A1 (pv 8)) (fun _ _ => rfl)) A6 (fun _ _ => rfl)) (A1 (pv 6)) (D5 _))
   (B6 (D2 J2))
   K1)) (@D1 _ _ _ _ _ _ (A2e (X0 (Y9 j6 A1y A1z m6 (pv 7) (A9 (L6 (L6 (C2 (pv 0) A6 (fun _ _ => rfl)) (A1 (pv 8)) (fun _ _ => rfl)) A6 (fun _ _ => rfl)) D3 B3)))) (B6 (E1 (C1 (i := 6) A3m.nd rfl (A8 rfl) (L6 (L6 (C2 (pv 0) A6 (fun _ _ => rfl)) (A1 (pv 8)) (fun _ _ => rfl)) A6 (fun _ _ => rfl)))))))) (by intro _; rfl)))) (@D1 _ _ _ _ _ _ (@N1 _ _ _ _ (@K0 _ _ _ _ _ _ _ _ _ (PW.pt (@S5 _ _ _ _ _ _ _ _ (V1 (V0 (C8 (B7 G_law_is_whole (hr.mono (by decide)) rfl T.mg_law_is_whole T.kp_law_is_whole b_law_is_whole .nil B8 (A5 (C2 (pv 5) A6 (fun _ _ => rfl)) C5 B3) (he := B3) (hpl := A4))))) (S5 (G0 T0 d9 (C2 (pv 5) A6 (fun _ _ => rfl)) A6 (D5 _)) (X5 (G0 b6 A0j (C2 (pv 5) A6 (fun _ _ => rfl)) (E3 m5 A0i A6 A6) (D5 _)))))) (B6 (D2 J2)) K1)) (@D1 _ _ _ _ _ _ (N1 (K0 (PW.pt (A14 (G0 b6 A0j (C2 (pv 5) A6 (fun _ _ => rfl)) A6 (D5 _)) (A5g (G0 (A13 (O1 hr)) N8 (A1 (pv 6)) (A1 (pv 2)) (D5 _)))))
   (B6 (D2 J2))
   K1)) (@D1 _ _ _ _ _ _ (@E1 _ _ _ _ _ (@C1 _ _ 3 _ _ _ _ A3m.nd rfl (A8 rfl) (@C8 _ _ _ _ _ _ _ (@B7 _ _ _ _ _ _ _ _ _ _ _ _ _ _ _ _ G_times (hr.mono (by decide)) rfl T.mg_times T.kp_times b_times .nil B8 (A5 (C8 (B7 G_effect (hr.mono (by decide)) rfl T.mg_effect T.kp_effect b_effect .nil B8 (A5 (A1 (pv 1)) (A5 (A1 (pv 7)) C5 A0) A0) (he := A0) (hpl := (A2 A0 A4)))) (A5 (C2 (pv 5) A6 (fun _ _ => rfl)) (A5 (A1 (pv 3)) C5 A0) B3) J5) (by decide) J5 ((A2 B3 (A2 A0 A4))))) (by rfl) (by first | exact .inl rfl | exact .inr rfl | assumption))) (B6 (E1 (C1 (i := 2) A3m.nd rfl (A8 rfl) (A1 (pv 6))))))))))))) (by intro _; rfl)))) (B6 (D2 (J7 (M1 (A7 (A1 (pv 2)) (A7 (A1 (pv 3)) D0 A0) A0))))))), fun ds Q hl h => ?_⟩)
 obtain ⟨m, ws, st, x, y, p, q0, ps, rfl, ok, x0, x1, ht, hth, ha, q⟩ := h
 (try unfold N7); (try unfold V7)
 refine ⟨fun ρ' => ρ' = [Sl.sh (C7 m ws), Sl.sh (.int st), Sl.sh (.int (p : Nat)), Sl.sh (.int x), Sl.sh (.list (ps.map G1)), .no, .no, .no, .no], ?_, ?_⟩
 ·left
  exact G9 rfl
 rintro ρ rfl
 refine go ?_
 (try unfold N7); (try unfold V7)
 refine ⟨fun ρ' => ∃ z5 z6 z7 z8 : Sl, ρ' = [Sl.sh (C7 m ws), Sl.sh (.int st), Sl.sh (.int (q0 : Nat)), Sl.sh (.int y), Sl.sh (.list (ps.map G1)), z5, z6, z7, z8], ?_, ?_⟩
 ·array_get_dec
  refine ⟨fun r ρ => ∃ (R : List Pt) (p' : Nat) (x' : Int) (z5 z6 z7 z8 : Sl), r = R.map G1 /\ ρ = [Sl.sh (C7 m ws), Sl.sh (.int st), Sl.sh (.int (p' : Nat)), Sl.sh (.int x'), Sl.sh (.list (ps.map G1)), z5, z6, z7, z8] /\ Trp ws p' R q0 /\ S7 ws st (some x') R = some y /\ 0 <= x' /\ x' <= st /\ ∀ pt ∈ R, pt.1.length <= 18, ⟨ps, p, x, _, _, _, _, rfl, rfl, ht, ha, x0, x1, hth⟩, ?_, ?_⟩
  ·rintro u r ρ ⟨R, p', x', z5, z6, z7, z8, h1, rfl, ht', ha', x0', x1', hth'⟩
   cases R with
   | nil => cases h1
   | cons pt R =>
    cases (show u :: r = G1 pt :: R.map G1 from h1)
    have hfew := hth' pt C6
    cases ht' with
    | @cons _ q1 _ _ _ hp hne h1' h24 hor htr =>
    sizeOf_list_dec
    (try unfold N7); (try unfold V7)
    refine ⟨fun ρ' => ρ' = [Sl.sh (C7 m ws), Sl.sh (.int st), Sl.sh (.int (p' : Nat)), Sl.sh (.int x'), Sl.sh (.list (ps.map G1)), Sl.sh (G1 pt), z6, z7, z8], ?_, ?_⟩
    ·right
     refine ⟨rfl, rfl, Q0 _ _, ?_⟩
     rw [show PyData.eqv (.int (((0 + 1 + 1 : Nat)) : Int)) (.int 2) = true from rfl]
     exact G9 rfl
    rintro ρ rfl
    try dsimp only
    refine go ?_
    (try unfold N7); (try unfold V7)
    refine ⟨fun ρ' => ρ' = [Sl.sh (C7 m ws), Sl.sh (.int st), Sl.sh (.int (p' : Nat)), Sl.sh (.int x'), Sl.sh (.list (ps.map G1)), Sl.sh (G1 pt), z6, z7, z8], ?_, ?_⟩
    ·right
     refine ⟨by decide, by rw [PyData.canLay0]; exact B24 _, rfl, by show min _ 1 <= 64; omega, ?_⟩
     rw [C65 hne]
     exact G9 rfl
    rintro ρ rfl
    refine go ?_; left
    refine go ?_; left
    refine ⟨by decide, ?_⟩
    refine go ?_
    (try unfold N7); (try unfold V7)
    refine ⟨fun ρ' => ∃ z8 : Sl, ρ' = [Sl.sh (C7 m ws), Sl.sh (.int st), Sl.sh (.int (p' : Nat)), Sl.sh (.int x'), Sl.sh (.list (ps.map G1)), Sl.sh (G1 pt), Sl.sh (.int (q1 : Nat)), Sl.ow (L3 (chs ws pt.1)), z8], ?_, ?_⟩
    ·array_get_dec
     refine ⟨fun r ρ => ∃ (ns dn : List Nat) (h' : Nat) (z8 : Sl), r = G5 ns /\ ρ = [Sl.sh (C7 m ws), Sl.sh (.int st), Sl.sh (.int (p' : Nat)), Sl.sh (.int x'), Sl.sh (.list (ps.map G1)), Sl.sh (G1 pt), Sl.sh (.int (h' : Nat)), Sl.ow (L3 (chs ws dn)), z8] /\ Pth ws h' ns q1 /\ dn ++ ns = pt.1, ⟨pt.1, [], p', _, rfl, rfl, hp, rfl⟩, ?_, ?_⟩
     ·rintro v r ρ ⟨ns, dn, h', z8, h2, rfl, hp', hd⟩
      cases ns with
      | nil => cases h2
      | cons n ns =>
       cases (show v :: r = PyData.int (n : Nat) :: G5 ns from h2)
       have hdl : dn.length <= 18 := by
        have := congrArg A3q hd
        rw [O3] at this
        omega
       cases hp' with
       | @cons _ w _ _ hw hp2 =>
       have hlt := (i8.mp hw).1
       have hwc : R6 ws n = w.2.2 := by unfold R6; rw [hw]
       sizeOf_list_dec
       (try unfold N7); (try unfold V7)
       refine ⟨fun ρ' => ρ' = [Sl.sh (C7 m ws), Sl.sh (.int st), Sl.sh (.int (p' : Nat)), Sl.sh (.int x'), Sl.sh (.list (ps.map G1)), Sl.sh (G1 pt), Sl.sh (.int (w.1 : Nat)), Sl.ow (L3 (chs ws dn)), Sl.sh (.int (n : Nat))], ?_, ?_⟩
       ·right
        refine ⟨_, rfl, ?_⟩
        rw [show p9 (.int (n : Nat)) = true from rfl]
        right
        rw [decide_eq_true (show (0 : Int) <= ((n : Nat) : Int) by omega), decide_eq_true (show ((n : Nat) : Int) < (((ws.map L7).length : Nat) : Int) by rw [F6]; omega)]
        exact G9 rfl
       rintro ρ rfl
       try dsimp only
       refine go ?_
       (try unfold N7); (try unfold V7)
       refine ⟨fun ρ' => ρ' = [Sl.sh (C7 m ws), Sl.sh (.int st), Sl.sh (.int (p' : Nat)), Sl.sh (.int x'), Sl.sh (.list (ps.map G1)), Sl.sh (G1 pt), Sl.sh (.int (w.1 : Nat)), Sl.ow (L3 (chs ws dn)), Sl.sh (.int (n : Nat))], ?_, ?_⟩
       ·right
        rw [A4m hw]
        right
        refine ⟨rfl, rfl, Q0 _ _, ?_⟩
        rw [W1, beq_self_eq_true]
        exact G9 rfl
       rintro ρ rfl
       refine go ?_; right
       rw [A4m hw]
       right
       refine ⟨by unfold L3 chs; rw [F6, F6]; omega, ?_⟩
       refine go ?_; right
       rw [A4m hw]
       right
       rw [show L3 (chs ws dn) ++ [PyData.int w.2.2] = L3 (chs ws (dn ++ [n])) by unfold L3 chs; rw [S0, S0, <- hwc]; rfl]
       exact ⟨ns, dn ++ [n], w.2.1, _, rfl, rfl, hp2, by rw [<- hd, A3s]; rfl⟩
     ·rintro ρ ⟨ns, dn, h', z8, h2, rfl, hp', hd⟩
      cases ns with
      | cons n ns => cases h2
      | nil =>
       cases hp'
       rw [Y3] at hd
       rw [hd]
       exact ⟨_, rfl⟩
    rintro ρ ⟨z8, rfl⟩
    refine go ?_
    (try unfold N7); (try unfold V7)
    refine ⟨fun ρ' => ρ' = [Sl.sh (C7 m ws), Sl.sh (.int st), Sl.sh (.int (p' : Nat)), Sl.sh (.int x'), Sl.sh (.list (ps.map G1)), Sl.sh (G1 pt), Sl.sh (.int (q1 : Nat)), Sl.ow (L3 (chs ws pt.1)), z8], ?_, ?_⟩
    ·right
     refine ⟨_, rfl, ?_⟩
     rw [show p9 (.int pt.2) = true from rfl]
     right
     rw [decide_eq_false (show ¬ pt.2 < 1 by omega)]
     right
     refine ⟨⟨by decide, by decide, by decide⟩, ?_⟩
     rw [decide_eq_false (show ¬ 10 ^ Int.toNat 24 < pt.2 from Int.not_lt.mpr h24)]
     exact G9 rfl
    rintro ρ rfl
    refine go ?_
    (try unfold N7); (try unfold V7)
    refine ⟨fun ρ' => ρ' = [Sl.sh (C7 m ws), Sl.sh (.int st), Sl.sh (.int (p' : Nat)), Sl.sh (.int x'), Sl.sh (.list (ps.map G1)), Sl.sh (G1 pt), Sl.sh (.int (q1 : Nat)), Sl.ow (L3 (chs ws pt.1)), z8], ?_, ?_⟩
    ·right
     by_cases c : 1 < pt.2
     ·have e : q1 = p' := by
       rcases hor with z | z
       ·omega
       ·exact z
      rw [decide_eq_true c]
      refine L5 ⟨rfl, rfl, Q0 _ _, ?_⟩
      rw [W1, e, beq_self_eq_true]
      exact G9 rfl
     ·rw [decide_eq_false c]
      exact G9 rfl
    rintro ρ rfl
    refine go ?_; left
    refine ⟨st, chs ws pt.1, rfl, by omega, ?_⟩
    right
    have ha2 : S7 ws st (itF st (chs ws pt.1) pt.2.toNat (some x')) R = some y := ha'
    obtain ⟨x2, hx2⟩ : ∃ x2, itF st (chs ws pt.1) pt.2.toNat (some x') = some x2 := by
     cases e : itF st (chs ws pt.1) pt.2.toNat (some x') with
     | none => rw [e, B22] at ha2; cases ha2
     | some x2 => exact ⟨x2, rfl⟩
    obtain ⟨e1, e2, e3⟩ := B6k x0' x1' h1' (by rw [<- B0c]; exact hx2)
    rw [hx2] at ha2
    refine ⟨fxF st (chs ws pt.1), pt.2, some x', rfl, fun lo g tp e => C62 ok hfew e, ?_⟩
    rw [e1]
    refine go ?_; right
    exact ⟨R, q1, x2, _, _, _, _, rfl, rfl, htr, ha2, e2, e3, fun pt h => hth' pt (C3 _ h)⟩
  ·rintro ρ ⟨R, p', x', z5, z6, z7, z8, h1, rfl, ht', ha', x0', x1', hth'⟩
   cases R with
   | cons pt R => cases h1
   | nil =>
    cases ht'
    cases ha'
    exact ⟨_, _, _, _, rfl⟩
 rintro ρ ⟨z5, z6, z7, z8, rfl⟩
 refine go ?_; left
 exact ⟨by show 2 <= 1000; decide, q⟩
end
theorem Y1 {t u : DS} {D : K9} {ρ : List Sl} (M : List Sl -> Prop) (h1 : t { D with nx := M } ρ) (h2 : ∀ ρ', M ρ' -> Go (u D) ρ') : N7 (V7 t) u D ρ := ⟨M, h1, h2⟩
def B73 (g : DG) (tb : DS) (D : K9) (xs : List PyData) (ρ1 : List Sl) : Prop := ∃ I : List PyData -> List Sl -> Prop, I xs ρ1 /\ (∀ x r ρ, I (x :: r) ρ -> g x ρ (Blk tb { nx := I r, ct := I r, bk := D.nx, rt := D.rt })) /\ ∀ ρ, I [] ρ -> D.nx ρ
theorem B74 {it : DF} {g : DG} {tb : DS} {D : K9} {ρ : List Sl} (h : it ρ fun xs ρ1 => B73 g tb D xs ρ1) : A9l it g tb D ρ := h
theorem B75 {g : DG} {tb : DS} {D : K9} {xs : List PyData} {ρ1 : List Sl} (I : List PyData -> List Sl -> Prop) (h0 : I xs ρ1) (h1 : ∀ x r ρ, I (x :: r) ρ -> g x ρ (Blk tb { nx := I r, ct := I r, bk := D.nx, rt := D.rt })) (h2 : ∀ ρ, I [] ρ -> D.nx ρ) : B73 g tb D xs ρ1 := ⟨I, h0, h1, h2⟩
theorem B0d {α : Type} {o : Option α} {d : α} {f : α -> Prop} (h : o = some d) (q : f d) : bnd o f := by rw [h]; exact q
def C67 : DSp := fun ds Q => ∃ d, ds = [d] /\ ∀ r : Int, 1 <= r -> r <= 1000000000000000000 -> Q (.int r)
def C68 : DSp := fun ds Q => ∃ (d : PyData) (sc : Int), ds = [d, .int sc] /\ 0 <= sc /\ sc <= 1000000000000000000 /\ ∀ r : Int, -sc <= r -> r <= sc -> Q (.int r)
def C69 : DSp := fun ds Q => ∃ (d : PyData) (sc : Int), ds = [d, .int sc] /\ 0 <= sc /\ sc <= 1000000000000000000 /\ ∀ r : Int, 0 <= r -> r <= 100000000000000000000 -> Q (.int r)
def C7a : DSp := fun ds Q => ∃ (d : PyData) (pl wn : Nat) (sc : Int), ds = [d, .int (pl : Nat), .int (wn : Nat), .int sc] /\ 1 <= pl /\ pl <= 12 /\ wn <= 40 /\ 1 <= sc /\ sc <= 1000000000000000000 /\ ∀ m ws, K2 m ws -> Q (C7 m ws)
def C7b : DSp := fun ds Q => ∃ (d : PyData) (m : Nat) (st : Int), ds = [d, .int (m : Nat), .int st] /\ m <= 12 /\ 0 <= st /\ st <= 1000000000000000000000 /\ ∀ t, G7 m st t -> Q (.list (C4 t))
def ODs (st : Int) (d : PyData) : Prop := ∃ o : Option Int, d = oD o /\ ∀ x, o = some x -> 0 <= x /\ x <= st
theorem B76 {st : Int} : ∀ {ds : List PyData}, (∀ d ∈ ds, ODs st d) -> ∃ t : Tb, ds = C4 t /\ G7 ds.length st t
 | [], _ => ⟨[], rfl, rfl, fun p x e => by rw [A21 (M9 _)] at e; cases e⟩
 | d :: ds, h => by
  obtain ⟨t, rfl, ht⟩ := B76 (ds := ds) fun e he => h e (C3 _ he)
  obtain ⟨o, rfl, ho⟩ := h d C6
  refine ⟨o :: t, rfl, ⟨by rw [M2, M2, A1q], fun p x e => ?_⟩⟩
  cases p with
  | zero => exact ho x e
  | succ p => exact ht.bd p x e
theorem lt2 {r : Int} (h0 : 0 <= r) (h1 : r < 2) : r = 0 \/ r = 1 := by omega
section
variable {P : Program} {w : World} {K : A3} {mg : Str -> Option Value} {base : Heap}
theorem C7c (T : Txt K mg) : D4 P w K mg base CX0 4 T.a_scale T.d_scale ["_law_hand_here"] (spD [.hd] C67) := by
 have G_draw := @A3o P w K mg base T
 have b_draw := A3n T
 refine J3 T.F_scale C3p rfl (fun C cdv A outer s H E hr => ⟨_, (@B6 _ _ _ _ (@D2 _ _ _ _ _ (@L6 _ _ _ _ _ _ _ (J7 (M1 (A7 A6 (A7 A6 (A7 A6 (A7 A6 (A7 (E3 m5 A0i A6 A6) (A7 (E3 m5 A0i A6 A6) D0 G6) G6) G4) G4) G4) G4))) (C8 (B7 G_draw (hr.mono (by decide)) rfl T.mg_draw T.kp_draw b_draw .nil B8 (F3 (pv 0) (A5 A6 C5 G4) A0) (he := A0) (hpl := (A2 G4 A4)))) (fun _ _ => rfl)))), fun ds Q hl h => ?_⟩)
 obtain ⟨d, rfl, q⟩ := h
 left
 refine ⟨⟨by decide, by decide, by decide⟩, ⟨by decide, by decide, by decide⟩, by decide, rfl, 6, rfl, by decide, by decide, fun r r0 r1 => ?_⟩
 left
 have hr' : r = 0 \/ r = 1 \/ r = 2 \/ r = 3 \/ r = 4 \/ r = 5 := by omega
 rcases hr' with rfl | rfl | rfl | rfl | rfl | rfl
 all_goals exact q _ (by decide) (by decide)
theorem C7d (T : Txt K mg) : D4 P w K mg base CX0 4 T.a_change T.d_change ["_law_hand_here", "_law_scale_here"] (spD [.hd, .sh] C68) := by
 have G_draw := @A3o P w K mg base T
 have b_draw := A3n T
 refine J3 T.F_change C3q rfl (fun C cdv A outer s H E hr => ⟨_, (B6 (D2 (E3 j8 A0h (C8 (B7 G_draw (hr.mono (by decide)) rfl T.mg_draw T.kp_draw b_draw .nil B8 (F3 (pv 0) (A5 (E3 L8 N4 (E3 X1 A15 A6 (A1 (pv 1))) A6) C5 G6) A0) (he := A0) (hpl := (A2 G6 A4)))) (A1 (pv 1))))), fun ds Q hl h => ?_⟩)
 obtain ⟨d, sc, rfl, s0, s1, q⟩ := h
 left
 refine ⟨rfl, .inl ⟨by decide, by decide⟩, 2 * sc + 1, rfl, by omega, by omega, fun r r0 r1 => ?_⟩
 left
 exact q _ (by omega) (by omega)
theorem C7e (T : Txt K mg) : D4 P w K mg base CX0 4 T.a_store T.d_store ["_law_hand_here", "_law_scale_here"] (spD [.hd, .sh] C69) := by
 have G_draw := @A3o P w K mg base T
 have b_draw := A3n T
 refine J3 T.F_store B62 rfl (fun C cdv A outer s H E hr => ⟨_, (@F8 _ _ _ _ _ _ (E1 (C1 (i := 2) B62.nd rfl (A8 rfl) (C8 (B7 G_draw (hr.mono (by decide)) rfl T.mg_draw T.kp_draw b_draw .nil B8 (F3 (pv 0) (A5 A6 C5 G4) A0) (he := A0) (hpl := (A2 G4 A4)))))) (@F8 _ _ _ _ _ _ (K0 (G0 (U9 (O1 hr)) N8 (A1 (pv 2)) A6 (D5 _))
   (B6 (D2 (C8 (B7 G_draw (hr.mono (by decide)) rfl T.mg_draw T.kp_draw b_draw .nil B8 (F3 (pv 0) (A5 A6 C5 G4) A0) (he := A0) (hpl := (A2 G4 A4))))))
   K1) (@F8 _ _ _ _ _ _ (@K0 _ _ _ _ _ _ _ _ _ (G0 (U9 (O1 hr)) N8 (A1 (pv 2)) A6 (D5 _)) (B6 (D2 (L6 (J7 (M1 (A7 (E3 m5 A0i A6 A6) (A7 (E3 m5 A0i A6 A6) D0 G6) G6))) (C8 (B7 G_draw (hr.mono (by decide)) rfl T.mg_draw T.kp_draw b_draw .nil B8 (F3 (pv 0) (A5 A6 C5 G4) A0) (he := A0) (hpl := (A2 G4 A4)))) (fun _ _ => rfl)))) K1) (@B6 _ _ _ _ (@D2 _ _ _ _ _ (@P6 _ _ _ _ _ _ e8 (@J6 _ _ _ _ _ _ _ _ _ (b8 rfl) rfl T.n_min d4 (A7 (E3 m5 A0i A6 A6) (A7 (C8 (B7 G_draw (hr.mono (by decide)) rfl T.mg_draw T.kp_draw b_draw .nil B8 (F3 (pv 0) (A5 (E3 L8 N4 (E3 X1 A15 A6 (A1 (pv 1))) A6) C5 G6) A0) (he := A0) (hpl := (A2 G6 A4)))) D0 J5) G6) (by decide) (by decide) G6 ((A2 J5 A4))))))))), fun ds Q hl h => ?_⟩)
 obtain ⟨d, sc, rfl, s0, s1, q⟩ := h
 left
 refine ⟨rfl, 6, rfl, by decide, by decide, fun r r0 r1 => ?_⟩
 left
 refine ⟨rfl, rfl, Q0 _ _, ?_⟩
 rw [W1]
 by_cases c0 : r = 0
 ·rw [c0, show ((0 : Int) == 0) = true from rfl]
  left
  refine ⟨rfl, 4, rfl, by decide, by decide, fun r r0 r1 => ?_⟩
  exact q _ r0 (by omega)
 ·rw [beq_eq_false_iff_ne.mpr c0]
  left
  refine ⟨rfl, rfl, Q0 _ _, ?_⟩
  rw [W1]
  by_cases c1 : r = 1
  ·rw [c1, show ((1 : Int) == 1) = true from rfl]
   left
   refine ⟨⟨by decide, by decide, by decide⟩, ⟨by decide, by decide, by decide⟩, by decide, rfl, 2, rfl, by decide, by decide, fun r r0 r1 => ?_⟩
   left
   rcases lt2 r0 r1 with rfl | rfl
   all_goals exact q _ (by decide) (by decide)
  ·rw [beq_eq_false_iff_ne.mpr c1]
   left
   refine ⟨⟨by decide, by decide, by decide⟩, rfl, .inl ⟨by decide, by decide⟩, 4 * sc + 1, rfl, by omega, by omega, fun r r0 r1 => ?_⟩
   left
   refine q _ ?_ ?_
   ·split
    ·exact r0
    ·decide
   ·split
    ·omega
    ·decide
end
def WyB (m : Nat) (w : Wy) : Prop := w.1 < m /\ w.2.1 < m /\ -1000000000000000000 <= w.2.2 /\ w.2.2 <= 1000000000000000000
theorem A8g {r : Int} {m : Nat} (h0 : 0 <= r) (h1 : r < ((m : Nat) : Int)) : ∃ n : Nat, r = ((n : Nat) : Int) /\ n < m := ⟨r.toNat, by omega, by omega⟩
section
variable {P : Program} {w : World} {K : A3} {mg : Str -> Option Value} {base : Heap}
theorem C7f (T : Txt K mg) : D4 P w K mg base CX0 5 T.a_land T.d_land ["_law_hand_here", "_law_places", "_law_ways", "_law_scale_here"] (spD [.hd, .sh, .sh, .sh] C7a) := by
 have G_draw := @A3o P w K mg base T
 have b_draw := A3n T
 have G_change := @C7d P w K mg base T
 have b_change := C4k T
 refine J3 T.F_land A4k rfl (fun C cdv A outer s H E hr => ⟨_, (@D1 _ _ _ _ _ _ (E1 (C1 (i := 4) A4k.nd rfl (A8 rfl) (E3 L8 N4 A6 (C8 (B7 G_draw (hr.mono (by decide)) rfl T.mg_draw T.kp_draw b_draw .nil B8 (F3 (pv 0) (A5 (A1 (pv 1)) C5 A0) A0) (he := A0) (hpl := (A2 A0 A4))))))) (@D1 _ _ _ _ _ _ (g6 (C1 (i := 5) A4k.nd rfl (A8 rfl) (M1 D0))) (@D1 _ _ _ _ _ _ (@W6 _ _ _ _ _ _ (@U7 _ _ _ _ _ _ _ _ Q3 rfl (A2b (w4 rfl T.n_range (A7 (C8 (B7 G_draw (hr.mono (by decide)) rfl T.mg_draw T.kp_draw b_draw .nil B8 (F3 (pv 0) (A5 (E3 L8 N4 (A1 (pv 2)) A6) C5 G6) A0) (he := A0) (hpl := (A2 G6 A4)))) D0 J5))) (Z3 (K6 (i := 6) A4k.nd rfl (A8 rfl))) (@D1 _ _ _ _ _ _ (E1 (C1 (i := 7) A4k.nd rfl (A8 rfl) (C8 (B7 G_draw (hr.mono (by decide)) rfl T.mg_draw T.kp_draw b_draw .nil B8 (F3 (pv 0) (A5 (A1 (pv 4)) C5 A0) A0) (he := A0) (hpl := (A2 A0 A4)))))) (@D1 _ _ _ _ _ _ (E1 (C1 (i := 8) A4k.nd rfl (A8 rfl) (C8 (B7 G_draw (hr.mono (by decide)) rfl T.mg_draw T.kp_draw b_draw .nil B8 (F3 (pv 0) (A5 (A1 (pv 4)) C5 A0) A0) (he := A0) (hpl := (A2 A0 A4)))))) (@D1 _ _ _ _ _ _ (@N1 _ _ _ _ (@K0 _ _ _ _ _ _ _ _ _ (G0 (U9 (O1 hr)) N8 (C8 (B7 G_draw (hr.mono (by decide)) rfl T.mg_draw T.kp_draw b_draw .nil B8 (F3 (pv 0) (A5 A6 C5 G4) A0) (he := A0) (hpl := (A2 G4 A4)))) A6 (D5 _)) (B6 (E1 (C1 (i := 8) A4k.nd rfl (A8 rfl) (E3 j9 B48 (E3 L8 N4 (A1 (pv 7)) A6) (A1 (pv 4)))))) K1)) (@B6 _ _ _ _ (@A2e _ _ _ _ _ _ (@X0 _ _ _ _ (@Y9 _ _ _ _ _ _ _ _ _ _ _ _ j6 A1y A1z m6 (pv 5) (@A9 _ _ _ _ _ (@P5 _ _ _ _ _ _ (@A7 _ _ _ _ _ _ (A1 (pv 7)) (@A7 _ _ _ _ _ _ (A1 (pv 8)) (@A7 _ _ _ _ _ _ (@C8 _ _ _ _ _ _ _ (@B7 _ _ _ _ _ _ _ _ _ _ _ _ _ _ _ _ G_change (hr.mono (by decide)) rfl T.mg_change T.kp_change b_change .nil B8 (F3 (pv 0) (A5 (L6 (J7 (M1 (A7 (A1 (pv 3)) (A7 (A1 (pv 3)) (A7 A6 D0 G4) A0) A0))) (C8 (B7 G_draw (hr.mono (by decide)) rfl T.mg_draw T.kp_draw b_draw .nil B8 (F3 (pv 0) (A5 A6 C5 G4) A0) (he := A0) (hpl := (A2 G4 A4)))) (fun _ _ => rfl)) C5 B3) A0) (by decide) A0 ((A2 B3 A4)))) D0 J5) A0) A0)) D3 x8) (by rfl) (by rfl) (by rfl) (by rfl) (by rfl)) (by rfl))))))) (by intro _; rfl))) (B6 (D2 (P5 (A7 (A1 (pv 4)) (A7 (A1 (pv 5)) D0 A0) A0))))))), fun ds Q hl h => ?_⟩)
 obtain ⟨d, pl, wn, sc, rfl, p1, p2, w2, s0, s1, q⟩ := h
 left
 refine ⟨rfl, _, rfl, by omega, by omega, fun r r0 r1 => ?_⟩
 left
 obtain ⟨m, hm, m1⟩ : ∃ m : Nat, 1 + r = ((m : Nat) : Int) /\ 1 <= m /\ m <= 12 := ⟨(1 + r).toNat, by omega, by omega, by omega⟩
 rw [hm]
 refine go ?_; left
 refine ⟨by decide, ?_⟩
 refine go ?_; array_mem_dec
 refine ⟨rfl, _, rfl, by omega, by omega, fun c c0 c1 => ?_⟩
 array_mem_dec
 refine ⟨⟨by omega, by omega⟩, fun r ρ => ∃ (ws : List Wy) (z6 z7 z8 : Sl), ρ = [Sl.hd, Sl.sh (.int (pl : Nat)), Sl.sh (.int (wn : Nat)), Sl.sh (.int sc), Sl.sh (.int (m : Nat)), Sl.ow (ws.map L7), z6, z7, z8] /\ r.length + ws.length <= 40 /\ ∀ w ∈ ws, WyB m w, ⟨[], _, _, _, rfl, by unfold K8; simp; omega, fun w hw => nomatch hw⟩, ?_, ?_⟩
 ·rintro x r ρ ⟨ws, z6, z7, z8, rfl, hl2, hw⟩
  sizeOf_list_dec
  refine ⟨rfl, _, rfl, by omega, by omega, fun a a0 a1 => ?_⟩
  refine go ?_; left
  refine ⟨rfl, _, rfl, by omega, by omega, fun b b0 b1 => ?_⟩
  refine go ?_
  unfold N7
  obtain ⟨a', rfl, ha⟩ := A8g a0 a1
  obtain ⟨b', rfl, hb⟩ := A8g b0 b1
  refine ⟨fun ρ => ∃ e : Nat, e < m /\ ρ = [Sl.hd, Sl.sh (.int (pl : Nat)), Sl.sh (.int (wn : Nat)), Sl.sh (.int sc), Sl.sh (.int (m : Nat)), Sl.ow (ws.map L7), Sl.sh x, Sl.sh (.int (a' : Nat)), Sl.sh (.int (e : Nat))], ?_, ?_⟩
  ·left
   refine ⟨rfl, _, rfl, by decide, by decide, fun u u0 u1 => ?_⟩
   left
   refine ⟨rfl, rfl, Q0 _ _, ?_⟩
   rw [W1]
   cases (u == 0) with
   | true =>
    left
    refine ⟨by omega, ?_⟩
    obtain ⟨e, he, hem⟩ := A8g (r := (((a' : Nat) : Int) + 1) % ((m : Nat) : Int)) (m := m) (A8p _ (by omega)) (B3i _ (by omega))
    rw [he]
    exact ⟨e, hem, rfl⟩
   | false =>
    left
    exact ⟨b', hb, rfl⟩
  ·rintro ρ ⟨e, he, rfl⟩
   refine go ?_; left
   refine ⟨rfl, by show 3 <= 1000; decide, rfl, _, rfl, by decide, by decide, fun u u0 u1 => ?_⟩
   left
   obtain ⟨sc', hsc, hs0, hs1⟩ : ∃ sc' : Int, atI [PyData.int sc, .int sc, .int 1] u = some (.int sc') /\ 0 <= sc' /\ sc' <= 1000000000000000000 := by
    have hu : u = 0 \/ u = 1 \/ u = 2 := by omega
    rcases hu with rfl | rfl | rfl
    ·exact ⟨sc, rfl, by omega, s1⟩
    ·exact ⟨sc, rfl, by omega, s1⟩
    ·exact ⟨1, rfl, by decide, by decide⟩
   rw [hsc]
   left
   refine ⟨_, sc', rfl, hs0, hs1, fun v v0 v1 => ?_⟩
   left
   refine ⟨by decide, by rw [F6]; simp at hl2; omega, ws ++ [(a', e, v)], _, _, _, by rw [S0]; rfl, by simp at hl2 ⊢; omega, fun w hw' => ?_⟩
   rcases O8.mp hw' with z | z
   ·exact hw w z
   ·have : w = (a', e, v) := by simpa using z
    subst this
    exact ⟨ha, he, show -1000000000000000000 <= v by omega, show v <= 1000000000000000000 by omega⟩
 ·rintro ρ ⟨ws, z6, z7, z8, rfl, hl2, hw⟩
  refine go ?_; left
  refine ⟨by decide, ?_⟩
  exact q m ws ⟨m1.1, m1.2, by simp at hl2; omega, fun w h => (hw w h).1, fun w h => (hw w h).2.1, fun w h => (hw w h).2.2.1, fun w h => (hw w h).2.2.2⟩
theorem C7g (T : Txt K mg) : D4 P w K mg base CX0 4 T.a_table T.d_table ["_law_hand_here", "_law_many", "_law_store_here"] (spD [.hd, .sh, .sh] C7b) := by
 have G_draw := @A3o P w K mg base T
 have b_draw := A3n T
 refine J3 T.F_table B63 rfl (fun C cdv A outer s H E hr => ⟨_, (@F8 _ _ _ _ _ _ (E1 (C1 (i := 3) B63.nd rfl (Or.inr rfl) (E3 L8 N4 A6 (E3 X1 A15 A6 (C8 (B7 G_draw (hr.mono (by decide)) rfl T.mg_draw T.kp_draw b_draw .nil B8 (F3 (pv 0) (A5 A6 C5 G4) A0) (he := A0) (hpl := (A2 G4 A4)))))))) (@B6 _ _ _ _ (@D2 _ _ _ _ _ (@J7 _ _ _ _ (@A5m _ _ _ _ _ _ _ _ rfl (@A34 _ _ _ _ _ _ _ _ _ _ _ _ _ _ _ (W5.new (N := ["_law_hand_here", "_law_many", "_law_store_here", "_law_rare"]) (osc := B0 A4j) (by decide +kernel)) rfl (A2b (w4 rfl T.n_range (A7 (A1 (pv 1)) D0 A0))) (fun _ => A9k) (fun _ => (@L6 _ _ _ _ _ _ _ (J7 (M1 (A7 (C8 (B7 G_draw (hr.mono (by decide)) rfl T.mg_draw T.kp_draw b_draw .nil B8 (F3 (pv 0) (A5 (E3 L8 N4 (A1 (pv 2)) A6) C5 G6) A0) (he := A0) (hpl := (A2 G6 A4)))) (A7 J2 D0 G4) J5))) (P6 B1s (b9 B03 rfl T.n_int A7m (A7 (m8 b6 A0j (C8 (B7 G_draw (hr.mono (by decide)) rfl T.mg_draw T.kp_draw b_draw .nil B8 (F3 (pv 0) (A5 (A1 (pv 3)) C5 A0) A0) (he := A0) (hpl := (A2 A0 A4)))) A6 (D5 _)) D0 A5b) (he := A5b) (hpl := A4))) (fun _ _ => rfl))) (by rfl) (by rfl) (by intro _; rfl))))))), fun ds Q hl h => ?_⟩)
 obtain ⟨d, m, st, rfl, m2, s0, s1, q⟩ := h
 left
 refine ⟨rfl, _, rfl, by decide, by decide, fun r r0 r1 => ?_⟩
 array_mem_dec
 refine ⟨.inl ⟨by decide, by decide⟩, ⟨by omega, by omega⟩, ⟨rfl, by unfold K8; rw [F6, b3]; omega⟩, ?_⟩
 refine B5y (R := ODs st) (fun x hx Q' q' => ?_) fun ds hl2 hR => ?_
 ·left
  refine ⟨rfl, _, rfl, by omega, by omega, fun u u0 u1 => ?_⟩
  left
  refine ⟨by decide, rfl, _, rfl, by omega, by omega, fun v v0 v1 => ?_⟩
  left
  cases decide (0 < v) with
  | true =>
   exact q' _ ⟨none, rfl, fun x e => nomatch e⟩
  | false =>
   exact q' _ ⟨some u, rfl, fun x e => by cases e; exact ⟨u0, by omega⟩⟩
 ·obtain ⟨t, e, ht⟩ := B76 hR
  rw [W3, e]
  have hlen : ds.length = m := by rw [hl2]; unfold K8; rw [F6, b3]; simp
  rw [hlen] at ht
  exact q t ht
end
def C8v : DSp := fun ds Q => ∃ d, ds = [d] /\ ∀ m ws st g, K2 m ws -> 0 <= st -> st <= 100000000000000000000 -> G7 m st g -> Q (.tuple [C7 m ws, .int st, .list (C4 g)])
theorem C8w {st x : Int} (h0 : 0 <= st) : 0 <= (if st - x % 3 > 0 then st - x % 3 else 0) /\ (if st - x % 3 > 0 then st - x % 3 else 0) <= st := by
 have := A8p x (show (3 : Int) ≠ 0 by decide)
 split <;> omega
section
variable {P : Program} {w : World} {K : A3} {mg : Str -> Option Value} {base : Heap}
end
theorem B77 : ∀ ws : List Wy, PyData.canLayAll0 (ws.map L7) = true
 | [] => rfl
 | w :: ws => by
  show (PyData.canLay0 (L7 w) && PyData.canLayAll0 (ws.map L7)) = true
  rw [B77 ws]; rfl
theorem B78 : ∀ ws : List Wy, PyData.depthAll (ws.map L7) <= 1
 | [] => M9 _
 | w :: ws => by
  show max (PyData.depth (L7 w)) (PyData.depthAll (ws.map L7)) <= 1
  have := B78 ws
  have h : PyData.depth (L7 w) = 1 := rfl
  omega
theorem C8x (m : Nat) (ws : List Wy) : (C7 m ws).canLay0 = true := by
 show (PyData.canLay0 (.int m) && (PyData.canLayAll0 (ws.map L7) && true)) = true
 rw [B77]; rfl
theorem C8y (m : Nat) (ws : List Wy) (d : PyData) : min (C7 m ws).depth d.depth <= 64 := by
 have : (C7 m ws).depth <= 64 := by
  show max (PyData.depth (.int m)) (max (PyData.depthAll (ws.map L7) + 1) 0) + 1 <= 64
  have := B78 ws
  have h : PyData.depth (.int m) = 0 := rfl
  omega
 omega
theorem C8z {lo : Int} {N k : Nat} {x : PyData} {r : List PyData} (h : x :: r = (K8 lo N).drop k) : x = .int (lo + ((k : Nat) : Int)) /\ r = (K8 lo N).drop (k + 1) /\ k < N := by
 have hk : k < (K8 lo N).length := by
  rcases A3u k (K8 lo N).length with c | c
  ·exact c
  ·rw [List.drop_of_length_le c] at h; cases h
 rw [A8n hk] at h
 injection h with h1 h2
 obtain ⟨hk', e⟩ := B1z (N0 hk)
 exact ⟨by rw [h1, e], h2, hk'⟩
theorem C80 {lo : Int} {N k : Nat} (h : [] = (K8 lo N).drop k) : N <= k := by
 have := congrArg A3q h
 unfold K8 at this
 simp at this
 omega
theorem C7h (n : Nat) : K8 0 n = (N5 n).map fun k => PyData.int ((k : Nat) : Int) := by
 unfold K8
 congr 1
 funext i
 rw [Int.zero_add]
def E2 (n : Nat) (d : PyData) : Prop := d.canLay0 = true /\ d.depth <= n
theorem E2.all {n : Nat} : ∀ {ds : List PyData}, (∀ d ∈ ds, E2 n d) -> PyData.canLayAll0 ds = true /\ PyData.depthAll ds <= n
 | [], _ => ⟨rfl, M9 _⟩
 | d :: ds, h => by
  obtain ⟨a, b⟩ := E2.all fun x hx => h x (C3 _ hx)
  obtain ⟨a1, b1⟩ := h d C6
  constructor
  ·show (PyData.canLay0 d && PyData.canLayAll0 ds) = true
   rw [a, a1]; rfl
  ·show max (PyData.depth d) (PyData.depthAll ds) <= n
   omega
theorem E2.lst {n : Nat} {ds : List PyData} (h : ∀ d ∈ ds, E2 n d) : E2 (n + 1) (.list ds) := by
 obtain ⟨a, b⟩ := E2.all h
 refine ⟨by rw [PyData.canLay0]; exact a, ?_⟩
 show PyData.depthAll ds + 1 <= n + 1
 omega
theorem E2.tup {n : Nat} {ds : List PyData} (h : ∀ d ∈ ds, E2 n d) : E2 (n + 1) (.tuple ds) := by
 obtain ⟨a, b⟩ := E2.all h
 refine ⟨by rw [PyData.canLay0]; exact a, ?_⟩
 show PyData.depthAll ds + 1 <= n + 1
 omega
theorem E2.mono {n k : Nat} {d : PyData} (h : E2 n d) (l : n <= k) : E2 k d := ⟨h.1, t8 h.2 l⟩
theorem E2.int {n : Nat} (i : Int) : E2 n (.int i) := ⟨rfl, M9 _⟩
theorem E2.str {n : Nat} {i : Str} (h : (PyData.str i).canLay0 = true) : E2 n (.str i) := ⟨h, M9 _⟩
theorem E2.non {n : Nat} : E2 n .none := ⟨rfl, M9 _⟩
theorem E2.bl {n : Nat} (b : Bool) : E2 n (.bool b) := ⟨rfl, M9 _⟩
theorem E2.o {n : Nat} (o : Option Int) : E2 n (oD o) := by cases o <;> exact ⟨rfl, M9 _⟩
theorem E2.tab (t : Tb) : E2 1 (.list (C4 t)) := E2.lst fun d hd => by
 unfold C4 at hd
 obtain ⟨o, _, rfl⟩ := b4.mp hd
 exact .o o
theorem E2.way (w : Wy) : E2 1 (L7 w) := E2.tup fun d hd => by
 rcases O7.mp hd with rfl | hd
 ·exact .int _
 rcases O7.mp hd with rfl | hd
 ·exact .int _
 rw [B0t.mp hd]; exact .int _
theorem E2.land (m : Nat) (ws : List Wy) : E2 3 (C7 m ws) := E2.tup fun d hd => by
 rcases O7.mp hd with rfl | hd
 ·exact .int _
 rw [B0t.mp hd]
 exact E2.lst fun d hd => by
  obtain ⟨w, _, rfl⟩ := b4.mp hd
  exact .way w
theorem E2.two {n : Nat} {a b : PyData} (ha : E2 n a) (hb : E2 n b) : ∀ d ∈ [a, b], E2 n d := fun d hd => by
 rcases O7.mp hd with rfl | hd
 ·exact ha
 rw [B0t.mp hd]; exact hb
theorem E2.three {n : Nat} {a b c : PyData} (ha : E2 n a) (hb : E2 n b) (hc : E2 n c) : ∀ d ∈ [a, b, c], E2 n d := fun d hd => by
 rcases O7.mp hd with rfl | hd
 ·exact ha
 exact E2.two hb hc d hd
theorem E2.dep {n : Nat} {a : PyData} (h : E2 n a) (l : n <= 64) (b : PyData) : min a.depth b.depth <= 64 := by have := h.2; omega
theorem E2.same {n : Nat} {a : PyData} (h : E2 n a) : PyData.eqv a a = true := PySem.SeqAt.eqv_refl _ h.1
theorem E2.eq {n : Nat} {a : PyData} (h : E2 n a) (l : n <= 64) {Q : Bool -> Prop} (q : Q true) : a.canLay0 = true /\ a.canLay0 = true /\ min a.depth a.depth <= 64 /\ Q (PyData.eqv a a) := ⟨h.1, h.1, h.dep l a, by rw [h.same]; exact q⟩
def G3 (q : Sp2) : PyData := .tuple [.int (q.1 : Nat), .int q.2]
def sIn (s k : Nat) : Bool := decide (s / 2 ^ k % 2 = 1)
def tbs (ts : List Tb) (s : Nat) : Tb := (ts[s]?).getD []
def lvG (st : Int) (ts : List Tb) (r : Nat) (q : Sp2) : Option Int := (gt (tbs ts r) q.1).bind fun x => K4 st x q.2
def V4 (n s : Nat) : List Nat := (N5 n).filter (sIn s)
structure A1t (m : Nat) (sp : List Sp2) : Prop where
 few : sp.length <= 4
 pl : ∀ q ∈ sp, q.1 < m
 gf : ∀ q ∈ sp, 0 <= q.2
structure Bas (m : Nat) (st : Int) (sp : List Sp2) (ts : List Tb) (s : Nat) (ks : List Nat) (c : Tb) : Prop where
 tab : G7 m st c
 up : ∀ k ∈ ks, ∀ q, sp[k]? = some q -> leO (lvG st ts (s - 2 ^ k) q) (gt c q.1)
 le : ∀ L : Tb, (∀ k ∈ ks, ∀ q, sp[k]? = some q -> leO (lvG st ts (s - 2 ^ k) q) (gt L q.1)) -> leT c L
def V5 (m : Nat) (st : Int) (sp : List Sp2) (ts : List Tb) (b : Tb) (s : Nat) (c : Tb) : Prop := (s = 0 /\ c = b) \/ (0 < s /\ Bas m st sp ts s (V4 sp.length s) c)
theorem C7i {m : Nat} {st : Int} : G7 m st (G8 m none) := ⟨B0l, fun p x e => by rw [A38] at e; cases e⟩
theorem Bas.nil {m : Nat} {st : Int} {sp : List Sp2} {ts : List Tb} {s : Nat} : Bas m st sp ts s [] (G8 m none) :=
 ⟨C7i, fun k hk => (nomatch hk), fun L _ p => by rw [A38]; exact B15⟩
theorem C7j {st : Int} {ts : List Tb} {r : Nat} {q : Sp2} {x : Int} (h0 : 0 <= st) (h : lvG st ts r q = some x) : 0 <= x /\ x <= st := by
 unfold lvG at h
 cases e : gt (tbs ts r) q.1 with
 | none => rw [e] at h; cases h
 | some l => rw [e] at h; exact A9q h0 h
theorem Bas.put {m : Nat} {st : Int} {sp : List Sp2} {ts : List Tb} {s : Nat} {ks : List Nat} {c : Tb} {k : Nat} {q : Sp2} (h0 : 0 <= st) (B : Bas m st sp ts s ks c) (hq : sp[k]? = some q) (hm : q.1 < m) (h : S6 (lvG st ts (s - 2 ^ k) q) (gt c q.1) = true) : Bas m st sp ts s (ks ++ [k]) (c.set q.1 (lvG st ts (s - 2 ^ k) q)) := by
 have hl : q.1 < c.length := by rw [B.tab.len]; exact hm
 have hle : leT c (c.set q.1 (lvG st ts (s - 2 ^ k) q)) := fun p => by
  rw [Z5 hl]
  split
  ·rename_i e; cases e; exact B5z h
  ·exact g8 _
 refine ⟨⟨by rw [N3]; exact B.tab.len, fun p x e => ?_⟩, fun j hj r hr => ?_, fun L hL p => ?_⟩
 ·rw [Z5 hl] at e
  split at e
  ·exact C7j h0 e
  ·exact B.tab.bd p x e
 ·rcases O8.mp hj with z | z
  ·exact Z4 (B.up j z r hr) (hle _)
  ·have : j = k := by simpa using z
   subst this
   rw [hq] at hr
   cases hr
   rw [Z5 hl, if_pos rfl]
   exact g8 _
 ·rw [Z5 hl]
  split
  ·rename_i e
   cases e
   exact hL k (Z9 _ C6) q hq
  ·exact B.le L (fun j hj => hL j (B0i _ hj)) p
theorem Bas.keep {m : Nat} {st : Int} {sp : List Sp2} {ts : List Tb} {s : Nat} {ks : List Nat} {c : Tb} {k : Nat} {q : Sp2} (B : Bas m st sp ts s ks c) (hq : sp[k]? = some q) (h : leO (lvG st ts (s - 2 ^ k) q) (gt c q.1)) : Bas m st sp ts s (ks ++ [k]) c := by
 refine ⟨B.tab, fun j hj r hr => ?_, fun L hL => B.le L fun j hj => hL j (B0i _ hj)⟩
 rcases O8.mp hj with z | z
 ·exact B.up j z r hr
 ·have : j = k := by simpa using z
  subst this
  rw [hq] at hr
  cases hr
  exact h
theorem A67 {s k : Nat} (h : sIn s k = true) : 2 ^ k <= s := by
 have h1 : s / 2 ^ k % 2 = 1 := of_decide_eq_true h
 rcases A3u s (2 ^ k) with c | c
 ·rw [Nat.div_eq_of_lt c] at h1; cases h1
 ·exact c
theorem A4n {n s k : Nat} (h : k ∈ V4 n s) : k < n /\ sIn s k = true := by
 obtain ⟨h1, h2⟩ := A68.mp h
 exact ⟨i7.mp h1, h2⟩
theorem Bas.cong {m : Nat} {st : Int} {sp : List Sp2} {ts us : List Tb} {s n : Nat} {c : Tb} (h : ∀ r, r < s -> tbs ts r = tbs us r) (B : Bas m st sp ts s (V4 n s) c) : Bas m st sp us s (V4 n s) c := by
 have e : ∀ k ∈ V4 n s, ∀ q, lvG st ts (s - 2 ^ k) q = lvG st us (s - 2 ^ k) q := fun k hk q => by
  have h2 := A67 (A4n hk).2
  have h3 : 0 < 2 ^ k := Nat.pos_of_ne_zero (by simp)
  unfold lvG
  rw [h (s - 2 ^ k) (by omega)]
 exact ⟨B.tab, fun k hk q hq => by rw [<- e k hk]; exact B.up k hk q hq, fun L hL => B.le L fun k hk q hq => by rw [e k hk]; exact hL k hk q hq⟩
theorem V5.cong {m : Nat} {st : Int} {sp : List Sp2} {ts us : List Tb} {s : Nat} {b c : Tb} (h : ∀ r, r < s -> tbs ts r = tbs us r) (B : V5 m st sp ts b s c) : V5 m st sp us b s c := by
 rcases B with z | ⟨z, B⟩
 ·exact .inl z
 ·exact .inr ⟨z, B.cong h⟩
theorem V5.tab {m : Nat} {st : Int} {sp : List Sp2} {ts : List Tb} {s : Nat} {b c : Tb} (hb : G7 m st b) (B : V5 m st sp ts b s c) : G7 m st c := by
 rcases B with ⟨_, rfl⟩ | ⟨_, B⟩
 ·exact hb
 ·exact B.tab
def A8h (m : Nat) (ws : List Wy) (st : Int) (sp : List Sp2) (b : Tb) (ts : List Tb) : Prop := ∀ s, s < ts.length -> ∃ c, V5 m st sp ts b s c /\ Q8 m ws st c (tbs ts s)
structure t7 (m : Nat) (ws : List Wy) (st : Int) (sp : List Sp2) (b : Tb) (ts : List Tb) : Prop where
 len : ts.length = 2 ^ sp.length
 all : A8h m ws st sp b ts
theorem B25 {ts us : List Tb} {r : Nat} (h : r < ts.length) : tbs (ts ++ us) r = tbs ts r := by
 unfold tbs
 rw [A3r h]
theorem B79 {ts : List Tb} {r : Nat} (h : r < ts.length) : ts[r]? = some (tbs ts r) := by
 unfold tbs
 rw [N0 h]
 rfl
theorem B26 {ts : List Tb} {t : Tb} (h : t ∈ ts) : ∃ s, s < ts.length /\ tbs ts s = t := by
 obtain ⟨p, hp, e⟩ := B3e.mp h
 exact ⟨p, hp, by unfold tbs; rw [N0 hp, e]; rfl⟩
theorem A8i {ts : List Tb} {s : Nat} (h : s < ts.length) : tbs ts s ∈ ts := R9 (B79 h)
theorem A8h.snoc {m : Nat} {ws : List Wy} {st : Int} {sp : List Sp2} {b : Tb} {ts : List Tb} {c t : Tb} (h : A8h m ws st sp b ts) (B : V5 m st sp ts b ts.length c) (L : Q8 m ws st c t) : A8h m ws st sp b (ts ++ [t]) := fun s hs => by
 rw [O3, B3b] at hs
 rcases A3u s ts.length with z | z
 ·obtain ⟨c, B', L'⟩ := h s z
  exact ⟨c, B'.cong fun r hr => (B25 (by omega)).symm, by rw [B25 z]; exact L'⟩
 ·have : s = ts.length := by omega
  subst this
  refine ⟨c, B.cong fun r hr => (B25 hr).symm, ?_⟩
  have e : tbs (ts ++ [t]) ts.length = t := by unfold tbs; simp
  rw [e]
  exact L
structure A1u (m : Nat) (ws : List Wy) (st : Int) (sp : List Sp2) (b : Tb) (ts : List Tb) : Prop where
 len : ts.length = 2 ^ sp.length
 tab : ∀ t ∈ ts, G7 m st t
 cl : ∀ t ∈ ts, A23 ws st t
 b0 : leT b (tbs ts 0)
 use : ∀ s, s < ts.length -> ∀ k q, sp[k]? = some q -> sIn s k = true -> leO (lvG st ts (s - 2 ^ k) q) (gt (tbs ts s) q.1)
theorem A1v (n : Nat) : 0 < 2 ^ n := Nat.pos_of_ne_zero (by simp)
theorem B27 {sp : List Sp2} {k : Nat} {q : Sp2} (h : sp[k]? = some q) : k < sp.length := by
 rcases A3u k sp.length with c | c
 ·exact c
 ·rw [j4 c] at h; cases h
theorem C7k {n s k : Nat} (h : k < n) (h2 : sIn s k = true) : k ∈ V4 n s := A68.mpr ⟨i7.mpr h, h2⟩
theorem C7l {s k : Nat} (h : sIn s k = true) : 0 < s := S8 (A1v k) (A67 h)
theorem t7.lid {m : Nat} {ws : List Wy} {st : Int} {sp : List Sp2} {b : Tb} {ts : List Tb} (h : t7 m ws st sp b ts) : A1u m ws st sp b ts := by
 refine ⟨h.len, fun t ht => ?_, fun t ht => ?_, ?_, fun s hs k q hq hk => ?_⟩
 ·obtain ⟨s, hs, rfl⟩ := B26 ht
  obtain ⟨c, _, L⟩ := h.all s hs
  exact L.tab
 ·obtain ⟨s, hs, rfl⟩ := B26 ht
  obtain ⟨c, _, L⟩ := h.all s hs
  exact L.cl
 ·obtain ⟨c, B, L⟩ := h.all 0 (by rw [h.len]; exact A1v _)
  rcases B with ⟨_, rfl⟩ | ⟨z, _⟩
  ·exact L.up
  ·exact absurd z (by decide)
 ·obtain ⟨c, B, L⟩ := h.all s hs
  rcases B with ⟨z, _⟩ | ⟨_, B⟩
  ·have := C7l hk; omega
  ·exact Z4 (B.up k (C7k (B27 hq) hk) q hq) (L.up _)
theorem A1u.under {m : Nat} {ws : List Wy} {st : Int} {sp : List Sp2} {b : Tb} {ts : List Tb} {s : Nat} {c : Tb} (h : A1u m ws st sp b ts) (hs : s < ts.length) (B : V5 m st sp ts b s c) : leT c (tbs ts s) := by
 rcases B with ⟨rfl, rfl⟩ | ⟨_, B⟩
 ·exact h.b0
 ·exact B.le _ fun k hk q hq => h.use s hs k q hq (A4n hk).2
theorem C7m {st : Int} {ts us : List Tb} {r : Nat} {q : Sp2} (h : leT (tbs ts r) (tbs us r)) : leO (lvG st ts r q) (lvG st us r q) := by
 unfold lvG
 have h := h q.1
 cases e : gt (tbs ts r) q.1 with
 | none => exact B15
 | some x =>
  rw [e] at h
  cases e2 : gt (tbs us r) q.1 with
  | none => rw [e2] at h; exact absurd h g7
  | some y => rw [e2] at h; exact B19 (Q7.mp h)
theorem t7.under {m : Nat} {ws : List Wy} {st : Int} {sp : List Sp2} {b b' : Tb} {ts us : List Tb} (h : t7 m ws st sp b ts) (g : A1u m ws st sp b' us) (hb : leT b b') : ∀ s, s < ts.length -> leT (tbs ts s) (tbs us s) := fun s => by
 induction s using Nat.strongRecOn with
 | _ s ih =>
  intro hs
  have hs' : s < us.length := by rw [g.len, <- h.len]; exact hs
  obtain ⟨c, B, L⟩ := h.all s hs
  refine L.le _ (g.tab _ (A8i hs')) ?_ (g.cl _ (A8i hs'))
  rcases B with ⟨rfl, rfl⟩ | ⟨_, B⟩
  ·exact B2a hb g.b0
  ·refine B.le _ fun k hk q hq => ?_
   have h2 := A67 (A4n hk).2
   have h3 := A1v k
   exact Z4 (C7m (ih (s - 2 ^ k) (by omega) (by omega))) (g.use s hs' k q hq (A4n hk).2)
theorem A1u.low {m : Nat} {ws : List Wy} {st : Int} {sp : List Sp2} {b b' : Tb} {ts : List Tb} (g : A1u m ws st sp b' ts) (hb : leT b b') : A1u m ws st sp b ts := ⟨g.len, g.tab, g.cl, B2a hb g.b0, g.use⟩
theorem C7n : ∀ n, n < 5 -> ∀ k, k < n -> ∀ s, s < 2 ^ n -> sIn s k = false -> sIn (s + 2 ^ k) k = true /\ s + 2 ^ k < 2 ^ n := by decide
theorem C7o : ∀ k, k < 4 -> ∀ s, s < 16 -> decide (Builtin.bitAnd ((s : Nat) : Int) ((2 ^ k : Nat) : Int) = 0) = !sIn s k := by decide
theorem A1u.next {m : Nat} {ws : List Wy} {st : Int} {sp : List Sp2} {b : Tb} {ts : List Tb} {s k : Nat} {q : Sp2} (hf : sp.length <= 4) (g : A1u m ws st sp b ts) (hs : s < ts.length) (hq : sp[k]? = some q) (h : sIn s k = false) : s + 2 ^ k < ts.length /\ leO (lvG st ts s q) (gt (tbs ts (s + 2 ^ k)) q.1) := by
 obtain ⟨h1, h2⟩ := C7n sp.length (by omega) k (B27 hq) s (by rw [<- g.len]; exact hs) h
 have h3 : s + 2 ^ k < ts.length := by rw [g.len]; exact h2
 have := g.use (s + 2 ^ k) h3 k q hq h1
 rw [Nat.add_sub_cancel] at this
 exact ⟨h3, this⟩
def O9 (ts : List Tb) : List PyData := ts.map fun t => .list (C4 t)
theorem C7p {N k : Nat} {x : PyData} {r : List PyData} (h : x :: r = (K8 0 N).drop k) : x = .int (k : Nat) /\ r = (K8 0 N).drop (k + 1) /\ k < N := by
 have hk : k < (K8 0 N).length := by
  rcases A3u k (K8 0 N).length with c | c
  ·exact c
  ·rw [List.drop_of_length_le c] at h; cases h
 rw [A8n hk] at h
 injection h with h1 h2
 obtain ⟨hk', e⟩ := B1z (N0 hk)
 exact ⟨by rw [h1, e, Int.zero_add], h2, hk'⟩
theorem C7q {N k : Nat} (h : [] = (K8 0 N).drop k) : N <= k := by
 have := congrArg A3q h
 unfold K8 at this
 simp at this
 omega
theorem C7r (ts : List Tb) : (O9 ts).length = ts.length := F6 _
theorem B0e {ts : List Tb} {r : Nat} (h : r < ts.length) : atI (O9 ts) ((r : Nat) : Int) = some (.list (C4 (tbs ts r))) := Y8 (by unfold O9; rw [R8, B79 h]; rfl)
theorem A8j {sp : List Sp2} {k : Nat} {q : Sp2} (h : sp[k]? = some q) : atI (sp.map G3) ((k : Nat) : Int) = some (G3 q) := Y8 (by rw [R8, h]; rfl)
theorem B8a {sp : List Sp2} {k : Nat} (h : k < sp.length) : ∃ q, sp[k]? = some q := ⟨_, N0 h⟩
def C7s : DSp := fun ds Q => ∃ k : Nat, ds = [.int (k : Nat)] /\ k <= 900 /\ Q (.int ((2 ^ k : Nat) : Int))
def C7t : DSp := fun ds Q => ∃ (sp : List Sp2) (s : Nat), ds = [.list (sp.map G3), .int (s : Nat)] /\ sp.length <= 4 /\ s < 2 ^ sp.length /\ Q (.list (G5 (V4 sp.length s)))
def C7u : DSp := fun ds Q => ∃ (m : Nat) (st : Int) (sp : List Sp2) (ts : List Tb) (s k : Nat) (q : Sp2), ds = [.int st, .list (sp.map G3), .list (O9 ts), .int (s : Nat), .int (k : Nat)] /\ k <= 900 /\ sp[k]? = some q /\ 2 ^ k <= s /\ s - 2 ^ k < ts.length /\ q.1 < m /\ (∀ t ∈ ts, G7 m st t) /\ Q (oD (lvG st ts (s - 2 ^ k) q))
def B8b : DSp := fun ds Q => ∃ (m : Nat) (st : Int) (sp : List Sp2) (ts : List Tb) (b : Tb) (s : Nat), ds = [.int st, .list (sp.map G3), .list (O9 ts), .list (C4 b), .int (s : Nat)] /\ A1t m sp /\ 0 <= st /\ G7 m st b /\ m <= 900 /\ s < 2 ^ sp.length /\ s <= ts.length /\ (∀ t ∈ ts, G7 m st t) /\ ∀ c, V5 m st sp ts b s c -> Q (.list (C4 c))
def C7v : DSp := fun ds Q => ∃ (m : Nat) (ws : List Wy) (st : Int) (sp : List Sp2) (b : Tb), ds = [C7 m ws, .int st, .list (sp.map G3), .list (C4 b)] /\ K2 m ws /\ 0 <= st /\ st <= 1000000000000000000000 /\ A1t m sp /\ G7 m st b /\ ∀ ts, t7 m ws st sp b ts -> Q (.list (O9 ts))
theorem pw4 : ∀ n, n < 5 -> 2 ^ n <= 16 := by decide
theorem C7w {n s : Nat} (h : n <= 4) : (V4 n s).length <= 4 := by
 have := List.length_filter_le (sIn s) (N5 n)
 rw [b3] at this
 unfold V4
 omega
theorem ixS {ts : List Tb} {s k : Nat} (h : 2 ^ k <= s) : ((s : Nat) : Int) - ((2 ^ k : Nat) : Int) = ((s - 2 ^ k : Nat) : Int) := by omega
section
variable {P : Program} {w : World} {K : A3} {mg : Str -> Option Value} {base : Heap}
theorem B0f (T : Txt K mg) : D4 P w K mg base CX0 1 T.a_alone T.d_alone ["number"] (spD [.sh] C7s) := by
 refine J3 T.F_alone C3k rfl (fun C cdv A outer s H E hr => ⟨_, (B6 (D2 (E3 A7i A72 A6 (A1 (pv 0))))), fun ds Q hl h => ?_⟩)
 obtain ⟨k, rfl, hk, q⟩ := h
 left
 refine ⟨⟨by omega, by omega, by decide⟩, ?_⟩
 rw [show (1 : Int) * 2 ^ (((k : Nat) : Int)).toNat = ((2 ^ k : Nat) : Int) by rw [Int.one_mul, A7b, Int.natCast_pow]; rfl]
 exact q
theorem B8c (T : Txt K mg) : D4 P w K mg base CX0 2 T.a_numbers_in T.d_numbers_in ["springs", "some"] (spD [.sh, .sh] C7t) := by
 have G_alone := @B0f P w K mg base T
 have b_alone := A98 T
 refine J3 T.F_numbers_in C3l rfl (fun C cdv A outer s H E hr => ⟨_, (@B6 _ _ _ _ (@D2 _ _ _ _ _ (@J7 _ _ _ _ (@A5m _ _ _ _ _ _ _ _ rfl (@A34 _ _ _ _ _ _ _ _ _ _ _ _ _ _ _ (W5.new (N := ["springs", "some"]) (osc := B0 A4h) (by decide +kernel)) rfl (A2b (w4 rfl T.n_range (A7 (e7 (J6 U0 rfl T.n_len U2 (A9 (pv 0) D3 A0) (he := A0) (hpl := A4))) D0 J5))) (fun _ => (B1f (G0 (A13 (O1 hr)) N8 (E3 B9r C2q (A1 (pv 1)) (C8 (B7 G_alone (hr.mono (by decide)) rfl T.mg_alone T.kp_alone b_alone .nil B8 (A5 (A1 (pv 2)) C5 A0) (he := A0) (hpl := A4)))) A6 (D5 _)))) (fun _ => (A1 (pv 2))) (by rfl) (by rfl) (by intro _; rfl)))))), fun ds Q hl h => ?_⟩)
 obtain ⟨sp, s, rfl, few, hs, q⟩ := h
 have s16 := pw4 sp.length (by omega)
 array_mem_dec
 rw [F6]
 refine ⟨⟨by omega, by omega⟩, ⟨rfl, by unfold K8; rw [F6, b3]; omega⟩, ?_⟩
 rw [A7b, C7h]
 refine A7z (p := fun k => sIn s k) (f := fun k => .int ((k : Nat) : Int)) (fun k hk Q' q' => ?_) (fun k hk _ Q' q' => ?_) ?_
 ·have hk := i7.mp hk
  left
  refine ⟨k, rfl, by omega, ?_⟩
  left
  refine ⟨rfl, rfl, Q0 _ _, ?_⟩
  rw [W1]
  have e := C7o k (by omega) s (by omega)
  have e2 : (Builtin.bitAnd ((s : Nat) : Int) ((2 ^ k : Nat) : Int) == 0) = !sIn s k := e
  rw [e2]
  left
  rw [Bool.not_not]
  exact q'
 ·left
  exact q'
 ·rw [W3]
  exact q
theorem B8d (T : Txt K mg) : D4 P w K mg base CX0 2 T.a_level_by_spring T.d_level_by_spring ["store", "springs", "tables", "some", "number"] (spD [.sh, .sh, .bo, .sh, .sh] C7u) := by
 have G_alone := @B0f P w K mg base T
 have b_alone := A98 T
 have G_stepped := @B2s P w K mg base T
 have b_stepped := B2p T
 refine J3 T.F_level_by_spring B61 rfl (fun C cdv A outer s H E hr => ⟨_, (@F8 _ _ _ _ _ _ (@E1 _ _ _ _ _ (@C1 _ _ 5 _ _ _ _ B61.nd rfl (A8 rfl) (L6 (C2 (pv 2) (E3 j8 A0h (A1 (pv 3)) (C8 (B7 G_alone (hr.mono (by decide)) rfl T.mg_alone T.kp_alone b_alone .nil B8 (A5 (A1 (pv 4)) C5 A0) (he := A0) (hpl := A4)))) (fun _ _ => rfl)) (L6 (C2 (pv 1) (A1 (pv 4)) (fun _ _ => rfl)) (E5 (D8 (v := V.int 0) rfl T.mg_PLACE ⟨_, rfl⟩)) (fun _ _ => rfl)) (fun _ _ => rfl)) (by rfl) (by first | exact .inl rfl | exact .inr rfl | assumption))) (@B6 _ _ _ _ (@D2 _ _ _ _ _ (@B47 _ _ _ _ _ _ _ _ _ (G0 T1 V6 (A1 (pv 5)) J2 (D5 _)) J2 (C8 (B7 G_stepped (hr.mono (by decide)) rfl T.mg_stepped T.kp_stepped b_stepped .nil B8 (A5 (A1 (pv 0)) (A5 (A1 (pv 5)) (A5 (L6 (C2 (pv 1) (A1 (pv 4)) (fun _ _ => rfl)) (E5 (D8 (v := V.int 1) rfl T.mg_GIFT ⟨_, rfl⟩)) (fun _ _ => rfl)) C5 B3) A0) A0) (he := A0) (hpl := (A2 A0 (A2 B3 A4))))))))), fun ds Q hl h => ?_⟩)
 obtain ⟨m, st, sp, ts, s, k, p, rfl, hk, hp, hle, hlt, hm, hT, q⟩ := h
 have tl := (hT _ (A8i hlt)).len
 left
 refine ⟨k, rfl, by omega, ?_⟩
 left
 rw [ixS (ts := ts) hle, B0e hlt]
 left
 rw [A8j hp]
 unfold G3
 left
 rw [Z7 (by rw [tl]; exact hm)]
 left
 unfold lvG at q
 cases e : gt (tbs ts (s - 2 ^ k)) p.1 with
 | none =>
  rw [e] at q
  right
  exact q
 | some x =>
  rw [e] at q
  right
  exact G9 ⟨st, x, p.2, rfl, q⟩
end
section
variable {P : Program} {w : World} {K : A3} {mg : Str -> Option Value} {base : Heap}
theorem B8e (T : Txt K mg) : D4 P w K mg base CX0 3 T.a_base_by T.d_base_by ["store", "springs", "tables", "base", "some"] (spD [.sh, .sh, .bo, .sh, .sh] B8b) := by
 have G_numbers_in := @B8c P w K mg base T
 have b_numbers_in := B69 T
 have G_level_by_spring := @B8d P w K mg base T
 have b_level_by_spring := B7a T
 have G_is_more := @B7g P w K mg base T
 have b_is_more := B65 T
 refine J3 T.F_base_by A96 rfl (fun C cdv A outer s H E hr => ⟨_, (@D1 _ _ _ _ _ _ (N1 (K0 (G0 (U9 (O1 hr)) N8 (A1 (pv 4)) A6 (D5 _))
   (B6 (D2 (A1 (pv 3))))
   K1)) (@D1 _ _ _ _ _ _ (g6 (C1 (i := 5) A96.nd rfl (A8 rfl) (B1u (J7 (M1 (A7 J2 D0 G4))) (e7 (J6 U0 rfl T.n_len U2 (A9 (pv 3) D3 A0) (he := A0) (hpl := A4)))))) (@D1 _ _ _ _ _ _ (@N1 _ _ _ _ (@W6 _ _ _ _ _ _ (@U7 _ _ _ _ _ _ _ _ Q3 rfl (A9i (C8 (B7 G_numbers_in (hr.mono (by decide)) rfl T.mg_numbers_in T.kp_numbers_in b_numbers_in .nil B8 (A5 (A1 (pv 1)) (A5 (A1 (pv 4)) C5 A0) A0) (he := A0) (hpl := (A2 A0 A4))))) (Z3 (K6 (i := 6) A96.nd rfl (A8 rfl))) (@D1 _ _ _ _ _ _ (@E1 _ _ _ _ _ (@C1 _ _ 7 _ _ _ _ A96.nd rfl (A8 rfl) (C8 (B7 G_level_by_spring (hr.mono (by decide)) rfl T.mg_level_by_spring T.kp_level_by_spring b_level_by_spring .nil B8 (A5 (A1 (pv 0)) (A5 (A1 (pv 1)) (F3 (pv 2) (A5 (A1 (pv 4)) (A5 (A1 (pv 6)) C5 A0) A0) A0) A0) A0) (he := A0) (hpl := (A2 A0 (A2 A0 (A2 A0 (A2 A0 A4))))))) (by rfl) (by first | exact .inl rfl | exact .inr rfl | assumption))) (@B6 _ _ _ _ (@K0 _ _ _ _ _ _ _ _ _ (V0 (C8 (B7 G_is_more (hr.mono (by decide)) rfl T.mg_is_more T.kp_is_more b_is_more .nil B8 (A5 (A1 (pv 7)) (A5 (C2 (pv 5) (L6 (C2 (pv 1) (A1 (pv 6)) (fun _ _ => rfl)) (E5 (D8 (v := V.int 0) rfl T.mg_PLACE ⟨_, rfl⟩)) (fun _ _ => rfl)) (fun _ _ => rfl)) C5 B3) A0) (he := A0) (hpl := (A2 B3 A4))))) (B6 (A7x (Q5 (A1 (pv 7)) (Y6 (pv 5) (L6 (C2 (pv 1) (A1 (pv 6)) (fun _ _ => rfl)) (E5 (D8 (v := V.int 0) rfl T.mg_PLACE ⟨_, rfl⟩)) (fun _ _ => rfl)) W4)))) K1))) (by intro _; rfl)))) (B6 (D2 (A1 (pv 5))))))), fun ds Q hl h => ?_⟩)
 obtain ⟨m, st, sp, ts, b, s, rfl, ok, s0, hb, m2, hs, hl2, hT, q⟩ := h
 have few := ok.few
 have bl := hb.len
 (try unfold N7); (try unfold V7)
 refine ⟨fun ρ' => 0 < s /\ ρ' = [Sl.sh (.int st), Sl.sh (.list (sp.map G3)), Sl.bo (O9 ts), Sl.sh (.list (C4 b)), Sl.sh (.int (s : Nat)), .no, .no, .no], ?_, ?_⟩
 ·left
  refine ⟨rfl, rfl, Q0 _ _, ?_⟩
  rw [W1]
  by_cases c : s = 0
  ·subst c
   refine L5 ?_
   exact q b (.inl ⟨rfl, rfl⟩)
  ·rw [show (((s : Nat) : Int) == 0) = false from beq_eq_false_iff_ne.mpr (by omega)]
   exact G9 ⟨by omega, rfl⟩
 rintro ρ ⟨hs0, rfl⟩
 try dsimp only
 refine go ?_; left
 refine ⟨by decide, ⟨by rw [A1q]; omega, by rw [A1q]; omega, by decide⟩, ?_⟩
 rw [A1q, bl, A7b, C5n]
 refine go ?_
 (try unfold N7); (try unfold V7)
 refine ⟨fun ρ' => ∃ (c : Tb) (z6 z7 : Sl), Bas m st sp ts s (V4 sp.length s) c /\ ρ' = [Sl.sh (.int st), Sl.sh (.list (sp.map G3)), Sl.bo (O9 ts), Sl.sh (.list (C4 b)), Sl.sh (.int (s : Nat)), Sl.ow (C4 c), z6, z7], ?_, ?_⟩
 ·array_get_dec
  refine ⟨sp, s, rfl, few, hs, ?_⟩
  array_get_dec
  refine ⟨fun r ρ => ∃ (ks R : List Nat) (c : Tb) (z6 z7 : Sl), r = G5 R /\ ks ++ R = V4 sp.length s /\ Bas m st sp ts s ks c /\ ρ = [Sl.sh (.int st), Sl.sh (.list (sp.map G3)), Sl.bo (O9 ts), Sl.sh (.list (C4 b)), Sl.sh (.int (s : Nat)), Sl.ow (C4 c), z6, z7], ⟨[], _, _, _, _, rfl, rfl, Bas.nil, rfl⟩, ?_, ?_⟩
  ·rintro x r ρ ⟨ks, R, c, z6, z7, h1, h2, B, rfl⟩
   cases R with
   | nil => cases h1
   | cons k R =>
    cases (show x :: r = PyData.int ((k : Nat) : Int) :: G5 R from h1)
    have hk := A4n (n := sp.length) (s := s) (k := k) (by rw [<- h2]; exact Z9 _ C6)
    obtain ⟨p, hp⟩ := B8a hk.1
    have hpm := ok.pl p (R9 hp)
    have hle := A67 hk.2
    have hpp := A1v k
    have cl := B.tab.len
    have h3 : (ks ++ [k]) ++ R = V4 sp.length s := by rw [A3s]; exact h2
    sizeOf_list_dec
    refine ⟨rfl, m, st, sp, ts, s, k, p, rfl, by omega, hp, hle, by omega, hpm, hT, ?_⟩
    refine go ?_; left
    rw [A8j hp]
    unfold G3
    left
    rw [Z7 (by rw [cl]; exact hpm)]
    left
    refine ⟨_, _, rfl, ?_⟩
    cases e : S6 (lvG st ts (s - 2 ^ k) p) (gt c p.1) with
    | false =>
     left
     exact ⟨ks ++ [k], R, c, _, _, rfl, h3, B.keep hp e, rfl⟩
    | true =>
     left
     rw [A8b (by rw [A1q, cl]; exact hpm)]
     left
     rw [B2t]
     exact ⟨ks ++ [k], R, _, _, _, rfl, h3, B.put s0 hp hpm e, rfl⟩
  ·rintro ρ ⟨ks, R, c, z6, z7, h1, h2, B, rfl⟩
   cases R with
   | cons k R => cases h1
   | nil =>
    rw [Y3] at h2
    rw [h2] at B
    exact ⟨c, z6, z7, B, rfl⟩
 rintro ρ ⟨c, z6, z7, B, rfl⟩
 try dsimp only
 refine go ?_; left
 exact q c (.inr ⟨hs0, B⟩)
end
section
variable {P : Program} {w : World} {K : A3} {mg : Str -> Option Value} {base : Heap}
theorem B8f (T : Txt K mg) : D4 P w K mg base CX0 9 T.a_highest_by T.d_highest_by ["land", "store", "springs", "base"] (spD [.sh, .sh, .sh, .sh] C7v) := by
 have G_alone := @B0f P w K mg base T
 have b_alone := A98 T
 have G_base_by := @B8e P w K mg base T
 have b_base_by := B7b T
 have G_highest := @C6r P w K mg base T
 have b_highest := C4c T
 refine J3 T.F_highest_by B2n rfl (fun C cdv A outer s H E hr => ⟨_, (@D1 _ _ _ _ _ _ (g6 (C1 (i := 4) B2n.nd rfl (A8 rfl) (M1 D0))) (@D1 _ _ _ _ _ _ (@W6 _ _ _ _ _ _ (@U7 _ _ _ _ _ _ _ _ Q3 rfl (A2b (w4 rfl T.n_range (A7 (C8 (B7 G_alone (hr.mono (by decide)) rfl T.mg_alone T.kp_alone b_alone .nil B8 (A5 (e7 (J6 U0 rfl T.n_len U2 (A9 (pv 2) D3 A0) (he := A0) (hpl := A4))) C5 J5) (he := J5) (hpl := A4))) D0 J5))) (Z3 (K6 (i := 5) B2n.nd rfl (A8 rfl))) (@B6 _ _ _ _ (@A2e _ _ _ _ _ _ (@X0 _ _ _ _ (@Y9 _ _ _ _ _ _ _ _ _ _ _ _ j6 A1y A1z m6 (pv 4) (@A9 _ _ _ _ _ (@C8 _ _ _ _ _ _ _ (@B7 _ _ _ _ _ _ _ _ _ _ _ _ _ _ _ _ G_highest (hr.mono (by decide)) rfl T.mg_highest T.kp_highest b_highest .nil B8 (@F3 _ _ _ _ _ _ (pv 0) (@A5 _ _ _ _ _ _ (A1 (pv 1)) (A5 (C8 (B7 G_base_by (hr.mono (by decide)) rfl T.mg_base_by T.kp_base_by b_base_by .nil B8 (A5 (A1 (pv 1)) (A5 (A1 (pv 2)) (F3 (pv 4) (A5 (A1 (pv 3)) (A5 (A1 (pv 5)) C5 A0) A0) A0) A0) A0) (he := A0) (hpl := (A2 A0 (A2 A0 (A2 A0 (A2 A0 A4))))))) C5 J5) A0) A0) (by decide) A0 ((A2 A0 (A2 J5 A4))))) D3 J5) (by rfl) (by rfl) (by rfl) (by rfl) (by rfl)) (by rfl)))) (by intro _; rfl))) (B6 (D2 (A1 (pv 4)))))), fun ds Q hl h => ?_⟩)
 obtain ⟨m, ws, st, sp, b, rfl, ok, s0, s1, so, hb, q⟩ := h
 have m2 := ok.m2
 have few := so.few
 have p16 := pw4 sp.length (by omega)
 have pp := A1v sp.length
 left
 refine ⟨by decide, ?_⟩
 refine go ?_; array_mem_dec
 rw [F6]
 refine ⟨sp.length, rfl, by omega, ?_⟩
 array_get_dec
 refine ⟨⟨by omega, by omega⟩, ?_⟩
 rw [A7b]
 refine ⟨fun r ρ => ∃ (ts : List Tb) (z5 : Sl), r = (K8 0 (2 ^ sp.length)).drop ts.length /\ ρ = [Sl.sh (C7 m ws), Sl.sh (.int st), Sl.sh (.list (sp.map G3)), Sl.sh (.list (C4 b)), Sl.ow (O9 ts), z5] /\ A8h m ws st sp b ts /\ ts.length <= 2 ^ sp.length, ⟨[], _, rfl, rfl, fun s hs => absurd hs (Nat.not_lt_zero _), M9 _⟩, ?_, ?_⟩
 ·rintro x r ρ ⟨ts, z5, h1, rfl, hP, hle⟩
  obtain ⟨rfl, rfl, hk⟩ := C7p h1
  have hT : ∀ t ∈ ts, G7 m st t := fun t ht => by
   obtain ⟨s, hs, rfl⟩ := B26 ht
   obtain ⟨c, _, L⟩ := hP s hs
   exact L.tab
  sizeOf_list_dec
  refine ⟨rfl, rfl, m, st, sp, ts, b, ts.length, rfl, so, s0, hb, by omega, hk, J8 _, hT, fun c B => ?_⟩
  left
  refine ⟨m, ws, st, c, rfl, ok, s0, s1, B.tab hb, fun t L _ => ?_⟩
  left
  refine ⟨by rw [C7r]; omega, ts ++ [t], Sl.sh (.int (ts.length : Nat)), ?_, ?_, hP.snoc B L, ?_⟩
  ·rw [O3, B3b]
  ·unfold O9; rw [S0]; rfl
  ·rw [O3, B3b]; omega
 ·rintro ρ ⟨ts, z5, h1, rfl, hP, hle⟩
  have := C7q h1
  refine go ?_; left
  exact q ts ⟨by omega, hP⟩
end
def C7x : DSp := fun ds Q => ∃ (d : PyData) (m : Nat) (st : Int) (mo : Nat), ds = [d, .int (m : Nat), .int st, .int (mo : Nat)] /\ 1 <= m /\ m <= 12 /\ 0 <= st /\ st <= 100000000000000000000 /\ mo <= 4 /\ ∀ sp, A1t m sp -> Q (.list (sp.map G3))
section
variable {P : Program} {w : World} {K : A3} {mg : Str -> Option Value} {base : Heap}
theorem C7y (T : Txt K mg) : D4 P w K mg base CX0 4 T.a_springs T.d_springs ["_law_hand_here", "_law_many", "_law_store_here", "_law_most"] (spD [.hd, .sh, .sh, .sh] C7x) := by
 have G_draw := @A3o P w K mg base T
 have b_draw := A3n T
 refine J3 T.F_springs A97 rfl (fun C cdv A outer s H E hr => ⟨_, (@D1 _ _ _ _ _ _ (g6 (C1 (i := 4) A97.nd rfl (A8 rfl) (M1 D0))) (@D1 _ _ _ _ _ _ (@W6 _ _ _ _ _ _ (@U7 _ _ _ _ _ _ _ _ Q3 rfl (A2b (w4 rfl T.n_range (A7 (C8 (B7 G_draw (hr.mono (by decide)) rfl T.mg_draw T.kp_draw b_draw .nil B8 (F3 (pv 0) (A5 (E3 L8 N4 (A1 (pv 3)) A6) C5 G6) A0) (he := A0) (hpl := (A2 G6 A4)))) D0 J5))) (Z3 (K6 (i := 5) A97.nd rfl (A8 rfl))) (@D1 _ _ _ _ _ _ (@E1 _ _ _ _ _ (@C1 _ _ 6 _ _ _ _ A97.nd rfl (A8 rfl) (@E3 _ _ _ _ _ _ _ _ _ _ L8 N4 A6 (@C8 _ _ _ _ _ _ _ (@B7 _ _ _ _ _ _ _ _ _ _ _ _ _ _ _ _ G_draw (hr.mono (by decide)) rfl T.mg_draw T.kp_draw b_draw .nil B8 (@F3 _ _ _ _ _ _ (pv 0) (@A5 _ _ _ _ _ _ (L6 (J7 (M1 (A7 A6 (A7 (E3 L8 N4 (A1 (pv 2)) A6) (A7 (E3 m5 A0i A6 A6) D0 G6) G6) G4))) (C8 (B7 G_draw (hr.mono (by decide)) rfl T.mg_draw T.kp_draw b_draw .nil B8 (F3 (pv 0) (A5 A6 C5 G4) A0) (he := A0) (hpl := (A2 G4 A4)))) (fun _ _ => rfl)) C5 B3) A0) (by decide) A0 ((A2 B3 A4))))) (by rfl) (by first | exact .inl rfl | exact .inr rfl | assumption))) (@B6 _ _ _ _ (@A2e _ _ _ _ _ _ (@X0 _ _ _ _ (@Y9 _ _ _ _ _ _ _ _ _ _ _ _ j6 A1y A1z m6 (pv 4) (@A9 _ _ _ _ _ (@P5 _ _ _ _ _ _ (@A7 _ _ _ _ _ _ (C8 (B7 G_draw (hr.mono (by decide)) rfl T.mg_draw T.kp_draw b_draw .nil B8 (F3 (pv 0) (A5 (A1 (pv 1)) C5 A0) A0) (he := A0) (hpl := (A2 A0 A4)))) (A7 (P6 e8 (J6 (b8 rfl) rfl T.n_min d4 (A7 (E3 m5 A0i A6 A6) (A7 (A1 (pv 6)) D0 A0) G6) (he := G6) (hpl := (A2 A0 A4)))) D0 J5) J5)) D3 x8) (by rfl) (by rfl) (by rfl) (by rfl) (by rfl)) (by rfl))))) (by intro _; rfl))) (B6 (D2 (A1 (pv 4)))))), fun ds Q hl h => ?_⟩)
 obtain ⟨d, m, st, mo, rfl, m1, m2, s0, s1, h4, q⟩ := h
 left
 refine ⟨by decide, ?_⟩
 refine go ?_; array_mem_dec
 refine ⟨rfl, _, rfl, by omega, by omega, fun c c0 c1 => ?_⟩
 array_mem_dec
 refine ⟨⟨by omega, by omega⟩, fun r ρ => ∃ (sp : List Sp2) (z5 z6 : Sl), ρ = [Sl.hd, Sl.sh (.int (m : Nat)), Sl.sh (.int st), Sl.sh (.int (mo : Nat)), Sl.ow (sp.map G3), z5, z6] /\ r.length + sp.length <= 4 /\ ∀ p ∈ sp, p.1 < m /\ 0 <= p.2, ⟨[], _, _, rfl, by unfold K8; simp; omega, fun w hw => nomatch hw⟩, ?_, ?_⟩
 ·rintro x r ρ ⟨sp, z5, z6, rfl, hl2, hw⟩
  sizeOf_list_dec
  refine ⟨rfl, ⟨by decide, by decide, by decide⟩, by show 3 <= 1000; decide, rfl, _, rfl, by decide, by decide, fun u u0 u1 => ?_⟩
  left
  obtain ⟨g, hg, hg0, hg1⟩ : ∃ g : Int, atI [PyData.int 3, .int (st + 1), .int 1000000000000000000] u = some (.int g) /\ 0 < g /\ g <= 100000000000000000001 := by
   have hu : u = 0 \/ u = 1 \/ u = 2 := by omega
   rcases hu with rfl | rfl | rfl
   ·exact ⟨3, rfl, by decide, by decide⟩
   ·exact ⟨st + 1, rfl, by omega, by omega⟩
   ·exact ⟨1000000000000000000, rfl, by decide, by decide⟩
  rw [show ((10 : Int) ^ (18 : Int).toNat) = 1000000000000000000 from rfl, hg]
  left
  refine ⟨g, rfl, hg0, by omega, fun v v0 v1 => ?_⟩
  refine go ?_; left
  refine ⟨rfl, _, rfl, by omega, by omega, fun a a0 a1 => ?_⟩
  left
  obtain ⟨a', rfl, ha⟩ := A8g a0 a1
  refine ⟨⟨by decide, by decide, by decide⟩, by decide, by rw [F6]; simp at hl2; omega, sp ++ [(a', if 1 + v < 10 ^ Int.toNat 18 then 1 + v else 10 ^ Int.toNat 18)], _, _, by rw [S0]; rfl, by simp at hl2 ⊢; omega, fun p hp => ?_⟩
  rcases O8.mp hp with z | z
  ·exact hw p z
  ·have z := B0t.mp z
   subst z
   refine ⟨ha, ?_⟩
   show (0 : Int) <= if 1 + v < 10 ^ Int.toNat 18 then 1 + v else 10 ^ Int.toNat 18
   split
   ·omega
   ·decide
 ·rintro ρ ⟨sp, z5, z6, rfl, hl2, hw⟩
  refine go ?_; left
  exact q sp ⟨by simp at hl2; omega, fun p h => (hw p h).1, fun p h => (hw p h).2⟩
end
inductive Th where
 | pt (p : Pt)
 | us (k : Nat)
def thD : Th -> PyData
 | .pt p => G1 p
 | .us k => .tuple [.str "use", .int ((k : Nat) : Int)]
inductive TrB (ws : List Wy) (st : Int) (sp : List Sp2) : Nat -> Int -> Nat -> List Th -> Nat -> Int -> Nat -> Prop
 | nil {p x s} : TrB ws st sp p x s [] p x s
 | pt {p q x y s pt ths p' x' s'} : Trp ws p [pt] q -> S7 ws st (some x) [pt] = some y -> (0 <= x /\ x <= st) -> pt.1.length <= 12 -> TrB ws st sp q y s ths p' x' s' -> TrB ws st sp p x s (.pt pt :: ths) p' x' s'
 | us {p k g x y s ths p' x' s'} : sp[k]? = some (p, g) -> sIn s k = false -> K4 st x g = some y -> TrB ws st sp p y (s + 2 ^ k) ths p' x' s' -> TrB ws st sp p x s (.us k :: ths) p' x' s'
theorem TrB.app {ws : List Wy} {st : Int} {sp : List Sp2} {p q r : Nat} {x y z : Int} {s t u : Nat} {as bs : List Th} (h : TrB ws st sp p x s as q y t) (k : TrB ws st sp q y t bs r z u) : TrB ws st sp p x s (as ++ bs) r z u := by
 induction h with
 | nil => exact k
 | pt a b c d _ ih => exact .pt a b c d (ih k)
 | us a b c _ ih => exact .us a b c (ih k)
theorem B8g {ws : List Wy} {st : Int} {sp : List Sp2} (h0 : 0 <= st) : ∀ {ps : List Pt} {p q : Nat} {x y : Int} {s : Nat}, Trp ws p ps q -> S7 ws st (some x) ps = some y -> 0 <= x -> x <= st -> (∀ pt ∈ ps, pt.1.length <= 12) -> TrB ws st sp p x s (ps.map .pt) q y s := fun {ps} => by
 induction ps with
 | nil =>
  intro p q x y s h ha x0 x1 _
  cases h
  cases ha
  exact .nil
 | cons pt ps ih =>
  intro p q x y s h ha x0 x1 ht
  cases h with
  | @cons _ q1 _ _ _ hp hne h1 h24 hor htr =>
   have ha' : S7 ws st (itF st (chs ws pt.1) pt.2.toNat (some x)) ps = some y := ha
   cases e : itF st (chs ws pt.1) pt.2.toNat (some x) with
   | none => rw [e, B22] at ha'; cases ha'
   | some z =>
    rw [e] at ha'
    obtain ⟨_, z0, z1⟩ := B6k x0 x1 h1 (by rw [<- B0c]; exact e)
    exact .pt (.cons hp hne h1 h24 hor .nil) (show itF st (chs ws pt.1) pt.2.toNat (some x) = some z from e) ⟨x0, x1⟩ (ht pt C6) (ih htr ha' z0 z1 fun pt h => ht pt (C3 _ h))
theorem C7z : ∀ k, k < 4 -> ∀ s, s < 16 -> sIn s k = true -> sIn (s - 2 ^ k) k = false := by decide
theorem Bas.last {m : Nat} {st : Int} {sp : List Sp2} {ts : List Tb} {s : Nat} {ks : List Nat} {c : Tb} {p : Nat} {y : Int} (B : Bas m st sp ts s ks c) (h : gt c p = some y) : ∃ k ∈ ks, ∃ g, sp[k]? = some (p, g) /\ lvG st ts (s - 2 ^ k) (p, g) = some y := by
 have hpl : p < c.length := by
  rcases A3u p c.length with z | z
  ·exact z
  ·rw [A21 z] at h; cases h
 by_cases z : ∃ k ∈ ks, ∃ g, sp[k]? = some (p, g) /\ lvG st ts (s - 2 ^ k) (p, g) = some y
 ·exact z
 ·exfalso
  have := B.le (c.set p (if y = 0 then none else some (y - 1))) (fun k hk q hq => ?_) p
  ·rw [Z5 hpl, if_pos rfl, h] at this
   split at this
   ·exact g7 this
   ·have := Q7.mp this; omega
  ·have h1 := B.up k hk q hq
   rw [Z5 hpl]
   split
   ·rename_i e
    have e : q.1 = p := e.symm
    rw [e, h] at h1
    cases el : lvG st ts (s - 2 ^ k) q with
    | none => exact B15
    | some v =>
     rw [el] at h1
     have h1 := Q7.mp h1
     have hne : v ≠ y := fun ev => z ⟨k, hk, q.2, by rw [hq, <- e], by rw [<- e, el, ev]⟩
     have hv0 : 0 <= v := by
      unfold lvG at el
      cases e3 : gt (tbs ts (s - 2 ^ k)) q.1 with
      | none => rw [e3] at el; cases el
      | some l =>
       rw [e3] at el
       have el : K4 st l q.2 = some v := el
       unfold K4 at el
       split at el
       ·cases el
       ·rename_i c0
        have := (B.tab.bd p y h)
        cases el
        split <;> omega
     split
     ·omega
     ·exact Q7.mpr (by omega)
   ·exact h1
def A4o (st : Int) (sp : List Sp2) (ts : List Tb) (s p : Nat) (y : Int) : List Nat := (V4 sp.length s).filter fun k => match sp[k]? with
 | some q => decide (q.1 = p) && decide (lvG st ts (s - 2 ^ k) q = some y)
 | none => false
theorem B8h {st : Int} {sp : List Sp2} {ts : List Tb} {s p k : Nat} {y : Int} : k ∈ A4o st sp ts s p y ↔ k ∈ V4 sp.length s /\ ∃ g, sp[k]? = some (p, g) /\ lvG st ts (s - 2 ^ k) (p, g) = some y := by
 unfold A4o
 rw [A68]
 refine and_congr_right fun _ => ?_
 cases e : sp[k]? with
 | none => exact ⟨fun z => (nomatch z), fun ⟨g, z, _⟩ => nomatch z⟩
 | some q =>
  rw [j2, decide_eq_true_eq, decide_eq_true_eq]
  constructor
  ·rintro ⟨rfl, h⟩
   exact ⟨q.2, rfl, h⟩
  ·rintro ⟨g, z, h⟩
   cases z
   exact ⟨rfl, h⟩
def C70 : DSp := fun ds Q => ∃ (m : Nat) (st : Int) (sp : List Sp2) (ts : List Tb) (s p : Nat) (y : Int), ds = [.int st, .list (sp.map G3), .list (O9 ts), .int (s : Nat), .int (p : Nat), .int y] /\ A1t m sp /\ s < 2 ^ sp.length /\ s <= ts.length /\ (∀ t ∈ ts, G7 m st t) /\ (∃ k, k ∈ A4o st sp ts s p y) /\ ∀ k, k ∈ A4o st sp ts s p y -> Q (.int ((k : Nat) : Int))
section
variable {P : Program} {w : World} {K : A3} {mg : Str -> Option Value} {base : Heap}
theorem C71 (T : Txt K mg) : D4 P w K mg base CX0 3 T.a_last_spring T.d_last_spring ["store", "springs", "tables", "some", "place", "level"] (spD [.sh, .sh, .sh, .sh, .sh, .sh] C70) := by
 have G_numbers_in := @B8c P w K mg base T
 have b_numbers_in := B69 T
 have G_level_by_spring := @B8d P w K mg base T
 have b_level_by_spring := B7a T
 refine J3 T.F_last_spring C3m rfl (fun C cdv A outer s H E hr => ⟨_, (@B6 _ _ _ _ (@D2 _ _ _ _ _ (@L6 _ _ _ _ _ _ _ (@J7 _ _ _ _ (@A5m _ _ _ _ _ _ _ _ rfl (@A34 _ _ _ _ _ _ _ _ _ _ _ _ _ _ _ (W5.new (N := ["store", "springs", "tables", "some", "place", "level"]) (osc := B0 A4i) (by decide +kernel)) rfl (A9i (C8 (B7 G_numbers_in (hr.mono (by decide)) rfl T.mg_numbers_in T.kp_numbers_in b_numbers_in .nil B8 (A5 (A1 (pv 1)) (A5 (A1 (pv 3)) C5 A0) A0) (he := A0) (hpl := (A2 A0 A4))))) (fun _ => (B1f (PW.pt (@A14 _ _ _ _ _ _ _ _ (G0 (U9 (O1 hr)) N8 (L6 (C2 (pv 1) (A1 (pv 6)) (fun _ _ => rfl)) (E5 (D8 (v := V.int 0) rfl T.mg_PLACE ⟨_, rfl⟩)) (fun _ _ => rfl)) (A1 (pv 4)) (D5 _)) (@A5g _ _ _ _ _ (@G0 _ _ _ _ _ _ _ _ _ _ (U9 (O1 hr)) N8 (C8 (B7 G_level_by_spring (hr.mono (by decide)) rfl T.mg_level_by_spring T.kp_level_by_spring b_level_by_spring .nil B8 (A5 (A1 (pv 0)) (A5 (A1 (pv 1)) (F3 (pv 2) (A5 (A1 (pv 3)) (A5 (A1 (pv 6)) C5 A0) A0) A0) A0) A0) (he := A0) (hpl := (A2 A0 (A2 A0 (A2 A0 (A2 A0 A4))))))) (A1 (pv 5)) (D5 _))))))) (fun _ => (A1 (pv 6))) (by rfl) (by rfl) (by intro _; rfl)))) A6 (fun _ _ => rfl)))), fun ds Q hl h => ?_⟩)
 obtain ⟨m, st, sp, ts, s, p, y, rfl, so, hs, hle, hT, ⟨k0, hk0⟩, q⟩ := h
 have few := so.few
 array_mem_dec
 refine ⟨sp, s, rfl, few, hs, ?_⟩
 array_mem_dec
 refine ⟨⟨rfl, by rw [A1r]; have := C7w (n := sp.length) (s := s) few; omega⟩, ?_⟩
 unfold G5
 refine A7z (p := fun k => match sp[k]? with
  | some q => decide (q.1 = p) && decide (lvG st ts (s - 2 ^ k) q = some y)
  | none => false) (f := fun k => .int ((k : Nat) : Int)) (fun k hk Q' q' => ?_) (fun k hk _ Q' q' => ?_) ?_
 ·have hk := A4n hk
  obtain ⟨r, hr⟩ := B8a hk.1
  have hle2 := A67 hk.2
  have hpp := A1v k
  rw [hr] at q'
  dsimp only at q'
  left
  rw [A8j hr]
  unfold G3
  left
  refine ⟨rfl, rfl, Q0 _ _, ?_⟩
  rw [W1]
  by_cases c : r.1 = p
  ·rw [show (((r.1 : Nat) : Int) == ((p : Nat) : Int)) = true from by rw [c]; exact beq_self_eq_true _]
   rw [decide_eq_true c, Bool.true_and] at q'
   refine L5 ⟨rfl, m, st, sp, ts, s, k, r, rfl, by omega, hr, hle2, by omega, so.pl r (R9 hr), hT, ?_⟩
   cases el : lvG st ts (s - 2 ^ k) r with
   | none =>
    rw [el] at q'
    refine ⟨rfl, rfl, by show min 0 0 <= 64; decide, ?_⟩
    exact q'
   | some v =>
    rw [el] at q'
    refine ⟨rfl, rfl, Q0 _ _, ?_⟩
    rw [show (oD (some v)).eqv (.int y) = (v == y) from W1 v y]
    by_cases c2 : v = y
    ·rw [decide_eq_true (by rw [c2])] at q'
     rw [c2, beq_self_eq_true]
     exact q'
    ·rw [decide_eq_false (fun z => c2 (Option.some.inj z))] at q'
     rw [beq_eq_false_iff_ne.mpr c2]
     exact q'
  ·rw [show (((r.1 : Nat) : Int) == ((p : Nat) : Int)) = false from beq_eq_false_iff_ne.mpr (by omega)]
   rw [decide_eq_false c, Bool.false_and] at q'
   exact G9 q'
 ·exact q'
 ·rw [W3]
  have hf : ((V4 sp.length s).filter fun k => match sp[k]? with
   | some q => decide (q.1 = p) && decide (lvG st ts (s - 2 ^ k) q = some y)
   | none => false) = A4o st sp ts s p y := rfl
  rw [hf]
  cases e : A4o st sp ts s p y with
  | nil => rw [e] at hk0; cases hk0
  | cons k1 r1 =>
   rw [j1, B5x]
   exact q k1 (by rw [e]; exact C6)
end
abbrev TT0 : Addr -> Prop := fun _ => True
def C72 (ths : List Th) : PyData := .list (ths.map thD)
def B8i (m : Nat) (ws : List Wy) (st : Int) (sp : List Sp2) (b : Tb) (p : Nat) (x : Int) (s : Nat) (f : Nat) (ths : List Th) : Prop := ∃ y, gt b f = some y /\ TrB ws st sp f y 0 ths p x s /\ ths.length <= 700
def Y2 : Option (Nat × List Th) -> PyData
 | none => .none
 | some r => .tuple [.int ((r.1 : Nat) : Int), C72 r.2]
def C73 : DSp := fun ds Q => ∃ (m : Nat) (ws : List Wy) (st : Int) (sp : List Sp2) (b : Tb) (s p : Nat), ds = [C7 m ws, .int st, .list (sp.map G3), .list (C4 b), .int (s : Nat), .int (p : Nat)] /\ K2 m ws /\ 0 <= st /\ st <= 1000000000000000000000 /\ A1t m sp /\ G7 m st b /\ s < 2 ^ sp.length /\ p < m /\ ∀ ts o, t7 m ws st sp b ts -> (gt (tbs ts s) p = none -> o = none) -> (∀ x, gt (tbs ts s) p = some x -> ∃ f ths, o = some (f, ths) /\ B8i m ws st sp b p x s f ths) -> Q (Y2 o)
theorem V5.uniq {m : Nat} {st : Int} {sp : List Sp2} {ts : List Tb} {b c d : Tb} {s : Nat} (h : V5 m st sp ts b s c) (k : V5 m st sp ts b s d) : c = d := by
 rcases h with ⟨z, rfl⟩ | ⟨z, B⟩
 ·rcases k with ⟨_, rfl⟩ | ⟨y, _⟩
  ·rfl
  ·omega
 ·rcases k with ⟨y, _⟩ | ⟨_, B'⟩
  ·omega
  ·exact B2b (B.tab.len.trans B'.tab.len.symm) fun p => B16 (B.le d B'.up p) (B'.le c B.up p)
theorem B8j (ps : List Pt) : (ps.map Th.pt).map thD = ps.map G1 := by rw [A3y]; rfl
theorem B8k {G : Addr -> Prop} {H : Hp} {v : V} {trs : List (Option Rd)} {fp : List Addr} {p : Nat} {r : Rd} (T : FpV G H v (.list (trs.map trO)) fp) (nd : fp.Nodup) (hr : trs[p]? = some (some r)) : ∃ a us tf lt uss fpp, v = .ref a /\ H a = some (.lst us) /\ us[p]? = some (.ref tf) /\ H tf = some (.tup [.int ((r.1 : Nat) : Int), .ref lt]) /\ (G lt /\ H lt = some (.lst uss)) /\ F4 G H uss (r.2.map G1) fpp /\ (lt :: fpp).Nodup /\ ∀ b ∈ lt :: fpp, b ∈ fp := by
 obtain ⟨a, us, fq, rfl, rfl, _, ea, T2⟩ := A9v T
 have nd1 := t9.mp nd
 obtain ⟨v2, fp2, hv, tv, n2, hm, _⟩ := T2.put nd1.2 (show (trs.map trO)[p]? = some (W2 r) by rw [R8, hr]; rfl)
 obtain ⟨tu, ws, rfl, wu, eu, T3⟩ := A9w tv
 obtain ⟨w, w2, f1, f2, rfl, rfl, T4, T5⟩ := A9x T3
 cases T4
 obtain ⟨t, uss, fpp, rfl, rfl, wt, et, T6⟩ := A9v T5
 exact ⟨a, us, tu, t, uss, fpp, rfl, ea, hv, eu, ⟨wt, et⟩, T6, n2, fun b hb => C3 _ (hm b hb)⟩
abbrev B8l : Sp := B2l [.bd, .sh, .bd, .bd, .sh, .sh] C73
section
variable {P : Program} {w : World} {K : A3} {mg : Str -> Option Value} {base : Heap}
theorem C74 (T : Txt K mg) : D4 P w K mg base CX0 11 T.a_trip_by T.d_trip_by ["land", "store", "springs", "base", "some", "place"] B8l := by
 have G_highest_by := @B8f P w K mg base T
 have b_highest_by := B7c T
 have G_base_by := @B8e P w K mg base T
 have b_base_by := B7b T
 have G_trips_to : D4 P w K mg base CX0 8 T.a_trips_to T.d_trips_to ["land", "store", "base"] B21 := C6w T
 have b_trips_to := C4e T
 have G_last_spring := @C71 P w K mg base T
 have b_last_spring := C4f T
 have G_alone := @B0f P w K mg base T
 have b_alone := A98 T
 refine T.F_trip_by.ok p8 (fun vs H Q E h => ?_) (fun cdv A outer s H vs Q E hr h => ?_)
 ·obtain ⟨_, _, _, _, _, _, _, a, _⟩ := h
  rw [a.len.1]; rfl
 ·obtain ⟨F0, hand, ds, Qd, _, _, hq, ar, hsp, toldQ⟩ := h
  obtain ⟨m, ws, st, sp, b, so, p, rfl, ok, h0, hst, hspr, hb, hso, hp, q⟩ := hsp
  cases ar with
  | @cons _ vl _ _ _ _ tl ar =>
  cases ar with
  | @cons _ vst _ _ _ _ tst ar =>
  cases ar with
  | @cons _ vsp _ _ _ _ tsp ar =>
  cases ar with
  | @cons _ vb _ _ _ _ tb ar =>
  cases ar with
  | @cons _ vso _ _ _ _ tso ar =>
  cases ar with
  | @cons _ vp _ _ _ _ tp ar =>
  cases ar
  cases (show ThV F0 H vst (.int st) from tst)
  cases (show ThV F0 H vso (.int ((so : Nat) : Int)) from tso)
  cases (show ThV F0 H vp (.int ((p : Nat) : Int)) from tp)
  refine ⟨_, (K5 (C1 (i := 6) p8.nd rfl (A8 rfl) (B7 G_highest_by (hr.mono (by decide)) rfl T.mg_highest_by T.kp_highest_by b_highest_by .nil B8 (A9 (pv 0) (A9 (pv 1) (A9 (pv 2) (A9 (pv 3) D3 A0) A0) A0) A0) (he := A0) (hpl := (A2 A0 (A2 A0 (A2 A0 A4))))))
   (K5 (A7l (A30 (b7 T1 (J0 L9 (J0 L9 (pv 6) (pv 4) (fun _ _ => rfl)) (pv 5) (fun _ _ => rfl)) A42 (D5 _))
   (S3 (v7 A42))
   A43))
   (K5 (C1 (i := 7) p8.nd rfl (A8 rfl) (pv 4))
   (K5 (C1 (i := 8) p8.nd rfl (A8 rfl) (J0 L9 (B7 G_trips_to (hr.mono (by decide)) rfl T.mg_trips_to T.kp_trips_to b_trips_to .nil B8 (A9 (pv 0) (A9 (pv 1) (A9 (B7 G_base_by (hr.mono (by decide)) rfl T.mg_base_by T.kp_base_by b_base_by .nil B8 (A9 (pv 1) (A9 (pv 2) (A9 (pv 6) (A9 (pv 3) (A9 (pv 7) D3 A0) A0) A0) A0) A0) (he := A0) (hpl := (A2 A0 (A2 A0 (A2 A0 (A2 A0 A4)))))) D3 J5) A0) A0) (he := A0) (hpl := (A2 A0 (A2 J5 A4)))) (pv 5) (fun _ _ => rfl)))
   (K5 (C1 (i := 9) p8.nd rfl (A8 rfl) (J0 L9 (pv 8) D7 (fun _ _ => rfl)))
   (K5 (A7g Q3 (b7 b6 (pv 7) D7 (D5 _))
   (K5 (C1 (i := 10) p8.nd rfl (A8 rfl) (J0 L9 (B7 G_base_by (hr.mono (by decide)) rfl T.mg_base_by T.kp_base_by b_base_by .nil B8 (A9 (pv 1) (A9 (pv 2) (A9 (pv 6) (A9 (pv 3) (A9 (pv 7) D3 A0) A0) A0) A0) A0) (he := A0) (hpl := (A2 A0 (A2 A0 (A2 A0 (A2 A0 A4)))))) (J0 L9 (pv 8) D7 (fun _ _ => rfl)) (fun _ _ => rfl)))
   (K5 (C1 (i := 11) p8.nd rfl (A8 rfl) (B7 G_last_spring (hr.mono (by decide)) rfl T.mg_last_spring T.kp_last_spring b_last_spring .nil B8 (A9 (pv 1) (A9 (pv 2) (A9 (pv 6) (A9 (pv 7) (A9 (J0 L9 (pv 8) D7 (fun _ _ => rfl)) (A9 (pv 10) D3 A0) B3) A0) A0) A0) A0) (he := A0) (hpl := (A2 A0 (A2 A0 (A2 A0 (A2 B3 (A2 A0 A4))))))))
   (K5 (C1 (i := 7) p8.nd rfl (A8 rfl) (M4 j8 (pv 7) (B7 G_alone (hr.mono (by decide)) rfl T.mg_alone T.kp_alone b_alone .nil B8 (A9 (pv 11) D3 A0) (he := A0) (hpl := A4))))
   (K5 (C1 (i := 8) p8.nd rfl (A8 rfl) (J0 L9 (B7 G_trips_to (hr.mono (by decide)) rfl T.mg_trips_to T.kp_trips_to b_trips_to .nil B8 (A9 (pv 0) (A9 (pv 1) (A9 (B7 G_base_by (hr.mono (by decide)) rfl T.mg_base_by T.kp_base_by b_base_by .nil B8 (A9 (pv 1) (A9 (pv 2) (A9 (pv 6) (A9 (pv 3) (A9 (pv 7) D3 A0) A0) A0) A0) A0) (he := A0) (hpl := (A2 A0 (A2 A0 (A2 A0 (A2 A0 A4)))))) D3 J5) A0) A0) (he := A0) (hpl := (A2 A0 (A2 J5 A4)))) (J0 L9 (pv 8) D7 (fun _ _ => rfl)) (fun _ _ => rfl)))
   (S3 (C1 (i := 9) p8.nd rfl (A8 rfl) (M4 A83 (M4 A83 (J0 L9 (pv 8) D7 (fun _ _ => rfl)) (B05 (A9 (A49 (A9 (D8 (v := V.str "use") rfl T.mg_USE ⟨_, rfl⟩) (A9 (pv 11) D3 A0) A0)) D3 x8))) (pv 9)))))))))
   (S3 (v7 (A49 (A9 (J0 L9 (pv 8) D7 (fun _ _ => rfl)) (A9 (pv 9) D3 A0) B3)))))))))), ?_⟩
  have few := hspr.few
  have p16 := pw4 sp.length (by omega)
  have m2 := ok.m2
  have tl0 : ThV TT0 H vl (C7 m ws) := ThV.mv (fun b o _ e => ⟨trivial, e⟩) tl
  have tsp0 : ThV TT0 H vsp (.list (sp.map G3)) := ThV.mv (fun b o _ e => ⟨trivial, e⟩) tsp
  have tb0 : ThV TT0 H vb (.list (C4 b)) := ThV.mv (fun b o _ e => ⟨trivial, e⟩) tb
  let G : Addr -> Prop := fun b => H b = none \/ ∃ xs, H b = some (.tup xs)
  have GT : (∀ b : Addr, H b = none -> TT0 b) /\ ∀ (b : Addr) (xs : List V), H b = some (.tup xs) -> TT0 b := ⟨fun _ _ => trivial, fun _ _ _ => trivial⟩
  refine ⟨vl, rfl, .int st, rfl, vsp, rfl, vb, rfl, ?_⟩
  refine ⟨TT0, none, [C7 m ws, .int st, .list (sp.map G3), .list (C4 b)], fun d => ∃ ts, d = .list (O9 ts) /\ t7 m ws st sp b ts, GT, fun q hq => (nomatch hq), fun q hq => (nomatch hq), .cons tl0 (.cons (.int _) (.cons tsp0 (.cons tb0 .nil))), ⟨m, ws, st, sp, b, rfl, ok, h0, hst, hspr, hb, fun ts hT => ⟨ts, rfl, hT⟩⟩, fun d6 v6 H1 hd6 t6 k1 _ => ?_⟩
  obtain ⟨ts, rfl, hT⟩ := hd6
  have s1 := A3p k1
  have hlid := hT.lid
  have tlen := hT.len
  obtain ⟨a6, us6, rfl, _, e6, t6'⟩ := P9 t6
  have so2 : so < ts.length := by rw [tlen]; exact hso
  have tab : ∀ s, s < ts.length -> G7 m st (tbs ts s) := fun s hs => hlid.tab _ (A8i hs)
  have baseC : ∀ (s : Nat) (H' : Hp) (Q' : VK), s < 2 ^ sp.length -> Same H1 H' -> (∀ c v' H'', V5 m st sp ts b s c -> ThV TT0 H'' v' (.list (C4 c)) -> Same H' H'' -> Q' v' H'') -> spD [.sh, .sh, .bo, .sh, .sh] B8b [.int st, vsp, .ref a6, vb, .int ((s : Nat) : Int)] H' Q' E0 := fun s H' Q' hs sm kk => ⟨TT0, none, [.int st, .list (sp.map G3), .list (O9 ts), .list (C4 b), .int ((s : Nat) : Int)], fun d => ∃ c, d = .list (C4 c) /\ V5 m st sp ts b s c, ⟨fun _ _ => trivial, fun _ _ _ => trivial⟩, fun q hq => (nomatch hq), fun q hq => (nomatch hq), .cons (.int _) (.cons (ThV.mv (fun b o _ e => ⟨trivial, sm _ _ (s1 _ _ e)⟩) tsp0) (.cons ⟨a6, us6, O9 ts, rfl, rfl, fun q hq => (nomatch hq), sm _ _ e6, t6'.mv fun b o _ e => ⟨trivial, sm _ _ e⟩⟩ (.cons (ThV.mv (fun b o _ e => ⟨trivial, sm _ _ (s1 _ _ e)⟩) tb0) (.cons (.int _) .nil)))), ⟨m, st, sp, ts, b, s, rfl, hspr, h0, hb, by omega, hs, by rw [tlen]; omega, fun t ht => hlid.tab t ht, fun c B => ⟨c, rfl, B⟩⟩, fun d v' H'' hd t k _ => by obtain ⟨c, rfl, B⟩ := hd; exact kk c v' H'' B t (A3p k)⟩
  have tripsC : ∀ (c : Tb) (v' : V) (H' : Hp) (Q' : VK), G7 m st c -> Same H H' -> ThV TT0 H' v' (.list (C4 c)) -> (∀ t trs v'' H'' fp, Q8 m ws st c t -> B20 m ws st c t trs -> FpV (fun b => H' b = none \/ ∃ xs, H' b = some (.tup xs)) H'' v'' (.list (trs.map trO)) fp -> fp.Nodup -> Same H' H'' -> Q' v'' H'') -> B21 [vl, .int st, v'] H' Q' E0 := fun c v' H' Q' hc sm tv kk => ⟨TT0, none, [C7 m ws, .int st, .list (C4 c)], fun d => ∃ t trs, d = .list (trs.map trO) /\ Q8 m ws st c t /\ B20 m ws st c t trs, ⟨fun _ _ => trivial, fun _ _ _ => trivial⟩, fun q hq => (nomatch hq), fun q hq => (nomatch hq), .cons (ThV.mv (fun b o _ e => ⟨fun q hq => (nomatch hq), sm _ _ e⟩) tl0) (.cons (.int _) (.cons (ThV.mv (fun b o _ e => ⟨fun q hq => (nomatch hq), e⟩) tv) .nil)), ⟨m, ws, st, c, rfl, ok, h0, hst, hc, fun t trs hL _ hR => ⟨t, trs, rfl, hL, hR⟩⟩, fun d v'' H'' fp hd t nd k _ => by obtain ⟨t', trs, rfl, hL, hR⟩ := hd; exact kk t' trs v'' H'' fp hL hR t nd (A3p k)⟩
  have tabL0 : ∀ (s : Nat) (c t : Tb), s < ts.length -> V5 m st sp ts b s c -> Q8 m ws st c t -> t = tbs ts s := fun s c t hs B L => by
   obtain ⟨c', B', L'⟩ := hT.all s hs
   cases B.uniq B'
   exact L.uniq L'
  obtain ⟨vrow, hvr, tvr⟩ := A0o t6' (B0e so2)
  obtain ⟨arow, usr, rfl, _, erow, trow⟩ := P9 tvr
  obtain ⟨vlev, hvl, tvl⟩ := A0o trow (show atI (C4 (tbs ts so)) ((p : Nat) : Int) = some (oD (gt (tbs ts so) p)) from Z7 (by rw [(tab so so2).len]; exact hp))
  obtain ⟨σ6, hσ6⟩ : ∃ σ6 : L2.St, σ6 = [some vl, some (.int st), some vsp, some vb, some (.int ((so : Nat) : Int)), some (.int ((p : Nat) : Int)), some (.ref a6), none, none, none, none, none] := ⟨_, rfl⟩
  refine ⟨fun σ' H' => σ' = σ6 /\ H' = H1 /\ ∃ x, gt (tbs ts so) p = some x, ?_, ?_⟩
  ·refine ⟨_, rfl, _, rfl, .inl ⟨a6, us6, _, _, rfl, rfl, SqL.of e6, hvr, _, rfl, .inl ⟨arow, usr, _, _, rfl, rfl, SqL.of erow, hvl, rfl, _, rfl, ?_⟩⟩⟩
   rw [A7q tvl]
   cases e : gt (tbs ts so) p with
   | none =>
    refine L5 ?_
    exact toldQ _ .non H1 [] (q ts none hT (fun _ => rfl) (fun x z => by rw [e] at z; cases z)) .non B0s (Kq.same s1) (hq.same s1)
   | some x => exact G9 ⟨hσ6.symm, rfl, x, rfl⟩
  rintro σ' H' ⟨rfl, rfl, x, hx⟩
  rw [hσ6]
  refine ⟨_, rfl, ?_⟩
  refine ⟨_, rfl, _, rfl, _, rfl, _, rfl, _, rfl, _, rfl, _, rfl, ?_⟩
  refine baseC so H' _ hso (Same.refl _) fun c v' H2 B tc s2 => ?_
  have s02 : Same H H2 := fun b o e => s2 _ _ (s1 _ _ e)
  refine tripsC c v' H2 _ (B.tab hb) s02 tc fun t trs v3 H3 fp3 hL hR t3 nd3 s3 => ?_
  have et := tabL0 so c t so2 B hL
  subst et
  obtain ⟨r, hr, hTr⟩ := hR.yes p x hx
  obtain ⟨y0, hy0, har⟩ := hTr.arr
  have hy1 := (B.tab hb).bd _ _ hy0
  obtain ⟨t3', nw3⟩ := t3.early s02 s3
  obtain ⟨a3, us3, tf, lt, uss, fpp, rfl, ea3, hv3, etf, ⟨glt, elt⟩, Tp, ndl, inl⟩ := B8k t3' nd3 hr
  have s13 : Same H' H3 := fun b o e => s3 _ _ (s2 _ _ e)
  refine ⟨_, rfl, .inl ⟨a3, us3, _, _, rfl, rfl, SqL.of ea3, Y8 hv3, ?_⟩⟩
  refine ⟨_, rfl, .inr (.inl ⟨tf, _, 1, _, rfl, rfl, SqT.of etf, rfl, ?_⟩)⟩
  refine ⟨fun n σ Hn => ∃ (left f : Nat) (y : Int) (c : Tb) (ths : List Th) (tf lt tr : Addr) (us : List V) (fp : List Addr) (z10 z11 : Option V), left = n /\ σ = [some vl, some (.int st), some vsp, some vb, some (.int ((so : Nat) : Int)), some (.int ((p : Nat) : Int)), some (.ref a6), some (.int ((left : Nat) : Int)), some (.ref tf), some (.ref tr), z10, z11] /\ Same H' Hn /\ left < 2 ^ sp.length /\ Hn tf = some (.tup [.int ((f : Nat) : Int), .ref lt]) /\ (G tr /\ Hn tr = some (.lst us)) /\ F4 G Hn us (ths.map thD) fp /\ (tr :: fp).Nodup /\ V5 m st sp ts b left c /\ gt c f = some y /\ TrB ws st sp f y left ths p x so /\ ths.length + 41 * left <= 40 + 41 * so, ⟨so, so, r.1, y0, c, r.2.map Th.pt, tf, lt, lt, uss, fpp, none, none, rfl, rfl, s13, hso, etf, ⟨glt, elt⟩, by rw [B8j]; exact Tp, ndl, B, hy0, B8g h0 hTr.trp har hy1.1 hy1.2 hTr.thin, by rw [F6]; have := hTr.few; omega⟩, ?_⟩
  rintro n σ Hn ⟨left, f, y, c, ths, tf, lt, tr, us, fp, z10, z11, rfl, rfl, sm, hleft, etf, ⟨gtr, etr⟩, Tt, ndt, B, hy, hTB, hlen⟩
  have hfm : f < m := by
   rcases A3u f m with z | z
   ·exact z
   ·rw [A21 (by rw [(B.tab hb).len]; exact z)] at hy; cases hy
  refine ⟨_, rfl, _, _, rfl, rfl, _, rfl, ?_⟩
  by_cases hl0 : left = 0
  ·-- all are used
   subst hl0
   refine G9 ?_
   rcases B with ⟨_, rfl⟩ | ⟨z, _⟩
   ·refine ⟨_, rfl, .inr (.inl ⟨tf, _, 0, _, rfl, rfl, SqT.of etf, rfl, _, rfl, by show 2 <= sizeLine; decide, fun u hu => ?_⟩)⟩
    have k5 : ∀ b o, Hn b = some o -> upd Hn u (.tup [.int ((f : Nat) : Int), .ref tr]) b = some o := fun b o e => by rw [B9 (M3 e hu)]; exact e
    have S : Same H (upd Hn u (.tup [.int ((f : Nat) : Int), .ref tr])) := fun b o e => k5 _ _ (sm _ _ (s1 _ _ e))
    have un : H u = none := by
     cases z : H u with
     | none => rfl
     | some o => rw [sm _ _ (s1 _ _ z)] at hu; cases hu
    refine toldQ (Y2 (some (f, ths))) (.ref u) _ ([] ++ ((tr :: fp) ++ [])) (q ts _ hT (fun z => by rw [hx] at z; cases z) (fun x' z => ?_)) (.tup (.inl un) J1 (.cons (.int _) (.cons (.lst gtr (k5 _ _ etr) (Tt.mvm fun b o g e _ => ⟨g, k5 _ _ e⟩)) .nil))) (by simpa using ndt) (Kq.same S) (hq.same S)
    rw [hx] at z
    cases z
    exact ⟨f, ths, rfl, y, hy, hTB, by omega⟩
   ·exact absurd z (h9 _)
  ·rw [decide_eq_true (show (0 : Int) < ((left : Nat) : Int) by omega)]
   refine L5 ?_
   obtain ⟨B1⟩ : Nonempty (Bas m st sp ts left (V4 sp.length left) c) := by
    rcases B with ⟨z, _⟩ | ⟨_, B1⟩
    ·exact absurd z hl0
    ·exact ⟨B1⟩
   obtain ⟨k0, hk0, g0, hg0, hlv0⟩ := B1.last hy
   refine ⟨_, fun σ' H2 h => h, ?_⟩
   refine ⟨_, rfl, _, rfl, _, rfl, _, rfl, _, rfl, ?_⟩
   refine baseC left Hn _ hleft sm fun c' v' Hb B' tc sb => ?_
   cases B.uniq B'
   obtain ⟨abv, ubs, rfl, _, eab, tab'⟩ := P9 tc
   obtain ⟨vlv, hvlv, tvlv⟩ := A0o tab' (show atI (C4 c) ((f : Nat) : Int) = some (oD (gt c f)) from Z7 (by rw [(B.tab hb).len]; exact hfm))
   rw [hy] at tvlv
   cases (show ThV TT0 Hb vlv (.int y) from tvlv)
   refine ⟨_, rfl, .inr (.inl ⟨tf, _, 0, _, rfl, rfl, SqT.of (sb _ _ etf), rfl, .inl ⟨abv, ubs, _, _, rfl, rfl, SqL.of eab, hvlv, ?_⟩⟩)⟩
   have smb : Same H' Hb := fun b o e => sb _ _ (sm _ _ e)
   refine ⟨_, rfl, _, rfl, _, rfl, _, rfl, _, rfl, .inr (.inl ⟨tf, _, 0, _, rfl, rfl, SqT.of (sb _ _ etf), rfl, _, rfl, ?_⟩)⟩
   refine ⟨TT0, none, [.int st, .list (sp.map G3), .list (O9 ts), .int ((left : Nat) : Int), .int ((f : Nat) : Int), .int y], fun d => ∃ k, d = .int ((k : Nat) : Int) /\ k ∈ A4o st sp ts left f y, ⟨fun _ _ => trivial, fun _ _ _ => trivial⟩, fun q hq => (nomatch hq), fun q hq => (nomatch hq), .cons (.int _) (.cons (ThV.mv (fun b o _ e => ⟨trivial, smb _ _ (s1 _ _ e)⟩) tsp0) (.cons (.lst trivial (smb _ _ e6) (t6'.mv fun b o _ e => ⟨trivial, smb _ _ e⟩)) (.cons (.int _) (.cons (.int _) (.cons (.int _) .nil))))), ⟨m, st, sp, ts, left, f, y, rfl, hspr, hleft, by rw [tlen]; omega, fun t ht => hlid.tab t ht, ⟨k0, B8h.mpr ⟨hk0, g0, hg0, hlv0⟩⟩, fun k hk => ⟨k, rfl, hk⟩⟩, fun dk vk Hc hdk tk kc _ => ?_⟩
   obtain ⟨k, rfl, hk⟩ := hdk
   cases (show ThV TT0 Hc vk (.int ((k : Nat) : Int)) from tk)
   have sc := A3p kc
   obtain ⟨hkn, g, hg, hlv⟩ := B8h.mp hk
   have hkk := A4n hkn
   have hle := A67 hkk.2
   have hpp := A1v k
   refine ⟨_, rfl, _, rfl, ?_⟩
   refine ⟨TT0, none, [.int ((k : Nat) : Int)], fun d => d = .int ((2 ^ k : Nat) : Int), ⟨fun _ _ => trivial, fun _ _ _ => trivial⟩, fun q hq => (nomatch hq), fun q hq => (nomatch hq), .cons (.int _) .nil, ⟨k, rfl, by omega, rfl⟩, fun dp vp Hd hdp tp' kd _ => ?_⟩
   subst hdp
   cases (show ThV TT0 Hd vp (.int ((2 ^ k : Nat) : Int)) from tp')
   have sd := A3p kd
   refine ⟨_, _, rfl, rfl, ?_⟩
   dsimp only
   rw [ixS (ts := ts) hle]
   have smd : Same H' Hd := fun b o e => sd _ _ (sc _ _ (smb _ _ e))
   have hl2 : left - 2 ^ k < 2 ^ sp.length := by omega
   have hl3 : left - 2 ^ k < ts.length := by rw [tlen]; exact hl2
   refine ⟨_, rfl, _, rfl, _, rfl, _, rfl, _, rfl, _, rfl, _, rfl, ?_⟩
   refine baseC (left - 2 ^ k) Hd _ hl2 smd fun c2 v2 He B2 tc2 se => ?_
   have sme : Same H' He := fun b o e => se _ _ (smd _ _ e)
   refine tripsC c2 v2 He _ (B2.tab hb) (fun b o e => sme _ _ (s1 _ _ e)) tc2 fun t2 trs2 v3 Hf fp3 hL2 hR2 t3 nd3 sf => ?_
   have et2 := tabL0 (left - 2 ^ k) c2 t2 hl3 B2 hL2
   subst et2
   have hlv' : ((gt (tbs ts (left - 2 ^ k)) f).bind fun x => K4 st x g) = some y := hlv
   obtain ⟨x2, hx2, hst2⟩ := B3g.mp hlv'
   obtain ⟨r2, hr2, hTr2⟩ := hR2.yes f x2 hx2
   obtain ⟨y2, hy2, har2⟩ := hTr2.arr
   have hyb := (B2.tab hb).bd _ _ hy2
   obtain ⟨t3', nw3⟩ := t3.early (fun b o e => sme _ _ (s1 _ _ e)) sf
   obtain ⟨a3, us3, tf2, lt2, uss2, fpp2, rfl, ea3, hv3, etf2, ⟨glt2, elt2⟩, Tp2, ndl2, inl2⟩ := B8k t3' nd3 hr2
   have snf : Same Hn Hf := fun b o e => sf _ _ (se _ _ (sd _ _ (sc _ _ (sb _ _ e))))
   refine ⟨_, rfl, .inr (.inl ⟨tf, _, 0, _, rfl, rfl, SqT.of (snf _ _ etf), rfl, .inl ⟨a3, us3, _, _, rfl, rfl, SqL.of ea3, Y8 hv3, ?_⟩⟩)⟩
   refine ⟨_, rfl, .inr (.inl ⟨tf2, _, 1, _, rfl, rfl, SqT.of etf2, rfl, _, rfl, by show 2 <= sizeLine; decide, fun u hu => ⟨by show 1 <= sizeLine; decide, fun l1 hl1 => ?_⟩⟩)⟩
   obtain ⟨H5, hH5⟩ : ∃ H5, H5 = upd (upd Hf u (.tup [.str "use", .int ((k : Nat) : Int)])) l1 (.lst [.ref u]) := ⟨_, rfl⟩
   have k5 : ∀ b o, Hf b = some o -> H5 b = some o := fun b o e => by
    have e1 : upd Hf u (.tup [.str "use", .int ((k : Nat) : Int)]) b = some o := by rw [B9 (M3 e hu)]; exact e
    rw [hH5, B9 (M3 e1 hl1)]; exact e1
   have eu5 : H5 u = some (.tup [.str "use", .int ((k : Nat) : Int)]) := by rw [hH5, B9 (M3 J1 hl1)]; exact J1
   have el5 : H5 l1 = some (.lst [.ref u]) := by rw [hH5]; exact J1
   have fl2 := Tp2.len
   rw [F6] at fl2
   have ft := Tt.len
   rw [F6] at ft
   have fw2 := hTr2.few
   rw [<- hH5]
   refine ⟨lt2, l1, uss2, [.ref u], rfl, rfl, k5 _ _ elt2, el5, by rw [fl2, sizeLine_eq]; show r2.2.length + 1 <= _; omega, fun c6 hc6 => ?_⟩
   have k6 : ∀ b o, H5 b = some o -> upd H5 c6 (.lst (uss2 ++ [.ref u])) b = some o := fun b o e => by rw [B9 (M3 e hc6)]; exact e
   refine ⟨_, rfl, c6, tr, uss2 ++ [.ref u], us, rfl, rfl, J1, k6 _ _ (k5 _ _ (snf _ _ etr)), by rw [O3, fl2, ft, sizeLine_eq]; show r2.2.length + 1 + ths.length <= _; omega, fun c7 hc7 => ?_⟩
   obtain ⟨H7, hH7⟩ : ∃ H7, H7 = upd (upd H5 c6 (.lst (uss2 ++ [.ref u]))) c7 (.lst (uss2 ++ [.ref u] ++ us)) := ⟨_, rfl⟩
   rw [<- hH7]
   have k8 : ∀ b o, H5 b = some o -> H7 b = some o := fun b o e => by
    have e1 := k6 _ _ e
    rw [hH7, B9 (M3 e1 hc7)]; exact e1
   have k7 : ∀ b o, Hf b = some o -> H7 b = some o := fun b o e => k8 _ _ (k5 _ _ e)
   have c7n : Hf c7 = none := by
    cases z : Hf c7 with
    | none => rfl
    | some o => rw [k6 _ _ (k5 _ _ z)] at hc7; cases hc7
   have toH : ∀ b, Hf b = none -> H b = none := fun b hb' => by
    cases z : H b with
    | none => rfl
    | some o => rw [sf _ _ (sme _ _ (s1 _ _ z))] at hb'; cases hb'
   refine ⟨left - 2 ^ k, by omega, left - 2 ^ k, r2.1, y2, c2, r2.2.map Th.pt ++ (.us k :: ths), tf2, lt2, c7, uss2 ++ [.ref u] ++ us, fpp2 ++ fp, _, _, rfl, rfl, fun b o e => k7 _ _ (sf _ _ (sme _ _ e)), hl2, k7 _ _ etf2, ⟨.inl (toH _ c7n), by rw [hH7]; exact J1⟩, ?_, ?_, B2, hy2, ?_, ?_⟩
   ·rw [S0, B8j, j1, A3s]
    refine (Tp2.mvm fun b o g' e _ => ⟨g', k7 _ _ e⟩).append ?_
    refine F4.cons (fp := []) (fps := fp) (.tup (.inl (toH _ hu)) (k8 _ _ eu5) (F4.cons (fp := []) (fps := []) (.str _) (F4.cons (fp := []) (fps := []) (.int _) .nil))) (Tt.mvm fun b o g' e _ => ⟨g', k7 _ _ (snf _ _ e)⟩)
   ·have nf2 := t9.mp ndl2
    have nft := t9.mp ndt
    refine t9.mpr ⟨fun hb' => ?_, A3v.mpr ⟨nf2.2, nft.2, fun b1 hb1 b2 hb2 z => ?_⟩⟩
    ·rcases O8.mp hb' with h | h
     ·obtain ⟨_, xs, ex⟩ := Tp2.mem c7 h
      rw [c7n] at ex; cases ex
     ·obtain ⟨_, xs, ex⟩ := Tt.mem c7 h
      rw [snf _ _ ex] at c7n; cases c7n
    ·subst z
     obtain ⟨_, xs, ex⟩ := Tt.mem b1 hb2
     have := nw3 b1 (inl2 b1 (C3 _ hb1))
     rw [se _ _ (sd _ _ (sc _ _ (sb _ _ ex)))] at this; cases this
   ·refine (B8g h0 hTr2.trp har2 hyb.1 hyb.2 hTr2.thin).app (.us hg (C7z k (by omega) left (by omega) hkk.2) hst2 ?_)
    rw [Nat.sub_add_cancel hle]
    exact hTB
   ·rw [O3, F6, M2]
    omega
end
def B0g (K : A3) : Sp := fun vs H Q _ => ∃ (a : Addr) (ns : List Int), vs = [.ref a] /\ SqL K H a (ns.map V.int) /\ ns.length <= 63 /\ ∀ H', Q (.bl true) H'
def C75 : DSp := fun ds Q => ∃ d, ds = [d] /\ ∀ m ws st sp b, K2 m ws -> 0 <= st -> st <= 100000000000000000000 -> A1t m sp -> G7 m st b -> Q (.tuple [C7 m ws, .int st, .list (sp.map G3), .list (C4 b)])
def W9 (m : Nat) (ws : List Wy) (st : Int) (sp : List Sp2) (b : Tb) : PyData := .tuple [C7 m ws, .int st, .list (sp.map G3), .list (C4 b)]
def C76 : DSp := fun ds Q => ∃ (d : PyData) (m : Nat) (ws : List Wy) (st : Int) (sp : List Sp2) (b : Tb), ds = [d, W9 m ws st sp b] /\ K2 m ws /\ A1t m sp /\ ∀ s p : Nat, s < 2 ^ sp.length -> p < m -> Q (.tuple [.int ((s : Nat) : Int), .int ((p : Nat) : Int)])
def C77 : DSp := fun ds Q => ∃ (m : Nat) (ws : List Wy) (st : Int) (sp : List Sp2) (p p' s' : Nat) (x x' : Int) (ths : List Th), ds = [C7 m ws, .int st, .list (sp.map G3), .int ((p : Nat) : Int), .int x, .list (ths.map thD)] /\ K2 m ws /\ A1t m sp /\ TrB ws st sp p x 0 ths p' x' s' /\ Q (.list [.int ((p' : Nat) : Int), .int x', .int ((s' : Nat) : Int)])
def C78 : DSp := fun ds Q => ∃ (m : Nat) (ws : List Wy) (st : Int) (sp : List Sp2) (b : Tb) (o : Option (Nat × List Th)) (s p : Nat) (l : Option Int), ds = [W9 m ws st sp b, Y2 o, .int ((s : Nat) : Int), .int ((p : Nat) : Int), oD l] /\ K2 m ws /\ A1t m sp /\ G7 m st b /\ (l = none -> o = none) /\ (∀ x, l = some x -> ∃ f ths, o = some (f, ths) /\ B8i m ws st sp b p x s f ths) /\ Q (.bool true)
theorem B28 : (PyData.str (Str.ofString "use")).canLay0 = true := by decide +kernel
theorem C79 (s k : Nat) : (((s : Nat) : Int) / ((2 ^ k : Nat) : Int) % 2 == 1) = sIn s k := by
 rw [show ((s : Nat) : Int) / ((2 ^ k : Nat) : Int) % 2 = ((s / 2 ^ k % 2 : Nat) : Int) by omega]
 unfold sIn
 rcases Nat.mod_two_eq_zero_or_one (s / 2 ^ k) with h | h <;> rw [h] <;> rfl
theorem B0h (k : Nat) : (1 : Int) * 2 ^ (((k : Nat) : Int)).toNat = ((2 ^ k : Nat) : Int) := by rw [Int.one_mul, A7b, Int.natCast_pow]; rfl
section
variable {P : Program} {w : World} {K : A3} {mg : Str -> Option Value} {base : Heap}
theorem C8a (T : Txt K mg) : D4 P w K mg base CX0 6 T.a_spring_case T.d_spring_case ["_law_hand_here"] (spD [.hd] C75) := by
 have G_draw := @A3o P w K mg base T
 have b_draw := A3n T
 have G_scale := @C7c P w K mg base T
 have b_scale := C4j T
 have G_store := @C7e P w K mg base T
 have b_store := C4l T
 have G_land := @C7f P w K mg base T
 have b_land := C4m T
 have G_springs := @C7y P w K mg base T
 have b_springs := C4o T
 have G_table := @C7g P w K mg base T
 have b_table := C4n T
 refine J3 T.F_spring_case A4l rfl (fun C cdv A outer s H E hr => ⟨_, (@D1 _ _ _ _ _ _ (E1 (C1 (i := 1) A4l.nd rfl (A8 rfl) (C8 (B7 G_scale (hr.mono (by decide)) rfl T.mg_scale T.kp_scale b_scale .nil B8 (F3 (pv 0) C5 A0) (he := A0) (hpl := A4))))) (@D1 _ _ _ _ _ _ (E1 (C1 (i := 2) A4l.nd rfl (A8 rfl) (C8 (B7 G_store (hr.mono (by decide)) rfl T.mg_store T.kp_store b_store .nil B8 (F3 (pv 0) (A5 (A1 (pv 1)) C5 A0) A0) (he := A0) (hpl := (A2 A0 A4)))))) (@D1 _ _ _ _ _ _ (@A37 _ _ _ _ _ (@Q5 _ _ _ _ _ _ (@L6 _ _ _ _ _ _ _ (J7 (M1 (A7 (P5 (A7 A6 (A7 A6 D0 G4) G4)) (A7 (P5 (A7 A6 (A7 A6 D0 G4) G4)) D0 x8) x8))) (P6 B1s (b9 B03 rfl T.n_int A7m (A7 (m8 (U9 (O1 hr)) N8 (C8 (B7 G_draw (hr.mono (by decide)) rfl T.mg_draw T.kp_draw b_draw .nil B8 (F3 (pv 0) (A5 A6 C5 G4) A0) (he := A0) (hpl := (A2 G4 A4)))) A6 (D5 _)) D0 A5b) (he := A5b) (hpl := A4))) (fun _ _ => rfl)) (A7y (A11 (n := 2) rfl (O4 (K6 (i := 3) A4l.nd rfl (A8 rfl)) (O4 (K6 (i := 4) A4l.nd rfl (A8 rfl)) v8)))) (by rfl) (by rfl) (by rfl))) (@D1 _ _ _ _ _ _ (E1 (C1 (i := 5) A4l.nd rfl (A8 rfl) (C8 (B7 G_land (hr.mono (by decide)) rfl T.mg_land T.kp_land b_land .nil B8 (F3 (pv 0) (A5 (A1 (pv 3)) (A5 (A1 (pv 4)) (A5 (A1 (pv 1)) C5 A0) A0) A0) A0) (he := A0) (hpl := (A2 A0 (A2 A0 (A2 A0 A4)))))))) (@D1 _ _ _ _ _ _ (@E1 _ _ _ _ _ (@C1 _ _ 6 _ _ _ _ A4l.nd rfl (A8 rfl) (@C8 _ _ _ _ _ _ _ (@B7 _ _ _ _ _ _ _ _ _ _ _ _ _ _ _ _ G_springs (hr.mono (by decide)) rfl T.mg_springs T.kp_springs b_springs .nil B8 (@F3 _ _ _ _ _ _ (pv 0) (@A5 _ _ _ _ _ _ (C2 (pv 5) A6 (fun _ _ => rfl)) (A5 (A1 (pv 2)) (A5 (L6 (J7 (M1 (A7 A6 (A7 A6 D0 G4) G4))) (P6 B1s (b9 B03 rfl T.n_int A7m (A7 (m8 (U9 (O1 hr)) N8 (A1 (pv 3)) A6 (D5 _)) D0 A5b) (he := A5b) (hpl := A4))) (fun _ _ => rfl)) C5 B3) A0) B3) A0) (by decide) A0 ((A2 B3 (A2 A0 (A2 B3 A4)))))) (by rfl) (by first | exact .inl rfl | exact .inr rfl | assumption))) (@B6 _ _ _ _ (@D2 _ _ _ _ _ (@P5 _ _ _ _ _ _ (@A7 _ _ _ _ _ _ (A1 (pv 5)) (A7 (A1 (pv 2)) (A7 (A1 (pv 6)) (A7 (C8 (B7 G_table (hr.mono (by decide)) rfl T.mg_table T.kp_table b_table .nil B8 (F3 (pv 0) (A5 (C2 (pv 5) A6 (fun _ _ => rfl)) (A5 (A1 (pv 2)) C5 A0) B3) A0) (he := A0) (hpl := (A2 B3 (A2 A0 A4))))) D0 J5) A0) A0) A0))))))))), fun ds Q hl h => ?_⟩)
 obtain ⟨d, rfl, q⟩ := h
 left
 refine ⟨rfl, _, rfl, fun sc c0 c1 => ?_⟩
 refine go ?_; left
 refine ⟨rfl, _, _, rfl, by omega, c1, fun st s0 s1 => ?_⟩
 refine go ?_; left
 refine ⟨by decide, by decide, by decide, rfl, 12, rfl, by decide, by decide, fun r r0 r1 => ?_⟩
 left
 refine ⟨rfl, rfl, Q0 _ _, ?_⟩
 left
 obtain ⟨pl, wn, p1, p2, w2, hat⟩ : ∃ pl wn : Nat, 1 <= pl /\ pl <= 12 /\ wn <= 40 /\ atI [PyData.tuple [.int 5, .int 10], .tuple [.int 8, .int 16]] (if PyData.eqv (.int r) (.int 0) = true then (1 : Int) else 0) = some (.tuple [.int (pl : Nat), .int (wn : Nat)]) := by
  cases PyData.eqv (.int r) (.int 0) with
  | true => exact ⟨8, 16, by decide, by decide, by decide, rfl⟩
  | false => exact ⟨5, 10, by decide, by decide, by decide, rfl⟩
 rw [hat]
 left
 refine go ?_; left
 refine ⟨rfl, _, pl, wn, sc, rfl, p1, p2, w2, c0, c1, fun m ws ok => ?_⟩
 refine go ?_; right
 refine ⟨rfl, by show 2 <= 1000; decide, rfl, rfl, Q0 _ _, ?_⟩
 left
 obtain ⟨mo, h4, hat⟩ : ∃ mo : Nat, mo <= 4 /\ atI [PyData.int 4, .int 2] (if PyData.eqv (.int (pl : Nat)) (.int 8) = true then (1 : Int) else 0) = some (.int (mo : Nat)) := by
  cases PyData.eqv (.int (pl : Nat)) (.int 8) with
  | true => exact ⟨2, by decide, rfl⟩
  | false => exact ⟨4, by decide, rfl⟩
 rw [hat]
 left
 refine ⟨_, m, st, mo, rfl, ok.m1, ok.m2, s0, s1, h4, fun sp so => ?_⟩
 refine go ?_; right
 refine ⟨rfl, _, m, st, rfl, ok.m2, s0, by omega, fun g hg => ?_⟩
 left
 exact ⟨by show 4 <= 1000; decide, q m ws st sp g ok s0 s1 so hg⟩
theorem C8b (T : Txt K mg) : D4 P w K mg base CX0 4 T.a_asked T.d_asked ["_law_hand_here", "_law_case"] (spD [.hd, .sh] C76) := by
 have G_draw := @A3o P w K mg base T
 have b_draw := A3n T
 refine J3 T.F_asked B64 rfl (fun C cdv A outer s H E hr => ⟨_, (@D1 _ _ _ _ _ _ (@E1 _ _ _ _ _ (@C1 _ _ 2 _ _ _ _ B64.nd rfl (A8 rfl) (@L6 _ _ _ _ _ _ _ (@J7 _ _ _ _ (@M1 _ _ _ _ _ (@A7 _ _ _ _ _ _ (C8 (B7 G_draw (hr.mono (by decide)) rfl T.mg_draw T.kp_draw b_draw .nil B8 (F3 (pv 0) (A5 (E3 A7i A72 A6 (P6 A9d (J6 U0 rfl T.n_len U2 (A7 (C2 (pv 1) A6 (fun _ _ => rfl)) D0 B3) (he := B3) (hpl := A4)))) C5 G6) A0) (he := A0) (hpl := (A2 G6 A4)))) (A7 (E3 j8 A0h (E3 A7i A72 A6 (P6 A9d (J6 U0 rfl T.n_len U2 (A7 (C2 (pv 1) A6 (fun _ _ => rfl)) D0 B3) (he := B3) (hpl := A4)))) A6) D0 G6) J5))) (C8 (B7 G_draw (hr.mono (by decide)) rfl T.mg_draw T.kp_draw b_draw .nil B8 (F3 (pv 0) (A5 A6 C5 G4) A0) (he := A0) (hpl := (A2 G4 A4)))) (fun _ _ => rfl)) (by rfl) (by first | exact .inl rfl | exact .inr rfl | assumption))) (B6 (D2 (P5 (A7 (A1 (pv 2)) (A7 (C8 (B7 G_draw (hr.mono (by decide)) rfl T.mg_draw T.kp_draw b_draw .nil B8 (F3 (pv 0) (A5 (L6 (C2 (pv 1) A6 (fun _ _ => rfl)) A6 (fun _ _ => rfl)) C5 B3) A0) (he := A0) (hpl := (A2 B3 A4)))) D0 J5) A0))))), fun ds Q hl h => ?_⟩)
 obtain ⟨d, m, ws, st, sp, b, rfl, ok, so, q⟩ := h
 have few := so.few
 have p16 := pw4 sp.length (by omega)
 have pp := A1v sp.length
 have m1 := ok.m1
 have m2 := ok.m2
 unfold W9 C7
 left
 refine ⟨rfl, B0d (show atI [PyData.tuple [.int ((m : Nat) : Int), .list (ws.map L7)], .int st, .list (sp.map G3), .list (C4 b)] 2 = some (.list (sp.map G3)) from rfl) ?_⟩
 left
 rw [F6, B0h]
 refine ⟨⟨by omega, by omega, by decide⟩, _, rfl, by omega, by omega, fun u u0 u1 => ?_⟩
 refine B0d (show atI [PyData.tuple [.int ((m : Nat) : Int), .list (ws.map L7)], .int st, .list (sp.map G3), .list (C4 b)] 2 = some (.list (sp.map G3)) from rfl) ?_
 left
 rw [F6, B0h]
 refine ⟨⟨by omega, by omega, by decide⟩, by decide, rfl, 2, rfl, by decide, by decide, fun v v0 v1 => ?_⟩
 left
 obtain ⟨s, hs, hat⟩ : ∃ s : Nat, s < 2 ^ sp.length /\ atI [PyData.int u, .int (((2 ^ sp.length : Nat) : Int) - 1)] v = some (.int ((s : Nat) : Int)) := by
  have hv : v = 0 \/ v = 1 := by omega
  rcases hv with rfl | rfl
  ·exact ⟨u.toNat, by omega, by rw [show ((u.toNat : Nat) : Int) = u by omega]; rfl⟩
  ·exact ⟨2 ^ sp.length - 1, by omega, by rw [show ((2 ^ sp.length - 1 : Nat) : Int) = ((2 ^ sp.length : Nat) : Int) - 1 by omega]; rfl⟩
 refine B0d hat (go ?_)
 left
 refine ⟨rfl, B0d (show atI [PyData.tuple [.int ((m : Nat) : Int), .list (ws.map L7)], .int st, .list (sp.map G3), .list (C4 b)] 0 = some (.tuple [.int ((m : Nat) : Int), .list (ws.map L7)]) from rfl) ?_⟩
 left
 refine ⟨_, rfl, by omega, by omega, fun y y0 y1 => ⟨by decide, ?_⟩⟩
 obtain ⟨y, rfl, hy⟩ := A8g y0 y1
 exact q s y hs hy
theorem C8c (T : Txt K mg) : D4 P w K mg base CX0 4 T.a_arrive_by T.d_arrive_by ["_law_land_here", "_law_store_here", "_law_springs_here", "_law_place", "_law_level", "_law_trip"] (spD [.sh, .sh, .sh, .sh, .sh, .sh] C77) := by
 have G_law_is_whole := @B23 P w K mg base T
 have b_law_is_whole := B2q T
 have G_arrive := @C66 P w K mg base T
 have b_arrive := C4s T
 refine J3 T.F_arrive_by A1p rfl (fun C cdv A outer s H E hr => ⟨_, (@D1 _ _ _ _ _ _ (N1 (K0 (V1 (V0 (A0z A7t (J6 d7 rfl T.n_isinstance d5 (A9 (pv 5) (A9 (b5 (v := V.ty "list") rfl T.n_list X4 rfl) D3 A0) A0) (he := A0) (hpl := (A2 A0 A4))))))
   (B6 (D2 J2))
   K1)) (@D1 _ _ _ _ _ _ (E1 (C1 (i := 6) A1p.nd rfl (A8 rfl) A6)) (@D1 _ _ _ _ _ _ (@N1 _ _ _ _ (@W6 _ _ _ _ _ _ (@U7 _ _ _ _ _ _ _ _ Q3 rfl (A36 (pv 5)) (Z3 (K6 (i := 7) A1p.nd rfl (A8 rfl))) (@B6 _ _ _ _ (@K0 _ _ _ _ _ _ _ _ _ (PW.pt (@A14 _ _ _ _ _ _ _ _ (V0 (A0z B1x (J6 d7 rfl T.n_isinstance d5 (A9 (pv 7) (A9 (b5 (v := V.ty "tuple") rfl T.n_tuple B1k rfl) D3 A0) A0) (he := A0) (hpl := (A2 A0 A4))))) (A14 (G0 (U9 (O1 hr)) N8 (e7 (J6 U0 rfl T.n_len U2 (A9 (pv 7) D3 A0) (he := A0) (hpl := A4))) A6 (D5 _)) (A5g (G0 (U9 (O1 hr)) N8 (C2 (pv 7) A6 (fun _ _ => rfl)) C1e (D5 _)))))) (@D1 _ _ _ _ _ _ (E1 (C1 (i := 8) A1p.nd rfl (A8 rfl) (C2 (pv 7) A6 (fun _ _ => rfl)))) (@D1 _ _ _ _ _ _ (@N1 _ _ _ _ (@K0 _ _ _ _ _ _ _ _ _ (PW.pt (@S5 _ _ _ _ _ _ _ _ (V1 (V0 (C8 (B7 G_law_is_whole (hr.mono (by decide)) rfl T.mg_law_is_whole T.kp_law_is_whole b_law_is_whole .nil B8 (A5 (A1 (pv 8)) C5 A0) (he := A0) (hpl := A4))))) (S5 (V1 (A9b A47 T0 A6 (A1 (pv 8)) (e7 (J6 U0 rfl T.n_len U2 (A9 (pv 2) D3 A0) (he := A0) (hpl := A4))))) (X5 (G0 (U9 (O1 hr)) N8 (E3 j9 B48 (E3 B1h B49 (A1 (pv 6)) (E3 A7i A72 A6 (A1 (pv 8)))) A6) A6 (D5 _)))))) (B6 (D2 J2)) K1)) (@D1 _ _ _ _ _ _ (N1 (K0 (PW.pt (S5 (G0 (A13 (O1 hr)) N8 (L6 (C2 (pv 2) (A1 (pv 8)) (fun _ _ => rfl)) A6 (fun _ _ => rfl)) (A1 (pv 3)) (D5 _)) (X5 (G0 T1 V6 (A1 (pv 4)) J2 (D5 _)))))
   (B6 (D2 J2))
   K1)) (@D1 _ _ _ _ _ _ (E1 (C1 (i := 4) A1p.nd rfl (A8 rfl) (P6 e8 (J6 (b8 rfl) rfl T.n_min d4 (A7 (A1 (pv 1)) (A7 (E3 L8 N4 (A1 (pv 4)) (L6 (C2 (pv 2) (A1 (pv 8)) (fun _ _ => rfl)) A6 (fun _ _ => rfl))) D0 G6) A0) (he := A0) (hpl := (A2 G6 A4)))))) (B6 (C2p (B9i (i := 6) A1p.nd rfl (A8 rfl) (E3 A7i A72 A6 (A1 (pv 8))) B3z))))))) (@D1 _ _ _ _ _ _ (@E1 _ _ _ _ _ (@C1 _ _ 9 _ _ _ _ A1p.nd rfl (A8 rfl) (C8 (B7 G_arrive (hr.mono (by decide)) rfl T.mg_arrive T.kp_arrive b_arrive .nil B8 (A5 (A1 (pv 0)) (A5 (A1 (pv 1)) (A5 (A1 (pv 3)) (A5 (A1 (pv 4)) (A5 (J7 (M1 (A7 (A1 (pv 7)) D0 A0))) C5 B1l) A0) A0) A0) A0) (he := A0) (hpl := (A2 A0 (A2 A0 (A2 A0 (A2 B1l A4))))))) (by rfl) (by first | exact .inl rfl | exact .inr rfl | assumption))) (D1 (N1 (K0 (G0 T1 V6 (A1 (pv 9)) J2 (D5 _))
   (B6 (D2 J2))
   K1))
   (B6 (A37 (Q5 (A1 (pv 9)) (C28 (C27 (n := 2) rfl (O4 (K6 (i := 3) A1p.nd rfl (A8 rfl)) (O4 (K6 (i := 4) A1p.nd rfl (A8 rfl)) v8))))))))))) (by intro _; rfl)))) (B6 (D2 (J7 (M1 (A7 (A1 (pv 3)) (A7 (A1 (pv 4)) (A7 (A1 (pv 6)) D0 A0) A0) A0)))))))), fun ds Q hl h => ?_⟩)
 obtain ⟨m, ws, st, sp, p, p', s', x, x', ths, rfl, ok, so, hT, q⟩ := h
 have few := so.few
 refine Y1 (fun ρ' => ρ' = [Sl.sh (C7 m ws), Sl.sh (.int st), Sl.sh (.list (sp.map G3)), Sl.sh (.int ((p : Nat) : Int)), Sl.sh (.int x), Sl.sh (.list (ths.map thD)), .no, .no, .no, .no]) ?_ ?_
 ·left
  exact G9 rfl
 rintro ρ rfl
 refine go ?_
 left
 refine go (Y1 (fun ρ' => ∃ z7 z8 z9 : Sl, ρ' = [Sl.sh (C7 m ws), Sl.sh (.int st), Sl.sh (.list (sp.map G3)), Sl.sh (.int ((p' : Nat) : Int)), Sl.sh (.int x'), Sl.sh (.list (ths.map thD)), Sl.sh (.int ((s' : Nat) : Int)), z7, z8, z9]) ?_ ?_)
 ·refine B74 ?_
  try dsimp only [dIl, dIv, dIt, A7v, A9j, A7w, A9o, dIL, A74, A76, A75, A9u, A04, N7, A08, n5, dOp, m7, A07, dT, A06, A2d, dCb, A0l, A0k, dC, dF, A0n, A0m, z4, x9, y4, dOr, y7, y8, y9, dBV, dIf, d8, dIx, A0p, A0q, A0t, A0u, A0v, dSl, A0w, A0x, A0y, A00, A02, A01, aV, aS, O5, arD, e9, N6, A2t, ixD, lenD, M0, Z1, gI, gI0, A0b, A0c, A0d, A0e, A0f, A0g, gLt, gLe, gGt, gGe, gEq, Z0, isN, m9, A0r, A0s, gI2, A16, n4, A17, A18, A05, A1c, n6, A09, A1a, gN, gT2, gT3, gT5, A2v, n8, A2w, A2x, A2y, A2z, A20, g5, A2u, A1b, gIn, gB2, oN, oS, W7, V2, A2h, A2i, A2j, A2k, A2l, A2m, U3, tyD, A4t, A4u, A4v, A3t, A4w, A4x, M2, A3x, A4y, A4z, A1x, W3, A2n, A2o, A2p, A2q, A2r, A2s, A40, A41, o9, p5, A1l, W8, arF, A1m, A3g, A3h, A3f, A3i, A3j, A3k, p6, p7, gL2, A1g, g3, A1h, A1i, N2, A1j, A24, o7, A25, A27, A3d, M8, A28, X8, A29, A3a, A3b, aW, A3c, A3e, o8, arS, A1e, A1f, n9]
  refine B75 (fun r ρ => ∃ (R : List Th) (p x s : _) (z7 z8 z9 : Sl), r = R.map thD /\ ρ = [Sl.sh (C7 m ws), Sl.sh (.int st), Sl.sh (.list (sp.map G3)), Sl.sh (.int ((p : Nat) : Int)), Sl.sh (.int x), Sl.sh (.list (ths.map thD)), Sl.sh (.int ((s : Nat) : Int)), z7, z8, z9] /\ TrB ws st sp p x s R p' x' s') ⟨ths, p, x, 0, _, _, _, rfl, rfl, hT⟩ ?_ ?_
  ·rintro u r ρ ⟨R, p, x, s, z7, z8, z9, h1, rfl, hT⟩
   cases hT with
   | nil => cases h1
   | @pt _ q1 _ y _ pt R _ _ _ h2 h3 h4 h5 hT =>
    cases (show u :: r = G1 pt :: R.map thD from h1)
    unfold G1
    sizeOf_list_dec
    refine L5 ⟨rfl, rfl, Q0 _ _, ?_⟩
    rw [show PyData.eqv (.int (((0 + 1 + 1 : Nat)) : Int)) (.int 2) = true from rfl]
    refine L5 ⟨by rw [PyData.canLay0]; exact B24 _, B28, by show min _ 0 <= 64; omega, ?_⟩
    rw [show PyData.eqv (.list (G5 pt.1)) (.str (Str.ofString "use")) = false from rfl]
    refine G9 ⟨by decide, m, ws, st, x, y, p, q1, [pt], rfl, ok, h4.1, h4.2, h2, fun pt' hp => by rw [B0t.mp hp]; omega, h3, ?_⟩
    refine go (Y1 (fun ρ' => ρ' = [Sl.sh (C7 m ws), Sl.sh (.int st), Sl.sh (.list (sp.map G3)), Sl.sh (.int ((p : Nat) : Int)), Sl.sh (.int x), Sl.sh (.list (ths.map thD)), Sl.sh (.int ((s : Nat) : Int)), Sl.sh (.tuple [.list (G5 pt.1), .int pt.2]), z8, Sl.sh (.list [.int ((q1 : Nat) : Int), .int y])]) ?_ ?_)
    ·left
     try exact G9 rfl
    rintro ρ rfl
    refine go ?_
    left
    exact ⟨R, q1, y, s, _, _, _, rfl, rfl, hT⟩
   | @us _ k g _ y _ R _ _ _ h2 h3 h4 hT =>
    cases (show u :: r = .tuple [.str "use", .int ((k : Nat) : Int)] :: R.map thD from h1)
    have hk := B27 h2
    have hp16 := pw4 k (by omega)
    have hpp := A1v k
    sizeOf_list_dec
    refine L5 ⟨rfl, rfl, Q0 _ _, ?_⟩
    rw [show PyData.eqv (.int (((0 + 1 + 1 : Nat)) : Int)) (.int 2) = true from rfl]
    refine L5 ⟨B28, B28, by decide, ?_⟩
    rw [show PyData.eqv (.str (Str.ofString "use")) (.str (Str.ofString "use")) = true from rfl]
    refine L5 (go (Y1 (fun ρ' => ρ' = [Sl.sh (C7 m ws), Sl.sh (.int st), Sl.sh (.list (sp.map G3)), Sl.sh (.int ((p : Nat) : Int)), Sl.sh (.int x), Sl.sh (.list (ths.map thD)), Sl.sh (.int ((s : Nat) : Int)), Sl.sh (.tuple [.str "use", .int ((k : Nat) : Int)]), Sl.sh (.int ((k : Nat) : Int)), z9]) ?_ ?_))
    ·left
     refine ⟨_, rfl, ?_⟩
     rw [show p9 (.int ((k : Nat) : Int)) = true from rfl]
     left
     rw [F6, decide_eq_true (show (0 : Int) <= ((k : Nat) : Int) by omega), decide_eq_true (show ((k : Nat) : Int) < ((sp.length : Nat) : Int) by omega)]
     left
     rw [B0h]
     refine ⟨⟨by omega, by omega, by decide⟩, ⟨by omega, by omega⟩, by decide, rfl, rfl, Q0 _ _, ?_⟩
     rw [W1, C79, h3]
     exact G9 rfl
    rintro ρ rfl
    refine go (Y1 (fun ρ' => ρ' = [Sl.sh (C7 m ws), Sl.sh (.int st), Sl.sh (.list (sp.map G3)), Sl.sh (.int ((p : Nat) : Int)), Sl.sh (.int x), Sl.sh (.list (ths.map thD)), Sl.sh (.int ((s : Nat) : Int)), Sl.sh (.tuple [.str "use", .int ((k : Nat) : Int)]), Sl.sh (.int ((k : Nat) : Int)), z9]) ?_ ?_)
    ·left
     rw [A8j h2]
     unfold G3
     left
     refine ⟨rfl, rfl, Q0 _ _, ?_⟩
     rw [W1, beq_self_eq_true]
     exact G9 rfl
    rintro ρ rfl
    refine go ?_
    left
    rw [A8j h2]
    unfold G3
    left
    refine go ?_
    left
    have hy : (if x + g < st then x + g else st) = y := by
     unfold K4 at h4
     split at h4
     ·cases h4
     ·have h4 := Option.some.inj h4
      rw [<- h4]
      split <;> split <;> omega
    rw [hy, B0h, show ((s : Nat) : Int) + ((2 ^ k : Nat) : Int) = ((s + 2 ^ k : Nat) : Int) by omega]
    exact ⟨⟨by omega, by omega, by decide⟩, R, p, y, s + 2 ^ k, _, _, _, rfl, rfl, hT⟩
  ·rintro ρ ⟨R, p, x, s, z7, z8, z9, h1, rfl, hT⟩
   cases R with
   | cons t R => cases h1
   | nil =>
    cases hT
    exact ⟨_, _, _, rfl⟩
 rintro ρ ⟨z7, z8, z9, rfl⟩
 refine go ?_
 left
 exact ⟨by decide, q⟩
theorem C8d (T : Txt K mg) : D4 P w K mg base CX0 6 T.a_good T.d_good ["_law_case", "_law_found", "_law_some", "_law_place", "_law_level"] (spD [.sh, .sh, .sh, .sh, .sh] C78) := by
 have G_law_is_whole := @B23 P w K mg base T
 have b_law_is_whole := B2q T
 have G_arrive_by := @C8c P w K mg base T
 have b_arrive_by := C4t T
 refine J3 T.F_good A8a rfl (fun C cdv A outer s H E hr => ⟨_, (@D1 _ _ _ _ _ _ (A37 (Q5 (A1 (pv 0)) (B6g (A11 (n := 4) rfl (O4 (K6 (i := 5) A8a.nd rfl (A8 rfl)) (O4 (K6 (i := 6) A8a.nd rfl (A8 rfl)) (O4 (K6 (i := 7) A8a.nd rfl (A8 rfl)) (O4 (K6 (i := 8) A8a.nd rfl (A8 rfl)) v8)))))))) (@D1 _ _ _ _ _ _ (N1 (K0 (G0 T1 V6 (A1 (pv 4)) J2 (D5 _))
   (B6 (D2 (m8 T1 V6 (A1 (pv 1)) J2 (D5 _))))
   K1)) (@D1 _ _ _ _ _ _ (@N1 _ _ _ _ (@K0 _ _ _ _ _ _ _ _ _ (PW.pt (@S5 _ _ _ _ _ _ _ _ (V1 (V0 (A0z B1x (J6 d7 rfl T.n_isinstance d5 (A9 (pv 1) (A9 (b5 (v := V.ty "tuple") rfl T.n_tuple B1k rfl) D3 A0) A0) (he := A0) (hpl := (A2 A0 A4)))))) (@S5 _ _ _ _ _ _ _ _ (G0 (A13 (O1 hr)) N8 (e7 (J6 U0 rfl T.n_len U2 (A9 (pv 1) D3 A0) (he := A0) (hpl := A4))) A6 (D5 _)) (X5 (V1 (V0 (C8 (B7 G_law_is_whole (hr.mono (by decide)) rfl T.mg_law_is_whole T.kp_law_is_whole b_law_is_whole .nil B8 (A5 (C2 (pv 1) A6 (fun _ _ => rfl)) C5 B3) (he := B3) (hpl := A4))))))))) (B6 (D2 A88)) K1)) (@D1 _ _ _ _ _ _ (N1 (K0 (PW.pt (S5 (V1 (A9b A47 T0 A6 (C2 (pv 1) A6 (fun _ _ => rfl)) (C2 (pv 5) A6 (fun _ _ => rfl)))) (X5 (G0 T1 V6 (C2 (pv 8) (C2 (pv 1) A6 (fun _ _ => rfl)) (fun _ _ => rfl)) J2 (D5 _)))))
   (B6 (D2 A88))
   K1)) (@B6 _ _ _ _ (@D2 _ _ _ _ _ (@m8 _ _ _ _ _ _ _ _ _ _ (U9 (O1 hr)) N8 (@C8 _ _ _ _ _ _ _ (@B7 _ _ _ _ _ _ _ _ _ _ _ _ _ _ _ _ G_arrive_by (hr.mono (by decide)) rfl T.mg_arrive_by T.kp_arrive_by b_arrive_by .nil B8 (A5 (A1 (pv 5)) (A5 (A1 (pv 6)) (A5 (A1 (pv 7)) (A5 (C2 (pv 1) A6 (fun _ _ => rfl)) (A5 (C2 (pv 8) (C2 (pv 1) A6 (fun _ _ => rfl)) (fun _ _ => rfl)) (A5 (C2 (pv 1) A6 (fun _ _ => rfl)) C5 B3) B3) B3) A0) A0) A0) (by decide) A0 ((A2 A0 (A2 A0 (A2 B3 (A2 B3 (A2 B3 A4)))))))) (J7 (M1 (A7 (A1 (pv 3)) (A7 (A1 (pv 4)) (A7 (A1 (pv 2)) D0 A0) A0) A0))) (D5 _)))))))), fun ds Q hl h => ?_⟩)
 obtain ⟨m, ws, st, sp, b, o, s, p, l, rfl, ok, so, hb, h0, h1, q⟩ := h
 have m2 := ok.m2
 have bl := hb.len
 unfold W9
 left
 (try unfold gT4)
 left
 cases l with
 | none =>
  cases h0 rfl
  refine go (Y1 (fun _ => False) ?_ fun ρ z => z.elim)
  unfold Y2
  right
  exact q
 | some x =>
  obtain ⟨f, ths, rfl, y, hy, hT, _⟩ := h1 x rfl
  have hfm : f < m := by
   by_cases h : f < m
   ·exact h
   ·rw [A21 (by rw [bl]; omega)] at hy; cases hy
  refine go (Y1 (fun ρ' => ρ' = [Sl.sh (W9 m ws st sp b), Sl.sh (Y2 (some (f, ths))), Sl.sh (.int ((s : Nat) : Int)), Sl.sh (.int ((p : Nat) : Int)), Sl.sh (.int x), Sl.sh (C7 m ws), Sl.sh (.int st), Sl.sh (.list (sp.map G3)), Sl.sh (.list (C4 b))]) ?_ ?_)
  ·unfold W9 Y2
   right
   try exact rfl
  rintro ρ rfl
  refine go (Y1 (fun ρ' => ρ' = [Sl.sh (W9 m ws st sp b), Sl.sh (Y2 (some (f, ths))), Sl.sh (.int ((s : Nat) : Int)), Sl.sh (.int ((p : Nat) : Int)), Sl.sh (.int x), Sl.sh (C7 m ws), Sl.sh (.int st), Sl.sh (.list (sp.map G3)), Sl.sh (.list (C4 b))]) ?_ ?_)
  ·unfold Y2
   right
   refine ⟨rfl, rfl, Q0 _ _, ?_⟩
   rw [show PyData.eqv (.int (((0 + 1 + 1 : Nat)) : Int)) (.int 2) = true from rfl]
   refine G9 ⟨_, rfl, ?_⟩
   rw [show p9 (.int ((f : Nat) : Int)) = true from rfl]
   exact G9 rfl
  rintro ρ rfl
  refine go (Y1 (fun ρ' => ρ' = [Sl.sh (W9 m ws st sp b), Sl.sh (Y2 (some (f, ths))), Sl.sh (.int ((s : Nat) : Int)), Sl.sh (.int ((p : Nat) : Int)), Sl.sh (.int x), Sl.sh (C7 m ws), Sl.sh (.int st), Sl.sh (.list (sp.map G3)), Sl.sh (.list (C4 b))]) ?_ ?_)
  ·unfold Y2 C7
   left
   rw [Z7 (by rw [bl]; exact hfm), hy]
   right
   rw [decide_eq_true (show (0 : Int) <= ((f : Nat) : Int) by omega), decide_eq_true (show ((f : Nat) : Int) < ((m : Nat) : Int) by omega)]
   left
   first | exact G9 rfl | exact G9 (G9 rfl) | exact L5 (G9 rfl) | exact L5 (G9 (G9 rfl)) | skip
  rintro ρ rfl
  refine go ?_
  unfold Y2
  left
  rw [Z7 (by rw [bl]; exact hfm), hy]
  left
  refine ⟨m, ws, st, sp, f, p, s, y, x, ths, rfl, ok, so, hT, by decide, rfl, rfl, by show min 1 1 <= 64; decide, ?_⟩
  rw [show PyData.eqv (.list [.int ((p : Nat) : Int), .int x, .int ((s : Nat) : Int)]) (.list [.int ((p : Nat) : Int), .int x, .int ((s : Nat) : Int)]) = true from PySem.SeqAt.eqv_refl _ rfl]
  exact q
end
theorem C8e {ws : List Wy} {st : Int} {sp : List Sp2} {p p' s s' : Nat} {x x' : Int} {ths : List Th} (h : TrB ws st sp p x s ths p' x' s') : ∀ t ∈ ths, ThA 1000 (thD t) := by
 induction h with
 | nil => exact fun t h => nomatch h
 | pt a b c d _ ih =>
  intro t ht
  rcases O7.mp ht with rfl | ht
  ·exact .inl ⟨_, _, rfl, A8d _, rfl, by rw [A1r]; omega⟩
  ·exact ih t ht
 | us a b c _ ih =>
  intro t ht
  rcases O7.mp ht with rfl | ht
  ·exact .inr ⟨_, _, rfl, rfl⟩
  ·exact ih t ht
theorem t7.gts {m : Nat} {ws : List Wy} {st : Int} {sp : List Sp2} {b : Tb} {ts us : List Tb} (h : t7 m ws st sp b ts) (k : t7 m ws st sp b us) {s p : Nat} (hs : s < 2 ^ sp.length) : gt (tbs ts s) p = gt (tbs us s) p := B16 (h.under k.lid (fun _ => g8 _) s (by rw [h.len]; exact hs) p) (k.under h.lid (fun _ => g8 _) s (by rw [k.len]; exact hs) p)
theorem E2.spr (q : Sp2) : E2 1 (G3 q) := E2.tup (E2.two (E2.int _) (E2.int _))
section
variable {P : Program} {w : World} {K : A3} {mg : Str -> Option Value} {base : Heap}
theorem C8f (T : Txt K mg) : D4 P w K mg base CX0 13 T.a_law T.d_law ["_law_script"] (B0g K) := by
 have G_hand : D4 P w K mg base CX0 1 T.a_hand T.d_hand ["_law_script"] (B44 K) := C4w T
 have b_hand := C4h T
 have G_spring_case := @C8a P w K mg base T
 have b_spring_case := C4p T
 have G_asked := @C8b P w K mg base T
 have b_asked := C4v T
 have G_trip_by : D4 P w K mg base CX0 11 T.a_trip_by T.d_trip_by ["land", "store", "springs", "base", "some", "place"] B8l := C74 T
 have b_trip_by := C4g T
 have G_highest_by := @B8f P w K mg base T
 have b_highest_by := B7c T
 have G_good := @C8d P w K mg base T
 have b_good := C4u T
 refine T.F_law.ok U5 (fun vs H Q E h => ?_) (fun cdv A outer s H vs Q E hr h => ?_)
 ·obtain ⟨a, ns, rfl, _⟩ := h
  rfl
 ·obtain ⟨a, ns, rfl, hS, hlen, k⟩ := h
  refine ⟨_, (@K5 _ _ _ _ _ (C1 (i := 1) U5.nd rfl (A8 rfl) (B7 G_hand (hr.mono (by decide)) rfl T.mg_hand T.kp_hand b_hand .nil B8 (A9 (pv 0) D3 A0) (he := A0) (hpl := A4))) (@C14 _ _ _ (fun C => (@D1 _ _ _ _ _ _ (E1 (C1 (i := 2) U5.nd rfl (A8 rfl) (C8 (B7 G_spring_case (hr.mono (by decide)) rfl T.mg_spring_case T.kp_spring_case b_spring_case .nil B8 (F3 (pv 1) C5 A0) (he := A0) (hpl := A4))))) (@D1 _ _ _ _ _ _ (A37 (Q5 (A1 (pv 2)) (B6g (A11 (n := 4) rfl (O4 (K6 (i := 3) U5.nd rfl (A8 rfl)) (O4 (K6 (i := 4) U5.nd rfl (A8 rfl)) (O4 (K6 (i := 5) U5.nd rfl (A8 rfl)) (O4 (K6 (i := 6) U5.nd rfl (A8 rfl)) v8)))))))) (@D1 _ _ _ _ _ _ (@E1 _ _ _ _ _ (@C1 _ _ 7 _ _ _ _ U5.nd rfl (A8 rfl) (@J7 _ _ _ _ (@M1 _ _ _ _ _ (@A7 _ _ _ _ _ _ (P5 (A7 (C2 (pv 3) A6 (fun _ _ => rfl)) (A7 (J7 (C1i (b9 A12 rfl T.n_list X4 (A9 (C2 (pv 3) A6 (fun _ _ => rfl)) D3 B3) (he := B3) (hpl := A4)))) D0 J5) B3)) (A7 (J7 (A7r (b9 A12 rfl T.n_list X4 (A9 (pv 5) D3 A0) (he := A0) (hpl := A4)))) (A7 (J7 (A7r (b9 A12 rfl T.n_list X4 (A9 (pv 6) D3 A0) (he := A0) (hpl := A4)))) D0 J5) J5) x8))) (by rfl) (by first | exact .inl rfl | exact .inr rfl | assumption))) (@D1 _ _ _ _ _ _ (A37 (Q5 (C8 (B7 G_asked (hr.mono (by decide)) rfl T.mg_asked T.kp_asked b_asked .nil B8 (F3 (pv 1) (A5 (A1 (pv 2)) C5 A0) A0) (he := A0) (hpl := (A2 A0 A4)))) (A7y (A11 (n := 2) rfl (O4 (K6 (i := 8) U5.nd rfl (A8 rfl)) (O4 (K6 (i := 9) U5.nd rfl (A8 rfl)) v8)))))) (@D1 _ _ _ _ _ _ (@B6q _ _ _ _ _ _ _ _ (@C1 _ _ 10 _ _ _ _ U5.nd rfl (A8 rfl) (@B7 _ _ _ _ _ _ _ _ _ _ _ _ _ _ _ _ G_trip_by (hr.mono (by decide)) rfl T.mg_trip_by T.kp_trip_by b_trip_by .nil B8 (A5 (C2 (pv 7) A6 (fun _ _ => rfl)) (A5 (A1 (pv 4)) (A5 (C2 (pv 7) A6 (fun _ _ => rfl)) (A5 (C2 (pv 7) A6 (fun _ _ => rfl)) (A5 (A1 (pv 8)) (A5 (A1 (pv 9)) C5 A0) A0) B3) B3) A0) B3) (by decide) B3 ((A2 A0 (A2 B3 (A2 B3 (A2 A0 (A2 A0 A4))))))) (by rfl) (by first | exact .inl rfl | exact .inr rfl | assumption))) (@D1 _ _ _ _ _ _ (@E1 _ _ _ _ _ (@C1 _ _ 11 _ _ _ _ U5.nd rfl (A8 rfl) (@C8 _ _ _ _ _ _ _ (@B7 _ _ _ _ _ _ _ _ _ _ _ _ _ _ _ _ G_highest_by (hr.mono (by decide)) rfl T.mg_highest_by T.kp_highest_by b_highest_by .nil B8 (A5 (C2 (pv 7) A6 (fun _ _ => rfl)) (A5 (A1 (pv 4)) (A5 (C2 (pv 7) A6 (fun _ _ => rfl)) (A5 (C2 (pv 7) A6 (fun _ _ => rfl)) C5 B3) B3) A0) B3) (by decide) B3 ((A2 A0 (A2 B3 (A2 B3 A4)))))) (by rfl) (by first | exact .inl rfl | exact .inr rfl | assumption))) (@D1 _ _ _ _ _ _ (@N1 _ _ _ _ (@K0 _ _ _ _ _ _ _ _ _ (@V1 _ _ _ _ _ (@V0 _ _ _ _ (@B6o _ _ _ _ 10 (fun C => (@B6p _ _ _ _ _ _ _ (@B7 _ _ _ _ _ _ _ _ _ _ _ _ _ _ _ _ G_good (hr.mono (by decide)) rfl T.mg_good T.kp_good b_good .nil B8 (A5 (A1 (pv 2)) (F3 (pv 10) (A5 (A1 (pv 8)) (A5 (A1 (pv 9)) (A5 (L6 (C2 (pv 11) (A1 (pv 8)) (fun _ _ => rfl)) (A1 (pv 9)) (fun _ _ => rfl)) C5 B3) A0) A0) A0) A0) (by decide) A0 ((A2 A0 (A2 A0 (A2 A0 (A2 B3 A4))))))))) (by intro _; rfl))) (B6 (D2 A88)) K1)) (@D1 _ _ _ _ _ _ (@N1 _ _ _ _ (@K0 _ _ _ _ _ _ _ _ _ (C2z (i := 10) (fun C => (C2y A8x (V8 (pv 10)) A42 (D5 _)))) (@D1 _ _ _ _ _ _ (@N1 _ _ _ _ (C24 (@U7 _ _ _ _ _ _ _ _ Q3 rfl (A8t (J0 L9 (pv 10) D7 (fun _ _ => rfl))) (K6 (i := 12) U5.nd rfl (A8 rfl)) (@S3 _ _ _ (@A30 _ _ _ _ _ _ _ _ (B3p (J6 d7 rfl T.n_isinstance d5 (A9 (J0 L9 (pv 12) D7 (fun _ _ => rfl)) (A9 (b5 (v := V.ty "list") rfl T.n_list X4 rfl) D3 A0) B3) (he := B3) (hpl := (A2 A0 A4)))) (S3 (X0 (Y9 j6 A1y A1z m6 (J0 L9 (pv 12) D7 (fun _ _ => rfl)) (A9 D7 D3 G4)))) A43)) (by intro _; rfl)))) (B6 (C25 (X0 (Y9 j6 A1y A1z m6 (J0 L9 (pv 10) D7 (fun _ _ => rfl)) (A9 (A49 (A9 B3n (A9 D7 D3 G4) G4)) D3 x8)))))) K1)) (@D1 _ _ _ _ _ _ (@N1 _ _ _ _ (@W6 _ _ _ _ _ _ (@U7 _ _ _ _ _ _ _ _ Q3 rfl (A2b (w4 rfl T.n_range (A7 A6 D0 G4))) (Z3 (K6 (i := 13) U5.nd rfl (A8 rfl))) (@D1 _ _ _ _ _ _ (@B6q _ _ _ _ _ _ _ _ (@C1 _ _ 10 _ _ _ _ U5.nd rfl (A8 rfl) (@B7 _ _ _ _ _ _ _ _ _ _ _ _ _ _ _ _ G_trip_by (hr.mono (by decide)) rfl T.mg_trip_by T.kp_trip_by b_trip_by .nil B8 (A5 (C2 (pv 7) A6 (fun _ _ => rfl)) (A5 (A1 (pv 4)) (A5 (C2 (pv 7) A6 (fun _ _ => rfl)) (A5 (C2 (pv 7) A6 (fun _ _ => rfl)) (A5 (A1 (pv 8)) (A5 (A1 (pv 9)) C5 A0) A0) B3) B3) A0) B3) (by decide) B3 ((A2 A0 (A2 B3 (A2 B3 (A2 A0 (A2 A0 A4))))))) (by rfl) (by first | exact .inl rfl | exact .inr rfl | assumption))) (@D1 _ _ _ _ _ _ (@N1 _ _ _ _ (@K0 _ _ _ _ _ _ _ _ _ (@V1 _ _ _ _ _ (@V0 _ _ _ _ (@B6o _ _ _ _ 10 (fun C => (@B6p _ _ _ _ _ _ _ (@B7 _ _ _ _ _ _ _ _ _ _ _ _ _ _ _ _ G_good (hr.mono (by decide)) rfl T.mg_good T.kp_good b_good .nil B8 (A5 (A1 (pv 2)) (F3 (pv 10) (A5 (A1 (pv 8)) (A5 (A1 (pv 9)) (A5 (L6 (C2 (pv 11) (A1 (pv 8)) (fun _ _ => rfl)) (A1 (pv 9)) (fun _ _ => rfl)) C5 B3) A0) A0) A0) A0) (by decide) A0 ((A2 A0 (A2 A0 (A2 A0 (A2 B3 A4))))))))) (by intro _; rfl))) (B6 (D2 A88)) K1)) (B6 (A37 (Q5 (C8 (B7 G_asked (hr.mono (by decide)) rfl T.mg_asked T.kp_asked b_asked .nil B8 (F3 (pv 1) (A5 (A1 (pv 2)) C5 A0) A0) (he := A0) (hpl := (A2 A0 A4)))) (A7y (A11 (n := 2) rfl (O4 (K6 (i := 8) U5.nd rfl (A8 rfl)) (O4 (K6 (i := 9) U5.nd rfl (A8 rfl)) v8))))))))) (by intro _; rfl)))) (B6 (D2 (m8 (U9 (O1 hr)) N8 (A1 (pv 7)) (J7 (M1 (A7 (A1 (pv 3)) (A7 (A1 (pv 5)) (A7 (A1 (pv 6)) D0 A0) A0) A0))) (D5 _)))))))))))))))), ?_⟩
  refine ⟨_, rfl, a, ns, rfl, hS, fun hd hl H1 _ _ d1 _ => ?_⟩
  refine C15 (k := 12) d1 k ?_
  simp only [j3, List.replicate_zero]
  clear k
  left
  refine ⟨rfl, _, rfl, fun m ws st sp b ok s0 s1 so hb => ?_⟩
  have m1 := ok.m1
  have m2 := ok.m2
  have few := ok.few
  have bl := hb.len
  have sfew := so.few
  have p16 := pw4 sp.length (by omega)
  refine go ?_
  left
  (try unfold gT4)
  left
  refine go ?_
  unfold C7
  left
  refine ⟨by decide, by decide, go ?_⟩
  left
  refine ⟨rfl, _, m, ws, st, sp, b, rfl, ok, so, fun s p hs hp => ?_⟩
  left
  refine go ?_
  left
  refine ⟨m, ws, st, sp, b, s, p, rfl, ok, s0, by omega, so, hb, hs, hp, fun ts o hT o0 o1 => go ?_⟩
  left
  refine ⟨m, ws, st, sp, b, rfl, ok, s0, by omega, so, hb, fun us hU => ?_⟩
  have ul := hU.len
  have ut : ∀ s, s < 2 ^ sp.length -> (tbs us s).length = m := fun s hs => (hU.lid.tab _ (A8i (by rw [ul]; exact hs))).len
  refine go (Y1 (fun ρ' => ρ' = [Sl.no, Sl.hd, Sl.sh (W9 m ws st sp b), Sl.sh (C7 m ws), Sl.sh (.int st), Sl.sh (.list (sp.map G3)), Sl.sh (.list (C4 b)), Sl.sh (.list [C7 m ws, .list (sp.map G3), .list (C4 b)]), Sl.sh (.int ((s : Nat) : Int)), Sl.sh (.int ((p : Nat) : Int)), Sl.ob (trR (Y2 o)), Sl.sh (.list (O9 us)), .no, .no]) ?_ ?_)
  ·left
   refine ⟨_, rfl, rfl, rfl, ?_⟩
   rw [B0e (by rw [ul]; exact hs)]
   left
   rw [Z7 (by rw [ut s hs]; exact hp)]
   left
   refine ⟨m, ws, st, sp, b, o, s, p, gt (tbs us s) p, rfl, ok, so, hb, fun z => o0 (by rw [hT.gts hU hs]; exact z), fun x z => o1 x (by rw [hT.gts hU hs]; exact z), rfl, rfl, G9 rfl⟩
  rintro ρ rfl
  refine go (Y1 (fun ρ' => ∃ z10 : Sl, ρ' = [Sl.no, Sl.hd, Sl.sh (W9 m ws st sp b), Sl.sh (C7 m ws), Sl.sh (.int st), Sl.sh (.list (sp.map G3)), Sl.sh (.list (C4 b)), Sl.sh (.list [C7 m ws, .list (sp.map G3), .list (C4 b)]), Sl.sh (.int ((s : Nat) : Int)), Sl.sh (.int ((p : Nat) : Int)), z10, Sl.sh (.list (O9 us)), .no, .no]) ?_ ?_)
  ·cases e : gt (tbs ts s) p with
   | none =>
    cases o0 e
    left
    refine ⟨_, rfl, rfl, rfl, ?_⟩
    exact G9 ⟨_, rfl⟩
   | some x =>
    obtain ⟨f, ths, rfl, y, hy, hTB, hl⟩ := o1 x e
    left
    refine ⟨_, rfl, rfl, rfl, L5 ?_⟩
    refine ⟨fun ρ' => ρ' = [Sl.no, Sl.hd, Sl.sh (W9 m ws st sp b), Sl.sh (C7 m ws), Sl.sh (.int st), Sl.sh (.list (sp.map G3)), Sl.sh (.list (C4 b)), Sl.sh (.list [C7 m ws, .list (sp.map G3), .list (C4 b)]), Sl.sh (.int ((s : Nat) : Int)), Sl.sh (.int ((p : Nat) : Int)), Sl.ob A9y, Sl.sh (.list (O9 us)), .no, .no], ?_, ?_⟩
    ·left
     refine ⟨.int ((f : Nat) : Int), ths.map thD, rfl, fun d hd => ?_, by rw [F6]; omega, ⟨by decide, by show 10 < 14; decide, by show 12 < 14; decide⟩, rfl⟩
     obtain ⟨t, ht, rfl⟩ := b4.mp hd
     exact C8e hTB t ht
    rintro ρ rfl
    refine go ?_
    left
    exact ⟨rfl, _, rfl⟩
  rintro ρ ⟨z10, rfl⟩
  refine go (Y1 (fun ρ' => ∃ (s p : Nat) (z10 z13 : Sl), ρ' = [Sl.no, Sl.hd, Sl.sh (W9 m ws st sp b), Sl.sh (C7 m ws), Sl.sh (.int st), Sl.sh (.list (sp.map G3)), Sl.sh (.list (C4 b)), Sl.sh (.list [C7 m ws, .list (sp.map G3), .list (C4 b)]), Sl.sh (.int ((s : Nat) : Int)), Sl.sh (.int ((p : Nat) : Int)), z10, Sl.sh (.list (O9 us)), .no, z13]) ?_ ?_)
  ·refine B74 ?_
   try dsimp only [dIl, dIv, dIt, A7v, A9j, A7w, A9o, dIL, A74, A76, A75, A9u, A04, N7, A08, n5, dOp, m7, A07, dT, A06, A2d, dCb, A0l, A0k, dC, dF, A0n, A0m, z4, x9, y4, dOr, y7, y8, y9, dBV, dIf, d8, dIx, A0p, A0q, A0t, A0u, A0v, dSl, A0w, A0x, A0y, A00, A02, A01, aV, aS, O5, arD, e9, N6, A2t, ixD, lenD, M0, Z1, gI, gI0, A0b, A0c, A0d, A0e, A0f, A0g, gLt, gLe, gGt, gGe, gEq, Z0, isN, m9, A0r, A0s, gI2, A16, n4, A17, A18, A05, A1c, n6, A09, A1a, gN, gT2, gT3, gT5, A2v, n8, A2w, A2x, A2y, A2z, A20, g5, A2u, A1b, gIn, gB2, oN, oS, W7, V2, A2h, A2i, A2j, A2k, A2l, A2m, U3, tyD, A4t, A4u, A4v, A3t, A4w, A4x, M2, A3x, A4y, A4z, A1x, W3, A2n, A2o, A2p, A2q, A2r, A2s, A40, A41, o9, p5, A1l, W8, arF, A1m, A3g, A3h, A3f, A3i, A3j, A3k, p6, p7, gL2, A1g, g3, A1h, A1i, N2, A1j, A24, o7, A25, A27, A3d, M8, A28, X8, A29, A3a, A3b, aW, A3c, A3e, o8, arS, A1e, A1f, n9]
   refine ⟨⟨by decide, by decide⟩, B75 (fun r ρ => ∃ (s p : Nat) (z10 z13 : Sl), ρ = [Sl.no, Sl.hd, Sl.sh (W9 m ws st sp b), Sl.sh (C7 m ws), Sl.sh (.int st), Sl.sh (.list (sp.map G3)), Sl.sh (.list (C4 b)), Sl.sh (.list [C7 m ws, .list (sp.map G3), .list (C4 b)]), Sl.sh (.int ((s : Nat) : Int)), Sl.sh (.int ((p : Nat) : Int)), z10, Sl.sh (.list (O9 us)), .no, z13] /\ s < 2 ^ sp.length /\ p < m) ⟨s, p, _, _, rfl, hs, hp⟩ ?_ ?_⟩
   ·rintro x r ρ ⟨s, p, z10, z13, rfl, hs, hp⟩
    sizeOf_list_dec
    refine ⟨m, ws, st, sp, b, s, p, rfl, ok, s0, by omega, so, hb, hs, hp, fun ts o hT o0 o1 => ?_⟩
    refine go (Y1 (fun ρ' => ρ' = [Sl.no, Sl.hd, Sl.sh (W9 m ws st sp b), Sl.sh (C7 m ws), Sl.sh (.int st), Sl.sh (.list (sp.map G3)), Sl.sh (.list (C4 b)), Sl.sh (.list [C7 m ws, .list (sp.map G3), .list (C4 b)]), Sl.sh (.int ((s : Nat) : Int)), Sl.sh (.int ((p : Nat) : Int)), Sl.ob (trR (Y2 o)), Sl.sh (.list (O9 us)), .no, Sl.sh x]) ?_ ?_)
    ·left
     refine ⟨_, rfl, rfl, rfl, ?_⟩
     rw [B0e (by rw [ul]; exact hs)]
     left
     rw [Z7 (by rw [ut s hs]; exact hp)]
     left
     refine ⟨m, ws, st, sp, b, o, s, p, gt (tbs us s) p, rfl, ok, so, hb, fun z => o0 (by rw [hT.gts hU hs]; exact z), fun x z => o1 x (by rw [hT.gts hU hs]; exact z), rfl, rfl, G9 rfl⟩
    rintro ρ rfl
    refine go ?_
    left
    exact ⟨rfl, _, m, ws, st, sp, b, rfl, ok, so, fun s p hs hp => ⟨s, p, _, _, rfl, hs, hp⟩⟩
   ·rintro ρ ⟨s, p, z10, z13, rfl, _, _⟩
    exact ⟨s, p, _, _, rfl⟩
  rintro ρ ⟨s', p', z10', z13, rfl⟩
  refine go ?_
  left
  have LL : E2 4 (.list [C7 m ws, .list (sp.map G3), .list (C4 b)]) := E2.lst (E2.three (E2.land m ws) ((E2.lst (n := 1) fun d hd => by obtain ⟨q, _, rfl⟩ := b4.mp hd; exact E2.spr q).mono (by decide)) ((E2.tab b).mono (by decide)))
  refine ⟨by decide, LL.1, LL.1, LL.dep (by decide) _, ?_⟩
  rw [LL.same]
end
section
variable {P : Program} {w : World} {K : A3} {mg : Str -> Option Value} {base : Heap}
theorem all_mk {l : PySem.W.OpenLaw} {w : World} {K : A3} {h : Heap} {mg : Str -> Option Value} {fa : Addr} (X : K.In h) (G : h.Ns mainGlobals mg) (hfa : mg "law" = some (.ref fa))
  {f0 : Addr} {od0 an0 : Option Addr} {sl0 : Array (Option Value)} {oc0 kV0 dc0 pm0 cd0 ct0 : Value} (a0 : C9 K mainGlobals "is_whole" = some (some (.ref f0))) (l0 : K.lookup f0 = some ⟨oc0, od0, .func (E7 "is_whole" "is_whole" (E9 A5u) (E4 A5u) (B0 A5u) .none kV0 dc0 pm0 an0 cd0 ct0), sl0⟩) (c0 : F7 K cd0 "is_whole" = true) (k0 : B5 K (.ref f0) = true)
  {f1 : Addr} {od1 an1 : Option Addr} {sl1 : Array (Option Value)} {oc1 kV1 dc1 pm1 cd1 ct1 : Value} (a1 : C9 K mainGlobals "stepped" = some (some (.ref f1))) (l1 : K.lookup f1 = some ⟨oc1, od1, .func (E7 "stepped" "stepped" (E9 A5v) (E4 A5v) (B0 A5v) .none kV1 dc1 pm1 an1 cd1 ct1), sl1⟩) (c1 : F7 K cd1 "stepped" = true) (k1 : B5 K (.ref f1) = true)
  {f2 : Addr} {od2 an2 : Option Addr} {sl2 : Array (Option Value)} {oc2 kV2 dc2 pm2 cd2 ct2 : Value} (a2 : C9 K mainGlobals "levels_along" = some (some (.ref f2))) (l2 : K.lookup f2 = some ⟨oc2, od2, .func (E7 "levels_along" "levels_along" (E9 A5w) (E4 A5w) (B0 A5w) .none kV2 dc2 pm2 an2 cd2 ct2), sl2⟩) (c2 : F7 K cd2 "levels_along" = true) (k2 : B5 K (.ref f2) = true)
  {f3 : Addr} {od3 an3 : Option Addr} {sl3 : Array (Option Value)} {oc3 kV3 dc3 pm3 cd3 ct3 : Value} (a3 : C9 K mainGlobals "effect_of_none" = some (some (.ref f3))) (l3 : K.lookup f3 = some ⟨oc3, od3, .func (E7 "effect_of_none" "effect_of_none" (E9 A5x) (E4 A5x) (B0 A5x) .none kV3 dc3 pm3 an3 cd3 ct3), sl3⟩) (c3 : F7 K cd3 "effect_of_none" = true) (k3 : B5 K (.ref f3) = true)
  {f4 : Addr} {od4 an4 : Option Addr} {sl4 : Array (Option Value)} {oc4 kV4 dc4 pm4 cd4 ct4 : Value} (a4 : C9 K mainGlobals "effect_of_one" = some (some (.ref f4))) (l4 : K.lookup f4 = some ⟨oc4, od4, .func (E7 "effect_of_one" "effect_of_one" (E9 A5y) (E4 A5y) (B0 A5y) .none kV4 dc4 pm4 an4 cd4 ct4), sl4⟩) (c4 : F7 K cd4 "effect_of_one" = true) (k4 : B5 K (.ref f4) = true)
  {f5 : Addr} {od5 an5 : Option Addr} {sl5 : Array (Option Value)} {oc5 kV5 dc5 pm5 cd5 ct5 : Value} (a5 : C9 K mainGlobals "effect_of" = some (some (.ref f5))) (l5 : K.lookup f5 = some ⟨oc5, od5, .func (E7 "effect_of" "effect_of" (E9 A5z) (E4 A5z) (B0 A5z) .none kV5 dc5 pm5 an5 cd5 ct5), sl5⟩) (c5 : F7 K cd5 "effect_of" = true) (k5 : B5 K (.ref f5) = true)
  {f6 : Addr} {od6 an6 : Option Addr} {sl6 : Array (Option Value)} {oc6 kV6 dc6 pm6 cd6 ct6 : Value} (a6 : C9 K mainGlobals "passed" = some (some (.ref f6))) (l6 : K.lookup f6 = some ⟨oc6, od6, .func (E7 "passed" "passed" (E9 A50) (E4 A50) (B0 A50) .none kV6 dc6 pm6 an6 cd6 ct6), sl6⟩) (c6 : F7 K cd6 "passed" = true) (k6 : B5 K (.ref f6) = true)
  {f7 : Addr} {od7 an7 : Option Addr} {sl7 : Array (Option Value)} {oc7 kV7 dc7 pm7 cd7 ct7 : Value} (a7 : C9 K mainGlobals "joined" = some (some (.ref f7))) (l7 : K.lookup f7 = some ⟨oc7, od7, .func (E7 "joined" "joined" (E9 A51) (E4 A51) (B0 A51) .none kV7 dc7 pm7 an7 cd7 ct7), sl7⟩) (c7 : F7 K cd7 "joined" = true) (k7 : B5 K (.ref f7) = true)
  {f8 : Addr} {od8 an8 : Option Addr} {sl8 : Array (Option Value)} {oc8 kV8 dc8 pm8 cd8 ct8 : Value} (a8 : C9 K mainGlobals "is_place" = some (some (.ref f8))) (l8 : K.lookup f8 = some ⟨oc8, od8, .func (E7 "is_place" "is_place" (E9 A52) (E4 A52) (B0 A52) .none kV8 dc8 pm8 an8 cd8 ct8), sl8⟩) (c8 : F7 K cd8 "is_place" = true) (k8 : B5 K (.ref f8) = true)
  {f9 : Addr} {od9 an9 : Option Addr} {sl9 : Array (Option Value)} {oc9 kV9 dc9 pm9 cd9 ct9 : Value} (a9 : C9 K mainGlobals "changes_of" = some (some (.ref f9))) (l9 : K.lookup f9 = some ⟨oc9, od9, .func (E7 "changes_of" "changes_of" (E9 A4b) (E4 A4b) (B0 A4b) .none kV9 dc9 pm9 an9 cd9 ct9), sl9⟩) (c9 : F7 K cd9 "changes_of" = true) (k9 : B5 K (.ref f9) = true)
  {f10 : Addr} {od10 an10 : Option Addr} {sl10 : Array (Option Value)} {oc10 kV10 dc10 pm10 cd10 ct10 : Value} (a10 : C9 K mainGlobals "is_more" = some (some (.ref f10))) (l10 : K.lookup f10 = some ⟨oc10, od10, .func (E7 "is_more" "is_more" (E9 A53) (E4 A53) (B0 A53) .none kV10 dc10 pm10 an10 cd10 ct10), sl10⟩) (c10 : F7 K cd10 "is_more" = true) (k10 : B5 K (.ref f10) = true)
  {f11 : Addr} {od11 an11 : Option Addr} {sl11 : Array (Option Value)} {oc11 kV11 dc11 pm11 cd11 ct11 : Value} (a11 : C9 K mainGlobals "behind_way" = some (some (.ref f11))) (l11 : K.lookup f11 = some ⟨oc11, od11, .func (E7 "behind_way" "behind_way" (E9 A54) (E4 A54) (B0 A54) .none kV11 dc11 pm11 an11 cd11 ct11), sl11⟩) (c11 : F7 K cd11 "behind_way" = true) (k11 : B5 K (.ref f11) = true)
  {f12 : Addr} {od12 an12 : Option Addr} {sl12 : Array (Option Value)} {oc12 kV12 dc12 pm12 cd12 ct12 : Value} (a12 : C9 K mainGlobals "first_row" = some (some (.ref f12))) (l12 : K.lookup f12 = some ⟨oc12, od12, .func (E7 "first_row" "first_row" (E9 A55) (E4 A55) (B0 A55) .none kV12 dc12 pm12 an12 cd12 ct12), sl12⟩) (c12 : F7 K cd12 "first_row" = true) (k12 : B5 K (.ref f12) = true)
  {f13 : Addr} {od13 an13 : Option Addr} {sl13 : Array (Option Value)} {oc13 kV13 dc13 pm13 cd13 ct13 : Value} (a13 : C9 K mainGlobals "row_behind" = some (some (.ref f13))) (l13 : K.lookup f13 = some ⟨oc13, od13, .func (E7 "row_behind" "row_behind" (E9 A56) (E4 A56) (B0 A56) .none kV13 dc13 pm13 an13 cd13 ct13), sl13⟩) (c13 : F7 K cd13 "row_behind" = true) (k13 : B5 K (.ref f13) = true)
  {f14 : Addr} {od14 an14 : Option Addr} {sl14 : Array (Option Value)} {oc14 kV14 dc14 pm14 cd14 ct14 : Value} (a14 : C9 K mainGlobals "walk_to" = some (some (.ref f14))) (l14 : K.lookup f14 = some ⟨oc14, od14, .func (E7 "walk_to" "walk_to" (E9 A57) (E4 A57) (B0 A57) .none kV14 dc14 pm14 an14 cd14 ct14), sl14⟩) (c14 : F7 K cd14 "walk_to" = true) (k14 : B5 K (.ref f14) = true)
  {f15 : Addr} {od15 an15 : Option Addr} {sl15 : Array (Option Value)} {oc15 kV15 dc15 pm15 cd15 ct15 : Value} (a15 : C9 K mainGlobals "behind_ways" = some (some (.ref f15))) (l15 : K.lookup f15 = some ⟨oc15, od15, .func (E7 "behind_ways" "behind_ways" (E9 A58) (E4 A58) (B0 A58) .none kV15 dc15 pm15 an15 cd15 ct15), sl15⟩) (c15 : F7 K cd15 "behind_ways" = true) (k15 : B5 K (.ref f15) = true)
  {f16 : Addr} {od16 an16 : Option Addr} {sl16 : Array (Option Value)} {oc16 kV16 dc16 pm16 cd16 ct16 : Value} (a16 : C9 K mainGlobals "behind_part" = some (some (.ref f16))) (l16 : K.lookup f16 = some ⟨oc16, od16, .func (E7 "behind_part" "behind_part" (E9 A59) (E4 A59) (B0 A59) .none kV16 dc16 pm16 an16 cd16 ct16), sl16⟩) (c16 : F7 K cd16 "behind_part" = true) (k16 : B5 K (.ref f16) = true)
  {f17 : Addr} {od17 an17 : Option Addr} {sl17 : Array (Option Value)} {oc17 kV17 dc17 pm17 cd17 ct17 : Value} (a17 : C9 K mainGlobals "end_of" = some (some (.ref f17))) (l17 : K.lookup f17 = some ⟨oc17, od17, .func (E7 "end_of" "end_of" (E9 A6a) (E4 A6a) (B0 A6a) .none kV17 dc17 pm17 an17 cd17 ct17), sl17⟩) (c17 : F7 K cd17 "end_of" = true) (k17 : B5 K (.ref f17) = true)
  {f18 : Addr} {od18 an18 : Option Addr} {sl18 : Array (Option Value)} {oc18 kV18 dc18 pm18 cd18 ct18 : Value} (a18 : C9 K mainGlobals "rows_from" = some (some (.ref f18))) (l18 : K.lookup f18 = some ⟨oc18, od18, .func (E7 "rows_from" "rows_from" (E9 A6b) (E4 A6b) (B0 A6b) .none kV18 dc18 pm18 an18 cd18 ct18), sl18⟩) (c18 : F7 K cd18 "rows_from" = true) (k18 : B5 K (.ref f18) = true)
  {f19 : Addr} {od19 an19 : Option Addr} {sl19 : Array (Option Value)} {oc19 kV19 dc19 pm19 cd19 ct19 : Value} (a19 : C9 K mainGlobals "still_rises" = some (some (.ref f19))) (l19 : K.lookup f19 = some ⟨oc19, od19, .func (E7 "still_rises" "still_rises" (E9 A6c) (E4 A6c) (B0 A6c) .none kV19 dc19 pm19 an19 cd19 ct19), sl19⟩) (c19 : F7 K cd19 "still_rises" = true) (k19 : B5 K (.ref f19) = true)
  {f20 : Addr} {od20 an20 : Option Addr} {sl20 : Array (Option Value)} {oc20 kV20 dc20 pm20 cd20 ct20 : Value} (a20 : C9 K mainGlobals "rising_walk" = some (some (.ref f20))) (l20 : K.lookup f20 = some ⟨oc20, od20, .func (E7 "rising_walk" "rising_walk" (E9 A4c) (E4 A4c) (B0 A4c) .none kV20 dc20 pm20 an20 cd20 ct20), sl20⟩) (c20 : F7 K cd20 "rising_walk" = true) (k20 : B5 K (.ref f20) = true)
  {f21 : Addr} {od21 an21 : Option Addr} {sl21 : Array (Option Value)} {oc21 kV21 dc21 pm21 cd21 ct21 : Value} (a21 : C9 K mainGlobals "parted_at_round" = some (some (.ref f21))) (l21 : K.lookup f21 = some ⟨oc21, od21, .func (E7 "parted_at_round" "parted_at_round" (E9 A4d) (E4 A4d) (B0 A4d) .none kV21 dc21 pm21 an21 cd21 ct21), sl21⟩) (c21 : F7 K cd21 "parted_at_round" = true) (k21 : B5 K (.ref f21) = true)
  {f22 : Addr} {od22 an22 : Option Addr} {sl22 : Array (Option Value)} {oc22 kV22 dc22 pm22 cd22 ct22 : Value} (a22 : C9 K mainGlobals "parts_by" = some (some (.ref f22))) (l22 : K.lookup f22 = some ⟨oc22, od22, .func (E7 "parts_by" "parts_by" (E9 A6d) (E4 A6d) (B0 A6d) .none kV22 dc22 pm22 an22 cd22 ct22), sl22⟩) (c22 : F7 K cd22 "parts_by" = true) (k22 : B5 K (.ref f22) = true)
  {f23 : Addr} {od23 an23 : Option Addr} {sl23 : Array (Option Value)} {oc23 kV23 dc23 pm23 cd23 ct23 : Value} (a23 : C9 K mainGlobals "filling_parts" = some (some (.ref f23))) (l23 : K.lookup f23 = some ⟨oc23, od23, .func (E7 "filling_parts" "filling_parts" (E9 A6e) (E4 A6e) (B0 A6e) .none kV23 dc23 pm23 an23 cd23 ct23), sl23⟩) (c23 : F7 K cd23 "filling_parts" = true) (k23 : B5 K (.ref f23) = true)
  {f24 : Addr} {od24 an24 : Option Addr} {sl24 : Array (Option Value)} {oc24 kV24 dc24 pm24 cd24 ct24 : Value} (a24 : C9 K mainGlobals "settled" = some (some (.ref f24))) (l24 : K.lookup f24 = some ⟨oc24, od24, .func (E7 "settled" "settled" (E9 A4e) (E4 A4e) (B0 A4e) .none kV24 dc24 pm24 an24 cd24 ct24), sl24⟩) (c24 : F7 K cd24 "settled" = true) (k24 : B5 K (.ref f24) = true)
  {f25 : Addr} {od25 an25 : Option Addr} {sl25 : Array (Option Value)} {oc25 kV25 dc25 pm25 cd25 ct25 : Value} (a25 : C9 K mainGlobals "highest" = some (some (.ref f25))) (l25 : K.lookup f25 = some ⟨oc25, od25, .func (E7 "highest" "highest" (E9 A6f) (E4 A6f) (B0 A6f) .none kV25 dc25 pm25 an25 cd25 ct25), sl25⟩) (c25 : F7 K cd25 "highest" = true) (k25 : B5 K (.ref f25) = true)
  {f26 : Addr} {od26 an26 : Option Addr} {sl26 : Array (Option Value)} {oc26 kV26 dc26 pm26 cd26 ct26 : Value} (a26 : C9 K mainGlobals "trip_to" = some (some (.ref f26))) (l26 : K.lookup f26 = some ⟨oc26, od26, .func (E7 "trip_to" "trip_to" (E9 A4f) (E4 A4f) (B0 A4f) .none kV26 dc26 pm26 an26 cd26 ct26), sl26⟩) (c26 : F7 K cd26 "trip_to" = true) (k26 : B5 K (.ref f26) = true)
  {f27 : Addr} {od27 an27 : Option Addr} {sl27 : Array (Option Value)} {oc27 kV27 dc27 pm27 cd27 ct27 : Value} (a27 : C9 K mainGlobals "trips_to" = some (some (.ref f27))) (l27 : K.lookup f27 = some ⟨oc27, od27, .func (E7 "trips_to" "trips_to" (E9 A4g) (E4 A4g) (B0 A4g) .none kV27 dc27 pm27 an27 cd27 ct27), sl27⟩) (c27 : F7 K cd27 "trips_to" = true) (k27 : B5 K (.ref f27) = true)
  {f28 : Addr} {od28 an28 : Option Addr} {sl28 : Array (Option Value)} {oc28 kV28 dc28 pm28 cd28 ct28 : Value} (a28 : C9 K mainGlobals "alone" = some (some (.ref f28))) (l28 : K.lookup f28 = some ⟨oc28, od28, .func (E7 "alone" "alone" (E9 A6g) (E4 A6g) (B0 A6g) .none kV28 dc28 pm28 an28 cd28 ct28), sl28⟩) (c28 : F7 K cd28 "alone" = true) (k28 : B5 K (.ref f28) = true)
  {f29 : Addr} {od29 an29 : Option Addr} {sl29 : Array (Option Value)} {oc29 kV29 dc29 pm29 cd29 ct29 : Value} (a29 : C9 K mainGlobals "numbers_in" = some (some (.ref f29))) (l29 : K.lookup f29 = some ⟨oc29, od29, .func (E7 "numbers_in" "numbers_in" (E9 A4h) (E4 A4h) (B0 A4h) .none kV29 dc29 pm29 an29 cd29 ct29), sl29⟩) (c29 : F7 K cd29 "numbers_in" = true) (k29 : B5 K (.ref f29) = true)
  {f30 : Addr} {od30 an30 : Option Addr} {sl30 : Array (Option Value)} {oc30 kV30 dc30 pm30 cd30 ct30 : Value} (a30 : C9 K mainGlobals "level_by_spring" = some (some (.ref f30))) (l30 : K.lookup f30 = some ⟨oc30, od30, .func (E7 "level_by_spring" "level_by_spring" (E9 A6h) (E4 A6h) (B0 A6h) .none kV30 dc30 pm30 an30 cd30 ct30), sl30⟩) (c30 : F7 K cd30 "level_by_spring" = true) (k30 : B5 K (.ref f30) = true)
  {f31 : Addr} {od31 an31 : Option Addr} {sl31 : Array (Option Value)} {oc31 kV31 dc31 pm31 cd31 ct31 : Value} (a31 : C9 K mainGlobals "base_by" = some (some (.ref f31))) (l31 : K.lookup f31 = some ⟨oc31, od31, .func (E7 "base_by" "base_by" (E9 A6i) (E4 A6i) (B0 A6i) .none kV31 dc31 pm31 an31 cd31 ct31), sl31⟩) (c31 : F7 K cd31 "base_by" = true) (k31 : B5 K (.ref f31) = true)
  {f32 : Addr} {od32 an32 : Option Addr} {sl32 : Array (Option Value)} {oc32 kV32 dc32 pm32 cd32 ct32 : Value} (a32 : C9 K mainGlobals "highest_by" = some (some (.ref f32))) (l32 : K.lookup f32 = some ⟨oc32, od32, .func (E7 "highest_by" "highest_by" (E9 A6j) (E4 A6j) (B0 A6j) .none kV32 dc32 pm32 an32 cd32 ct32), sl32⟩) (c32 : F7 K cd32 "highest_by" = true) (k32 : B5 K (.ref f32) = true)
  {f33 : Addr} {od33 an33 : Option Addr} {sl33 : Array (Option Value)} {oc33 kV33 dc33 pm33 cd33 ct33 : Value} (a33 : C9 K mainGlobals "last_spring" = some (some (.ref f33))) (l33 : K.lookup f33 = some ⟨oc33, od33, .func (E7 "last_spring" "last_spring" (E9 A4i) (E4 A4i) (B0 A4i) .none kV33 dc33 pm33 an33 cd33 ct33), sl33⟩) (c33 : F7 K cd33 "last_spring" = true) (k33 : B5 K (.ref f33) = true)
  {f34 : Addr} {od34 an34 : Option Addr} {sl34 : Array (Option Value)} {oc34 kV34 dc34 pm34 cd34 ct34 : Value} (a34 : C9 K mainGlobals "trip_by" = some (some (.ref f34))) (l34 : K.lookup f34 = some ⟨oc34, od34, .func (E7 "trip_by" "trip_by" (E9 A6k) (E4 A6k) (B0 A6k) .none kV34 dc34 pm34 an34 cd34 ct34), sl34⟩) (c34 : F7 K cd34 "trip_by" = true) (k34 : B5 K (.ref f34) = true)
  {f35 : Addr} {od35 an35 : Option Addr} {sl35 : Array (Option Value)} {oc35 kV35 dc35 pm35 cd35 ct35 : Value} (a35 : C9 K mainGlobals "_law_hand" = some (some (.ref f35))) (l35 : K.lookup f35 = some ⟨oc35, od35, .func (E7 "_law_hand" "_law_hand" (E9 A6l) (E4 A6l) (B0 A6l) .none kV35 dc35 pm35 an35 cd35 ct35), sl35⟩) (c35 : F7 K cd35 "_law_hand" = true) (k35 : B5 K (.ref f35) = true)
  {f36 : Addr} {od36 an36 : Option Addr} {sl36 : Array (Option Value)} {oc36 kV36 dc36 pm36 cd36 ct36 : Value} (a36 : C9 K mainGlobals "_law_next" = some (some (.ref f36))) (l36 : K.lookup f36 = some ⟨oc36, od36, .func (E7 "_law_next" "_law_next" (E9 A6m) (E4 A6m) (B0 A6m) .none kV36 dc36 pm36 an36 cd36 ct36), sl36⟩) (c36 : F7 K cd36 "_law_next" = true) (k36 : B5 K (.ref f36) = true)
  {f37 : Addr} {od37 an37 : Option Addr} {sl37 : Array (Option Value)} {oc37 kV37 dc37 pm37 cd37 ct37 : Value} (a37 : C9 K mainGlobals "_law_take" = some (some (.ref f37))) (l37 : K.lookup f37 = some ⟨oc37, od37, .func (E7 "_law_take" "_law_take" (E9 A6n) (E4 A6n) (B0 A6n) .none kV37 dc37 pm37 an37 cd37 ct37), sl37⟩) (c37 : F7 K cd37 "_law_take" = true) (k37 : B5 K (.ref f37) = true)
  {f38 : Addr} {od38 an38 : Option Addr} {sl38 : Array (Option Value)} {oc38 kV38 dc38 pm38 cd38 ct38 : Value} (a38 : C9 K mainGlobals "_law_draw" = some (some (.ref f38))) (l38 : K.lookup f38 = some ⟨oc38, od38, .func (E7 "_law_draw" "_law_draw" (E9 A6o) (E4 A6o) (B0 A6o) .none kV38 dc38 pm38 an38 cd38 ct38), sl38⟩) (c38 : F7 K cd38 "_law_draw" = true) (k38 : B5 K (.ref f38) = true)
  {f39 : Addr} {od39 an39 : Option Addr} {sl39 : Array (Option Value)} {oc39 kV39 dc39 pm39 cd39 ct39 : Value} (a39 : C9 K mainGlobals "_law_scale" = some (some (.ref f39))) (l39 : K.lookup f39 = some ⟨oc39, od39, .func (E7 "_law_scale" "_law_scale" (E9 A6p) (E4 A6p) (B0 A6p) .none kV39 dc39 pm39 an39 cd39 ct39), sl39⟩) (c39 : F7 K cd39 "_law_scale" = true) (k39 : B5 K (.ref f39) = true)
  {f40 : Addr} {od40 an40 : Option Addr} {sl40 : Array (Option Value)} {oc40 kV40 dc40 pm40 cd40 ct40 : Value} (a40 : C9 K mainGlobals "_law_change" = some (some (.ref f40))) (l40 : K.lookup f40 = some ⟨oc40, od40, .func (E7 "_law_change" "_law_change" (E9 A6q) (E4 A6q) (B0 A6q) .none kV40 dc40 pm40 an40 cd40 ct40), sl40⟩) (c40 : F7 K cd40 "_law_change" = true) (k40 : B5 K (.ref f40) = true)
  {f41 : Addr} {od41 an41 : Option Addr} {sl41 : Array (Option Value)} {oc41 kV41 dc41 pm41 cd41 ct41 : Value} (a41 : C9 K mainGlobals "_law_store" = some (some (.ref f41))) (l41 : K.lookup f41 = some ⟨oc41, od41, .func (E7 "_law_store" "_law_store" (E9 A6r) (E4 A6r) (B0 A6r) .none kV41 dc41 pm41 an41 cd41 ct41), sl41⟩) (c41 : F7 K cd41 "_law_store" = true) (k41 : B5 K (.ref f41) = true)
  {f42 : Addr} {od42 an42 : Option Addr} {sl42 : Array (Option Value)} {oc42 kV42 dc42 pm42 cd42 ct42 : Value} (a42 : C9 K mainGlobals "_law_land" = some (some (.ref f42))) (l42 : K.lookup f42 = some ⟨oc42, od42, .func (E7 "_law_land" "_law_land" (E9 A6s) (E4 A6s) (B0 A6s) .none kV42 dc42 pm42 an42 cd42 ct42), sl42⟩) (c42 : F7 K cd42 "_law_land" = true) (k42 : B5 K (.ref f42) = true)
  {f43 : Addr} {od43 an43 : Option Addr} {sl43 : Array (Option Value)} {oc43 kV43 dc43 pm43 cd43 ct43 : Value} (a43 : C9 K mainGlobals "_law_table" = some (some (.ref f43))) (l43 : K.lookup f43 = some ⟨oc43, od43, .func (E7 "_law_table" "_law_table" (E9 A4j) (E4 A4j) (B0 A4j) .none kV43 dc43 pm43 an43 cd43 ct43), sl43⟩) (c43 : F7 K cd43 "_law_table" = true) (k43 : B5 K (.ref f43) = true)
  {f44 : Addr} {od44 an44 : Option Addr} {sl44 : Array (Option Value)} {oc44 kV44 dc44 pm44 cd44 ct44 : Value} (a44 : C9 K mainGlobals "_law_springs" = some (some (.ref f44))) (l44 : K.lookup f44 = some ⟨oc44, od44, .func (E7 "_law_springs" "_law_springs" (E9 A6t) (E4 A6t) (B0 A6t) .none kV44 dc44 pm44 an44 cd44 ct44), sl44⟩) (c44 : F7 K cd44 "_law_springs" = true) (k44 : B5 K (.ref f44) = true)
  {f45 : Addr} {od45 an45 : Option Addr} {sl45 : Array (Option Value)} {oc45 kV45 dc45 pm45 cd45 ct45 : Value} (a45 : C9 K mainGlobals "_law_spring_case" = some (some (.ref f45))) (l45 : K.lookup f45 = some ⟨oc45, od45, .func (E7 "_law_spring_case" "_law_spring_case" (E9 A6u) (E4 A6u) (B0 A6u) .none kV45 dc45 pm45 an45 cd45 ct45), sl45⟩) (c45 : F7 K cd45 "_law_spring_case" = true) (k45 : B5 K (.ref f45) = true)
  {f46 : Addr} {od46 an46 : Option Addr} {sl46 : Array (Option Value)} {oc46 kV46 dc46 pm46 cd46 ct46 : Value} (a46 : C9 K mainGlobals "_law_effect" = some (some (.ref f46))) (l46 : K.lookup f46 = some ⟨oc46, od46, .func (E7 "_law_effect" "_law_effect" (E9 A6v) (E4 A6v) (B0 A6v) .none kV46 dc46 pm46 an46 cd46 ct46), sl46⟩) (c46 : F7 K cd46 "_law_effect" = true) (k46 : B5 K (.ref f46) = true)
  {f47 : Addr} {od47 an47 : Option Addr} {sl47 : Array (Option Value)} {oc47 kV47 dc47 pm47 cd47 ct47 : Value} (a47 : C9 K mainGlobals "_law_times" = some (some (.ref f47))) (l47 : K.lookup f47 = some ⟨oc47, od47, .func (E7 "_law_times" "_law_times" (E9 A6w) (E4 A6w) (B0 A6w) .none kV47 dc47 pm47 an47 cd47 ct47), sl47⟩) (c47 : F7 K cd47 "_law_times" = true) (k47 : B5 K (.ref f47) = true)
  {f48 : Addr} {od48 an48 : Option Addr} {sl48 : Array (Option Value)} {oc48 kV48 dc48 pm48 cd48 ct48 : Value} (a48 : C9 K mainGlobals "_law_arrive" = some (some (.ref f48))) (l48 : K.lookup f48 = some ⟨oc48, od48, .func (E7 "_law_arrive" "_law_arrive" (E9 A6x) (E4 A6x) (B0 A6x) .none kV48 dc48 pm48 an48 cd48 ct48), sl48⟩) (c48 : F7 K cd48 "_law_arrive" = true) (k48 : B5 K (.ref f48) = true)
  {f49 : Addr} {od49 an49 : Option Addr} {sl49 : Array (Option Value)} {oc49 kV49 dc49 pm49 cd49 ct49 : Value} (a49 : C9 K mainGlobals "_law_arrive_by" = some (some (.ref f49))) (l49 : K.lookup f49 = some ⟨oc49, od49, .func (E7 "_law_arrive_by" "_law_arrive_by" (E9 A6y) (E4 A6y) (B0 A6y) .none kV49 dc49 pm49 an49 cd49 ct49), sl49⟩) (c49 : F7 K cd49 "_law_arrive_by" = true) (k49 : B5 K (.ref f49) = true)
  {f50 : Addr} {od50 an50 : Option Addr} {sl50 : Array (Option Value)} {oc50 kV50 dc50 pm50 cd50 ct50 : Value} (a50 : C9 K mainGlobals "_law_is_whole" = some (some (.ref f50))) (l50 : K.lookup f50 = some ⟨oc50, od50, .func (E7 "_law_is_whole" "_law_is_whole" (E9 A6z) (E4 A6z) (B0 A6z) .none kV50 dc50 pm50 an50 cd50 ct50), sl50⟩) (c50 : F7 K cd50 "_law_is_whole" = true) (k50 : B5 K (.ref f50) = true)
  {f51 : Addr} {od51 an51 : Option Addr} {sl51 : Array (Option Value)} {oc51 kV51 dc51 pm51 cd51 ct51 : Value} (a51 : C9 K mainGlobals "_law_good" = some (some (.ref f51))) (l51 : K.lookup f51 = some ⟨oc51, od51, .func (E7 "_law_good" "_law_good" (E9 A60) (E4 A60) (B0 A60) .none kV51 dc51 pm51 an51 cd51 ct51), sl51⟩) (c51 : F7 K cd51 "_law_good" = true) (k51 : B5 K (.ref f51) = true)
  {f52 : Addr} {od52 an52 : Option Addr} {sl52 : Array (Option Value)} {oc52 kV52 dc52 pm52 cd52 ct52 : Value} (a52 : C9 K mainGlobals "_law_asked" = some (some (.ref f52))) (l52 : K.lookup f52 = some ⟨oc52, od52, .func (E7 "_law_asked" "_law_asked" (E9 A61) (E4 A61) (B0 A61) .none kV52 dc52 pm52 an52 cd52 ct52), sl52⟩) (c52 : F7 K cd52 "_law_asked" = true) (k52 : B5 K (.ref f52) = true)
  {f53 : Addr} {od53 an53 : Option Addr} {sl53 : Array (Option Value)} {oc53 kV53 dc53 pm53 cd53 ct53 : Value} (a53 : C9 K mainGlobals "law" = some (some (.ref f53))) (l53 : K.lookup f53 = some ⟨oc53, od53, .func (E7 "law" "law" (E9 A1n) (E4 A1n) (B0 A1n) .none kV53 dc53 pm53 an53 cd53 ct53), sl53⟩) (c53 : F7 K cd53 "law" = true) (k53 : B5 K (.ref f53) = true)
  {tk_LEAST : Tok} (q_LEAST : C9 K mainGlobals "LEAST" = some (some (.int 0 tk_LEAST)))
  {tk_GAIN : Tok} (q_GAIN : C9 K mainGlobals "GAIN" = some (some (.int 1 tk_GAIN)))
  {tk_TOP : Tok} (q_TOP : C9 K mainGlobals "TOP" = some (some (.int 2 tk_TOP)))
  {tk_MANY : Tok} (q_MANY : C9 K mainGlobals "MANY" = some (some (.int 0 tk_MANY)))
  {tk_WAYS : Tok} (q_WAYS : C9 K mainGlobals "WAYS" = some (some (.int 1 tk_WAYS)))
  {tk_START : Tok} (q_START : C9 K mainGlobals "START" = some (some (.int 0 tk_START)))
  {tk_END : Tok} (q_END : C9 K mainGlobals "END" = some (some (.int 1 tk_END)))
  {tk_CHANGE : Tok} (q_CHANGE : C9 K mainGlobals "CHANGE" = some (some (.int 2 tk_CHANGE)))
  {tk_TABLE : Tok} (q_TABLE : C9 K mainGlobals "TABLE" = some (some (.int 0 tk_TABLE)))
  {tk_RISEN : Tok} (q_RISEN : C9 K mainGlobals "RISEN" = some (some (.int 1 tk_RISEN)))
  {tk_FROM : Tok} (q_FROM : C9 K mainGlobals "FROM" = some (some (.int 0 tk_FROM)))
  {tk_BY : Tok} (q_BY : C9 K mainGlobals "BY" = some (some (.int 1 tk_BY)))
  {tk_NUMBERS : Tok} (q_NUMBERS : C9 K mainGlobals "NUMBERS" = some (some (.int 0 tk_NUMBERS)))
  {tk_TIMES : Tok} (q_TIMES : C9 K mainGlobals "TIMES" = some (some (.int 1 tk_TIMES)))
  {tk_PLACE : Tok} (q_PLACE : C9 K mainGlobals "PLACE" = some (some (.int 0 tk_PLACE)))
  {tk_GIFT : Tok} (q_GIFT : C9 K mainGlobals "GIFT" = some (some (.int 1 tk_GIFT)))
  {tk_USE : Tok} (q_USE : C9 K mainGlobals "USE" = some (some (.str "use" tk_USE)))
  (z_abs : C9 K mainGlobals "abs" = some none)
  (z_bool : C9 K mainGlobals "bool" = some none)
  (z_enumerate : C9 K mainGlobals "enumerate" = some none)
  (z_int : C9 K mainGlobals "int" = some none)
  (z_isinstance : C9 K mainGlobals "isinstance" = some none)
  (z_len : C9 K mainGlobals "len" = some none)
  (z_list : C9 K mainGlobals "list" = some none)
  (z_max : C9 K mainGlobals "max" = some none)
  (z_min : C9 K mainGlobals "min" = some none)
  (z_range : C9 K mainGlobals "range" = some none)
  (z_reversed : C9 K mainGlobals "reversed" = some none)
  (z_tuple : C9 K mainGlobals "tuple" = some none) :
  ∃ fd : FuncData, (∀ (s : Shared) (v : Value), BindsTo s fd ⟨[v], []⟩ [("_law_script", v)]) /\ ∀ base : Heap, K.In base -> base.Ns mainGlobals mg -> D4 l.prog w K mg base CX0 13 fa fd ["_law_script"] (B0g K) := by
 have e := hfa.symm.trans (D6 X G a53)
 cases e
 let T : Txt K mg := {
  n_abs := j7 X G z_abs,
  n_bool := j7 X G z_bool,
  n_enumerate := j7 X G z_enumerate,
  n_int := j7 X G z_int,
  n_isinstance := j7 X G z_isinstance,
  n_len := j7 X G z_len,
  n_list := j7 X G z_list,
  n_max := j7 X G z_max,
  n_min := j7 X G z_min,
  n_range := j7 X G z_range,
  n_reversed := j7 X G z_reversed,
  n_tuple := j7 X G z_tuple,
  t_LEAST := tk_LEAST, mg_LEAST := D6 X G q_LEAST,
  t_GAIN := tk_GAIN, mg_GAIN := D6 X G q_GAIN,
  t_TOP := tk_TOP, mg_TOP := D6 X G q_TOP,
  t_MANY := tk_MANY, mg_MANY := D6 X G q_MANY,
  t_WAYS := tk_WAYS, mg_WAYS := D6 X G q_WAYS,
  t_START := tk_START, mg_START := D6 X G q_START,
  t_END := tk_END, mg_END := D6 X G q_END,
  t_CHANGE := tk_CHANGE, mg_CHANGE := D6 X G q_CHANGE,
  t_TABLE := tk_TABLE, mg_TABLE := D6 X G q_TABLE,
  t_RISEN := tk_RISEN, mg_RISEN := D6 X G q_RISEN,
  t_FROM := tk_FROM, mg_FROM := D6 X G q_FROM,
  t_BY := tk_BY, mg_BY := D6 X G q_BY,
  t_NUMBERS := tk_NUMBERS, mg_NUMBERS := D6 X G q_NUMBERS,
  t_TIMES := tk_TIMES, mg_TIMES := D6 X G q_TIMES,
  t_PLACE := tk_PLACE, mg_PLACE := D6 X G q_PLACE,
  t_GIFT := tk_GIFT, mg_GIFT := D6 X G q_GIFT,
  t_USE := tk_USE, mg_USE := D6 X G q_USE,
  a_is_whole := f0, d_is_whole := _, F_is_whole := F9 (st := A5u) l0 c0 k0, mg_is_whole := D6 X G a0, kp_is_whole := k0,
  a_stepped := f1, d_stepped := _, F_stepped := F9 (st := A5v) l1 c1 k1, mg_stepped := D6 X G a1, kp_stepped := k1,
  a_levels_along := f2, d_levels_along := _, F_levels_along := F9 (st := A5w) l2 c2 k2, mg_levels_along := D6 X G a2, kp_levels_along := k2,
  a_effect_of_none := f3, d_effect_of_none := _, F_effect_of_none := F9 (st := A5x) l3 c3 k3, mg_effect_of_none := D6 X G a3, kp_effect_of_none := k3,
  a_effect_of_one := f4, d_effect_of_one := _, F_effect_of_one := F9 (st := A5y) l4 c4 k4, mg_effect_of_one := D6 X G a4, kp_effect_of_one := k4,
  a_effect_of := f5, d_effect_of := _, F_effect_of := F9 (st := A5z) l5 c5 k5, mg_effect_of := D6 X G a5, kp_effect_of := k5,
  a_passed := f6, d_passed := _, F_passed := F9 (st := A50) l6 c6 k6, mg_passed := D6 X G a6, kp_passed := k6,
  a_joined := f7, d_joined := _, F_joined := F9 (st := A51) l7 c7 k7, mg_joined := D6 X G a7, kp_joined := k7,
  a_is_place := f8, d_is_place := _, F_is_place := F9 (st := A52) l8 c8 k8, mg_is_place := D6 X G a8, kp_is_place := k8,
  a_changes_of := f9, d_changes_of := _, F_changes_of := F9 (st := A4b) l9 c9 k9, mg_changes_of := D6 X G a9, kp_changes_of := k9,
  a_is_more := f10, d_is_more := _, F_is_more := F9 (st := A53) l10 c10 k10, mg_is_more := D6 X G a10, kp_is_more := k10,
  a_behind_way := f11, d_behind_way := _, F_behind_way := F9 (st := A54) l11 c11 k11, mg_behind_way := D6 X G a11, kp_behind_way := k11,
  a_first_row := f12, d_first_row := _, F_first_row := F9 (st := A55) l12 c12 k12, mg_first_row := D6 X G a12, kp_first_row := k12,
  a_row_behind := f13, d_row_behind := _, F_row_behind := F9 (st := A56) l13 c13 k13, mg_row_behind := D6 X G a13, kp_row_behind := k13,
  a_walk_to := f14, d_walk_to := _, F_walk_to := F9 (st := A57) l14 c14 k14, mg_walk_to := D6 X G a14, kp_walk_to := k14,
  a_behind_ways := f15, d_behind_ways := _, F_behind_ways := F9 (st := A58) l15 c15 k15, mg_behind_ways := D6 X G a15, kp_behind_ways := k15,
  a_behind_part := f16, d_behind_part := _, F_behind_part := F9 (st := A59) l16 c16 k16, mg_behind_part := D6 X G a16, kp_behind_part := k16,
  a_end_of := f17, d_end_of := _, F_end_of := F9 (st := A6a) l17 c17 k17, mg_end_of := D6 X G a17, kp_end_of := k17,
  a_rows_from := f18, d_rows_from := _, F_rows_from := F9 (st := A6b) l18 c18 k18, mg_rows_from := D6 X G a18, kp_rows_from := k18,
  a_still_rises := f19, d_still_rises := _, F_still_rises := F9 (st := A6c) l19 c19 k19, mg_still_rises := D6 X G a19, kp_still_rises := k19,
  a_rising_walk := f20, d_rising_walk := _, F_rising_walk := F9 (st := A4c) l20 c20 k20, mg_rising_walk := D6 X G a20, kp_rising_walk := k20,
  a_parted_at_round := f21, d_parted_at_round := _, F_parted_at_round := F9 (st := A4d) l21 c21 k21, mg_parted_at_round := D6 X G a21, kp_parted_at_round := k21,
  a_parts_by := f22, d_parts_by := _, F_parts_by := F9 (st := A6d) l22 c22 k22, mg_parts_by := D6 X G a22, kp_parts_by := k22,
  a_filling_parts := f23, d_filling_parts := _, F_filling_parts := F9 (st := A6e) l23 c23 k23, mg_filling_parts := D6 X G a23, kp_filling_parts := k23,
  a_settled := f24, d_settled := _, F_settled := F9 (st := A4e) l24 c24 k24, mg_settled := D6 X G a24, kp_settled := k24,
  a_highest := f25, d_highest := _, F_highest := F9 (st := A6f) l25 c25 k25, mg_highest := D6 X G a25, kp_highest := k25,
  a_trip_to := f26, d_trip_to := _, F_trip_to := F9 (st := A4f) l26 c26 k26, mg_trip_to := D6 X G a26, kp_trip_to := k26,
  a_trips_to := f27, d_trips_to := _, F_trips_to := F9 (st := A4g) l27 c27 k27, mg_trips_to := D6 X G a27, kp_trips_to := k27,
  a_alone := f28, d_alone := _, F_alone := F9 (st := A6g) l28 c28 k28, mg_alone := D6 X G a28, kp_alone := k28,
  a_numbers_in := f29, d_numbers_in := _, F_numbers_in := F9 (st := A4h) l29 c29 k29, mg_numbers_in := D6 X G a29, kp_numbers_in := k29,
  a_level_by_spring := f30, d_level_by_spring := _, F_level_by_spring := F9 (st := A6h) l30 c30 k30, mg_level_by_spring := D6 X G a30, kp_level_by_spring := k30,
  a_base_by := f31, d_base_by := _, F_base_by := F9 (st := A6i) l31 c31 k31, mg_base_by := D6 X G a31, kp_base_by := k31,
  a_highest_by := f32, d_highest_by := _, F_highest_by := F9 (st := A6j) l32 c32 k32, mg_highest_by := D6 X G a32, kp_highest_by := k32,
  a_last_spring := f33, d_last_spring := _, F_last_spring := F9 (st := A4i) l33 c33 k33, mg_last_spring := D6 X G a33, kp_last_spring := k33,
  a_trip_by := f34, d_trip_by := _, F_trip_by := F9 (st := A6k) l34 c34 k34, mg_trip_by := D6 X G a34, kp_trip_by := k34,
  a_hand := f35, d_hand := _, F_hand := F9 (st := A6l) l35 c35 k35, mg_hand := D6 X G a35, kp_hand := k35,
  a_next := f36, d_next := _, F_next := F9 (st := A6m) l36 c36 k36, mg_next := D6 X G a36, kp_next := k36,
  a_take := f37, d_take := _, F_take := F9 (st := A6n) l37 c37 k37, mg_take := D6 X G a37, kp_take := k37,
  a_draw := f38, d_draw := _, F_draw := F9 (st := A6o) l38 c38 k38, mg_draw := D6 X G a38, kp_draw := k38,
  a_scale := f39, d_scale := _, F_scale := F9 (st := A6p) l39 c39 k39, mg_scale := D6 X G a39, kp_scale := k39,
  a_change := f40, d_change := _, F_change := F9 (st := A6q) l40 c40 k40, mg_change := D6 X G a40, kp_change := k40,
  a_store := f41, d_store := _, F_store := F9 (st := A6r) l41 c41 k41, mg_store := D6 X G a41, kp_store := k41,
  a_land := f42, d_land := _, F_land := F9 (st := A6s) l42 c42 k42, mg_land := D6 X G a42, kp_land := k42,
  a_table := f43, d_table := _, F_table := F9 (st := A4j) l43 c43 k43, mg_table := D6 X G a43, kp_table := k43,
  a_springs := f44, d_springs := _, F_springs := F9 (st := A6t) l44 c44 k44, mg_springs := D6 X G a44, kp_springs := k44,
  a_spring_case := f45, d_spring_case := _, F_spring_case := F9 (st := A6u) l45 c45 k45, mg_spring_case := D6 X G a45, kp_spring_case := k45,
  a_effect := f46, d_effect := _, F_effect := F9 (st := A6v) l46 c46 k46, mg_effect := D6 X G a46, kp_effect := k46,
  a_times := f47, d_times := _, F_times := F9 (st := A6w) l47 c47 k47, mg_times := D6 X G a47, kp_times := k47,
  a_arrive := f48, d_arrive := _, F_arrive := F9 (st := A6x) l48 c48 k48, mg_arrive := D6 X G a48, kp_arrive := k48,
  a_arrive_by := f49, d_arrive_by := _, F_arrive_by := F9 (st := A6y) l49 c49 k49, mg_arrive_by := D6 X G a49, kp_arrive_by := k49,
  a_law_is_whole := f50, d_law_is_whole := _, F_law_is_whole := F9 (st := A6z) l50 c50 k50, mg_law_is_whole := D6 X G a50, kp_law_is_whole := k50,
  a_good := f51, d_good := _, F_good := F9 (st := A60) l51 c51 k51, mg_good := D6 X G a51, kp_good := k51,
  a_asked := f52, d_asked := _, F_asked := F9 (st := A61) l52 c52 k52, mg_asked := D6 X G a52, kp_asked := k52,
  a_law := fa, d_law := _, F_law := F9 (st := A1n) l53 c53 k53, mg_law := D6 X G a53, kp_law := k53 }
 exact ⟨E7 "law" "law" (E9 A1n) (E4 A1n) (B0 A1n) .none kV53 dc53 pm53 an53 cd53 ct53, fun s v => .of_eq rfl, fun base _ _ => C8f T⟩
end
theorem walk {l : PySem.W.OpenLaw} {q : Program} {loose : List Str} {XP : (Str -> Option Value) -> Heap -> Prop} {YP : World -> Heap -> Prop} {d : DefRec} {K : Params -> A3} (hn : l.most = some 63) (hdf : d.params.defaults = [])
  (hY : ∀ (w : World) (h : Heap), YP w h -> (K w.params).In h)
  (F : ∀ (w : World) (mg : Str -> Option Value) (fa : Addr) (h : Heap), (K w.params).In h -> h.Ns mainGlobals mg -> mg d.name = some (.ref fa) ->
   ∃ fd : FuncData, (∀ (s : Shared) (u : Value), BindsTo s fd ⟨[u], []⟩ [("_law_script", u)]) /\ ∀ base : Heap, (K w.params).In base -> base.Ns mainGlobals mg -> D4 l.prog w (K w.params) mg base CX0 13 fa fd ["_law_script"] (B0g (K w.params))) :
  PySem.W.WalkO q loose XP YP l.row.toRowW d [] (fun f vs => PySem.call f vs) :=
 L2.walk_of (n := 63) (k := 13) (x := "_law_script") (CX := fun _ => CX0) (sp := fun w => B0g (K w.params)) hn (by decide) hdf ⟨rfl, by decide, by decide, rfl⟩ hY F (fun _ _ a ns hl _ hS => ⟨a, ns, rfl, hS, hl, fun _ => rfl⟩) fun _ _ _ _ _ z => z
end My
def PySem.W.Fast.tw4805746330072478591 : Unit := ()
def PySem.W.Fast.tw1085063786491955910 : Unit := ()
def PySem.W.Fast.tw5653121512145975819 : Unit := ()
def PySem.W.Fast.tw10191234271718891711 : Unit := ()
def PySem.W.Fast.tw5040924678645755633 : Unit := ()
def PySem.W.Fast.tw15741455783141016423 : Unit := ()
def PySem.W.Fast.tw12100763596090209987 : Unit := ()
def PySem.W.Fast.tw3965841591068547941 : Unit := ()
def PySem.W.Fast.tw14674479382098620446 : Unit := ()
def PySem.W.Fast.tw10798062849367868283 : Unit := ()
def PySem.W.Fast.tw15345028121589425398 : Unit := ()
def PySem.W.Fast.tw17302105112483194382 : Unit := ()
def PySem.W.Fast.tw9247301602881133110 : Unit := ()
def PySem.W.Fast.tw3530441079303175932 : Unit := ()
def PySem.W.Fast.tw11192354004771530119 : Unit := ()
def PySem.W.Fast.tw3185304134597274649 : Unit := ()
def PySem.W.Fast.tw3293512573553151751 : Unit := ()
def PySem.W.Fast.tw9233616089510370648 : Unit := ()
def PySem.W.Fast.tw12808970680762669127 : Unit := ()
def PySem.W.Fast.tw15414698663760914124 : Unit := ()
def PySem.W.Fast.tw18296800343986050927 : Unit := ()
def PySem.W.Fast.tw17157883728089326171 : Unit := ()
def PySem.W.Fast.tw16041944237779641310 : Unit := ()
def PySem.W.Fast.tw2876068755810178925 : Unit := ()
def PySem.W.Fast.tw8110490521135600461 : Unit := ()
def PySem.W.Fast.tw7456496913287735579 : Unit := ()
def PySem.W.Fast.tw8406075200566547814 : Unit := ()
def PySem.W.Fast.tw14385088285137902418 : Unit := ()
def PySem.W.Fast.tw16112441858123226404 : Unit := ()
def PySem.W.Fast.tw9541573830822025992 : Unit := ()
open PySem PySem.W PyProof.Rows
set_option maxRecDepth 100000 in
set_option maxHeartbeats 0 in
theorem PySem.Challenge.cw_trudge_k82_whole_trips_with_springs_holds : PySem.Challenge.rw_trudge_k82_whole_trips_with_springs.Holds := by
 w_on; o_law; k_head; (case hw => w_witness2)
 k_fill
 refine My.walk (l := PySem.Challenge.rw_trudge_k82_whole_trips_with_springs) rfl rfl (fun w h Y => PySem.W.kIn_of Y) ?F
 case F =>
  intro w mg fa h KX G hmg
  refine' My.all_mk KX G hmg ?a0 ?l0 ?c0 ?k0 ?a1 ?l1 ?c1 ?k1 ?a2 ?l2 ?c2 ?k2 ?a3 ?l3 ?c3 ?k3 ?a4 ?l4 ?c4 ?k4 ?a5 ?l5 ?c5 ?k5 ?a6 ?l6 ?c6 ?k6 ?a7 ?l7 ?c7 ?k7 ?a8 ?l8 ?c8 ?k8 ?a9 ?l9 ?c9 ?k9 ?a10 ?l10 ?c10 ?k10 ?a11 ?l11 ?c11 ?k11 ?a12 ?l12 ?c12 ?k12 ?a13 ?l13 ?c13 ?k13 ?a14 ?l14 ?c14 ?k14 ?a15 ?l15 ?c15 ?k15 ?a16 ?l16 ?c16 ?k16 ?a17 ?l17 ?c17 ?k17 ?a18 ?l18 ?c18 ?k18 ?a19 ?l19 ?c19 ?k19 ?a20 ?l20 ?c20 ?k20 ?a21 ?l21 ?c21 ?k21 ?a22 ?l22 ?c22 ?k22 ?a23 ?l23 ?c23 ?k23 ?a24 ?l24 ?c24 ?k24 ?a25 ?l25 ?c25 ?k25 ?a26 ?l26 ?c26 ?k26 ?a27 ?l27 ?c27 ?k27 ?a28 ?l28 ?c28 ?k28 ?a29 ?l29 ?c29 ?k29 ?a30 ?l30 ?c30 ?k30 ?a31 ?l31 ?c31 ?k31 ?a32 ?l32 ?c32 ?k32 ?a33 ?l33 ?c33 ?k33 ?a34 ?l34 ?c34 ?k34 ?a35 ?l35 ?c35 ?k35 ?a36 ?l36 ?c36 ?k36 ?a37 ?l37 ?c37 ?k37 ?a38 ?l38 ?c38 ?k38 ?a39 ?l39 ?c39 ?k39 ?a40 ?l40 ?c40 ?k40 ?a41 ?l41 ?c41 ?k41 ?a42 ?l42 ?c42 ?k42 ?a43 ?l43 ?c43 ?k43 ?a44 ?l44 ?c44 ?k44 ?a45 ?l45 ?c45 ?k45 ?a46 ?l46 ?c46 ?k46 ?a47 ?l47 ?c47 ?k47 ?a48 ?l48 ?c48 ?k48 ?a49 ?l49 ?c49 ?k49 ?a50 ?l50 ?c50 ?k50 ?a51 ?l51 ?c51 ?k51 ?a52 ?l52 ?c52 ?k52 ?a53 ?l53 ?c53 ?k53 ?q_LEAST ?q_GAIN ?q_TOP ?q_MANY ?q_WAYS ?q_START ?q_END ?q_CHANGE ?q_TABLE ?q_RISEN ?q_FROM ?q_BY ?q_NUMBERS ?q_TIMES ?q_PLACE ?q_GIFT ?q_USE ?z_abs ?z_bool ?z_enumerate ?z_int ?z_isinstance ?z_len ?z_list ?z_max ?z_min ?z_range ?z_reversed ?z_tuple
  (case a0 => k_is); (case l0 => k_is); (case c0 => k_is); (case k0 => k_is)
  (case a1 => k_is); (case l1 => k_is); (case c1 => k_is); (case k1 => k_is)
  (case a2 => k_is); (case l2 => k_is); (case c2 => k_is); (case k2 => k_is)
  (case a3 => k_is); (case l3 => k_is); (case c3 => k_is); (case k3 => k_is)
  (case a4 => k_is); (case l4 => k_is); (case c4 => k_is); (case k4 => k_is)
  (case a5 => k_is); (case l5 => k_is); (case c5 => k_is); (case k5 => k_is)
  (case a6 => k_is); (case l6 => k_is); (case c6 => k_is); (case k6 => k_is)
  (case a7 => k_is); (case l7 => k_is); (case c7 => k_is); (case k7 => k_is)
  (case a8 => k_is); (case l8 => k_is); (case c8 => k_is); (case k8 => k_is)
  (case a9 => k_is); (case l9 => k_is); (case c9 => k_is); (case k9 => k_is)
  (case a10 => k_is); (case l10 => k_is); (case c10 => k_is); (case k10 => k_is)
  (case a11 => k_is); (case l11 => k_is); (case c11 => k_is); (case k11 => k_is)
  (case a12 => k_is); (case l12 => k_is); (case c12 => k_is); (case k12 => k_is)
  (case a13 => k_is); (case l13 => k_is); (case c13 => k_is); (case k13 => k_is)
  (case a14 => k_is); (case l14 => k_is); (case c14 => k_is); (case k14 => k_is)
  (case a15 => k_is); (case l15 => k_is); (case c15 => k_is); (case k15 => k_is)
  (case a16 => k_is); (case l16 => k_is); (case c16 => k_is); (case k16 => k_is)
  (case a17 => k_is); (case l17 => k_is); (case c17 => k_is); (case k17 => k_is)
  (case a18 => k_is); (case l18 => k_is); (case c18 => k_is); (case k18 => k_is)
  (case a19 => k_is); (case l19 => k_is); (case c19 => k_is); (case k19 => k_is)
  (case a20 => k_is); (case l20 => k_is); (case c20 => k_is); (case k20 => k_is)
  (case a21 => k_is); (case l21 => k_is); (case c21 => k_is); (case k21 => k_is)
  (case a22 => k_is); (case l22 => k_is); (case c22 => k_is); (case k22 => k_is)
  (case a23 => k_is); (case l23 => k_is); (case c23 => k_is); (case k23 => k_is)
  (case a24 => k_is); (case l24 => k_is); (case c24 => k_is); (case k24 => k_is)
  (case a25 => k_is); (case l25 => k_is); (case c25 => k_is); (case k25 => k_is)
  (case a26 => k_is); (case l26 => k_is); (case c26 => k_is); (case k26 => k_is)
  (case a27 => k_is); (case l27 => k_is); (case c27 => k_is); (case k27 => k_is)
  (case a28 => k_is); (case l28 => k_is); (case c28 => k_is); (case k28 => k_is)
  (case a29 => k_is); (case l29 => k_is); (case c29 => k_is); (case k29 => k_is)
  (case a30 => k_is); (case l30 => k_is); (case c30 => k_is); (case k30 => k_is)
  (case a31 => k_is); (case l31 => k_is); (case c31 => k_is); (case k31 => k_is)
  (case a32 => k_is); (case l32 => k_is); (case c32 => k_is); (case k32 => k_is)
  (case a33 => k_is); (case l33 => k_is); (case c33 => k_is); (case k33 => k_is)
  (case a34 => k_is); (case l34 => k_is); (case c34 => k_is); (case k34 => k_is)
  (case a35 => k_is); (case l35 => k_is); (case c35 => k_is); (case k35 => k_is)
  (case a36 => k_is); (case l36 => k_is); (case c36 => k_is); (case k36 => k_is)
  (case a37 => k_is); (case l37 => k_is); (case c37 => k_is); (case k37 => k_is)
  (case a38 => k_is); (case l38 => k_is); (case c38 => k_is); (case k38 => k_is)
  (case a39 => k_is); (case l39 => k_is); (case c39 => k_is); (case k39 => k_is)
  (case a40 => k_is); (case l40 => k_is); (case c40 => k_is); (case k40 => k_is)
  (case a41 => k_is); (case l41 => k_is); (case c41 => k_is); (case k41 => k_is)
  (case a42 => k_is); (case l42 => k_is); (case c42 => k_is); (case k42 => k_is)
  (case a43 => k_is); (case l43 => k_is); (case c43 => k_is); (case k43 => k_is)
  (case a44 => k_is); (case l44 => k_is); (case c44 => k_is); (case k44 => k_is)
  (case a45 => k_is); (case l45 => k_is); (case c45 => k_is); (case k45 => k_is)
  (case a46 => k_is); (case l46 => k_is); (case c46 => k_is); (case k46 => k_is)
  (case a47 => k_is); (case l47 => k_is); (case c47 => k_is); (case k47 => k_is)
  (case a48 => k_is); (case l48 => k_is); (case c48 => k_is); (case k48 => k_is)
  (case a49 => k_is); (case l49 => k_is); (case c49 => k_is); (case k49 => k_is)
  (case a50 => k_is); (case l50 => k_is); (case c50 => k_is); (case k50 => k_is)
  (case a51 => k_is); (case l51 => k_is); (case c51 => k_is); (case k51 => k_is)
  (case a52 => k_is); (case l52 => k_is); (case c52 => k_is); (case k52 => k_is)
  (case a53 => k_is); (case l53 => k_is); (case c53 => k_is); (case k53 => k_is)
  (case q_LEAST => k_is); (case q_GAIN => k_is); (case q_TOP => k_is); (case q_MANY => k_is); (case q_WAYS => k_is); (case q_START => k_is); (case q_END => k_is); (case q_CHANGE => k_is); (case q_TABLE => k_is); (case q_RISEN => k_is); (case q_FROM => k_is); (case q_BY => k_is); (case q_NUMBERS => k_is); (case q_TIMES => k_is); (case q_PLACE => k_is); (case q_GIFT => k_is); (case q_USE => k_is)
  (case z_abs => k_is); (case z_bool => k_is); (case z_enumerate => k_is); (case z_int => k_is); (case z_isinstance => k_is); (case z_len => k_is); (case z_list => k_is); (case z_max => k_is); (case z_min => k_is); (case z_range => k_is); (case z_reversed => k_is); (case z_tuple => k_is)
