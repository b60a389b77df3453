import PyProof.Rows.All
import Wide.All
import OpenK.AllK
import Wide.FinOn
import Lean
import PyProof.EqAt
import PyProof.EqKinds
import PyProof.NeData
import PyProof.TupleCall
import KE.KRevIter
import KE.KRevSl
import PyProof.MinMaxWalk
import PyProof.ZipIter
import PyProof.Rows.Range3
import PyProof.Rows.CallKwBuiltin
import PyProof.DictWalks
import PyProof.ReprRoads
import PyProof.ReprLen
import PyProof.CallFns
import KE.KEqDict
import PyProof.P3In
import PyProof.MeetsDictList
import PyProof.Cells
import PySem.Challenge.RW_trudge_k84_spring_lids_read
set_option Elab.async false
set_option linter.all false
set_option maxRecDepth 100000
set_option genInjectivity false
set_option genSizeOf false
open _root_.PySem.W renaming Frag->A4, keepIn->B5, nsIn->C7, mg_of->D7, fnOf->E5, codeIn->F4, mg_none_of->W2, kia_one->j2, kitOne->A4n, kitCls->B31
open _root_.List renaming mem_cons_of_mem->A9, mem_cons_self->B4, replicate->D8, length_map->E4, getElem?_eq_getElem->J5, mem_cons->K1, length_set->L9, nil_append->M0, length_cons->M1, length_append->M7, getElem?_map->N1, mem_of_getElem?->N3, size_toArray->O1, range->P6, mem_map->S2, getElem?_set_ne->S7, mem_append_right->S8, getElem?_eq_none->U5, mem_range->X4, mem_append->X5, getElem?_append_right->Z0, getElem?_set->Z2, append_nil->d5, getElem?_append_left->d6, length_range->d7, map_append->d8, replicate_succ->j3, append_assoc->j4, map_map->j5, map_cons->o8, all_eq_true->o9, mem_iff_getElem->p5, map_take->p6, nodup_cons->A0k, mem_singleton->A0l, getElem?_eq_some_iff->A1z, length_take->A10, length_replicate->A11, eq_nil_of_length_eq_zero->A13, flatten_cons->A4p, sum_cons->A4q, lookup_cons->A76, length_reverse->A77, drop_eq_getElem_cons->A78, cons_append->A79, getElem?_cons_succ->A8a, map_set->A8b, mem_filter->A83, mem_append_left->A84, getElem?_replicate->A86, mem_zipIdx_iff_getElem?->A88, tail_cons->A89, tail_nil->A9a, getElem?_cons_zero->A9b, set_cons_zero->A9c, set_cons_succ->A9d, length_nil->A9e, length->B0z, all_cons->B01, idxOf_lt_length_iff->B03, drop_length->B04, length_zip->B05, getElem?_set_self->B3w, length_drop->B3x, length_singleton->B3y, set_append_right->B30, reverse_cons->B32, ext_getElem?->B33, take_of_length_le->B34, nodup_nil->B35, mem_or_eq_of_mem_set->B38, filterMap_cons->B9i, contains_eq_mem->B9k, getElem_idxOf->B9m, getElem?_range->B9n, length_zipIdx->B9o, map_replicate->B9p
open _root_.Or renaming inl->B3
open _root_.Nat renaming le_refl->F6, zero_le->M8, ne_of_lt->N0, lt_or_ge->P8, lt_of_lt_of_le->Q5, lt_irrefl->V3, le_trans->Y9, le_of_lt->A0j, le_succ->A12, not_lt_zero->A4t, min_eq_left->A87, ne_of_gt->B0y
open _root_.PySem.Heap renaming lt_size->G8, get?_push_of_some->S1, get?_push_size->W1, get?_update_other->B9j
open _root_.PySem.PassesOwn renaming never->N4
open _root_.Bool renaming and_eq_true->P7, false_ne_true->S0, eq_iff_iff->A75, not_true->A9h, not_false->A9i, true_and->A9j, not_eq_true'->B02, false_eq_true->B3z, eq_false_iff->B36
open _root_.Int renaming toNat_natCast->Z1, le_refl->B06, emod_nonneg->B07, emod_lt_of_pos->B37, natCast_pow->B39
open _root_.PySem.F renaming plainAttrs_list->A0m, slot_list_append->A4r, type_list_append->A4s, slot_list_index->B9l
open _root_.PySem.Obj renaming mapSeq->A4o
open _root_.Array renaming length_toList->A85
open _root_.Option renaming bind_some->A9f, map_some->A9g
open _root_.PySem renaming mem_of_lookup->B00
namespace L2
open PySem PySem.Spec PyProof.Rows
theorem el3 {α β γ : Type} {R T K : α -> β -> γ -> Prop} {p : Prop} (h : ∃ a b c, R a b c /\ T a b c /\ K a b c) (f : ∀ a b c, R a b c -> T a b c -> K a b c -> p) : p := h.elim fun a h => h.elim fun b h => h.elim fun c h => f a b c h.1 h.2.1 h.2.2
theorem el5 {α β : Type} {R T K : α -> β -> Prop} {p : Prop} (h : ∃ a b, R a b /\ T a b /\ K a b) (f : ∀ a b, R a b -> T a b -> K a b -> p) : p := h.elim fun a h => h.elim fun b h => f a b h.1 h.2.1 h.2.2
theorem el2 {α : Type} {A B : α -> Prop} {p : Prop} (h : ∃ a, A a /\ B a) (f : ∀ a, A a -> B a -> p) : p := h.elim fun a h => f a h.1 h.2
abbrev Key := Sum Int Str
def B4a : Key -> Value -> Bool
 | .inl k, v => Value.isInt k v
 | .inr x, v => Value.isStrOf x v
def B9q (w : World) : Key -> Int
 | .inl k => hashInt k
 | .inr x => hashStr w x
theorem p7 : ∀ {k : Key} {v : Value}, B4a k v = true -> (∃ i t, k = Sum.inl i /\ v = Value.int i t) \/ (∃ x t, k = Sum.inr x /\ v = Value.str x t)
 | .inl i, v, h => by
  obtain ⟨t, e⟩ := Value.isInt_shape (k := i) (v := v) h
  exact .inl ⟨i, t, rfl, e⟩
 | .inr x, v, h => by
  obtain ⟨t, e⟩ := Value.isStrOf_shape (x := x) (v := v) h
  exact .inr ⟨x, t, rfl, e⟩
theorem B9r (a b : Int) : decide ((Sum.inl a : Key) = Sum.inl b) = (a == b) := by
 by_cases e : a = b
 ·subst e; simp
 ·have h : ¬ (Sum.inl a : Key) = Sum.inl b := fun q => e (Sum.inl.inj q)
  rw [decide_eq_false h]
  exact (beq_eq_false_iff_ne.mpr e).symm
theorem B9s (a b : Str) : decide ((Sum.inr a : Key) = Sum.inr b) = decide (a = b) := by
 by_cases e : a = b
 ·subst e; simp
 ·have h : ¬ (Sum.inr a : Key) = Sum.inr b := fun q => e (Sum.inr.inj q)
  rw [decide_eq_false h, decide_eq_false e]
theorem B9t (a : Int) (b : Str) : decide ((Sum.inl a : Key) = Sum.inr b) = false := decide_eq_false (fun q => nomatch q)
theorem B9u (a : Str) (b : Int) : decide ((Sum.inr a : Key) = Sum.inl b) = false := decide_eq_false (fun q => nomatch q)
def B4b (prog : Program) (w : World) : PySem.KeyKind prog w Key where
 is := B4a
 hash := B9q w
 inj := fun v a b ha hb => by
  rcases p7 ha with ⟨i, t, rfl, rfl⟩ | ⟨x, t, rfl, rfl⟩
  ·rcases p7 hb with ⟨j, u, rfl, e⟩ | ⟨y, u, rfl, e⟩
   ·injection e with e1 _; rw [e1]
   ·exact nomatch e
  ·rcases p7 hb with ⟨j, u, rfl, e⟩ | ⟨y, u, rfl, e⟩
   ·exact nomatch e
   ·injection e with e1 _; rw [e1]
 byValue := fun k v h => by
  rcases p7 h with ⟨i, t, rfl, rfl⟩ | ⟨x, t, rfl, rfl⟩ <;> rfl
 pyHash := fun hv h => by
  rcases p7 hv with ⟨i, t, rfl, rfl⟩ | ⟨x, t, rfl, rfl⟩
  ·exact wpAny_pyHash_int h
  ·exact wpAny_pyHash_str h
 eqBool := fun hu hv h => by
  rcases p7 hu with ⟨i, t, rfl, rfl⟩ | ⟨x, t, rfl, rfl⟩
  ·rcases p7 hv with ⟨j, u, rfl, rfl⟩ | ⟨y, u, rfl, rfl⟩
   ·rw [B9r] at h; exact wpAny_eqBool_int h
   ·rw [B9t] at h; exact SeqAt.EqAt.int_str i t y u _ _ _ _ h
  ·rcases p7 hv with ⟨j, u, rfl, rfl⟩ | ⟨y, u, rfl, rfl⟩
   ·rw [B9u] at h; exact SeqAt.EqAt.str_int x t j u _ _ _ _ h
   ·rw [B9s] at h; exact wpAny_eqBool_str h
 «strs» := fun k x t v h => by
  rcases p7 h with ⟨i, u, rfl, e⟩ | ⟨y, u, rfl, e⟩
  ·exact nomatch e
  ·injection e with e1 _
   subst e1
   cases v <;> rfl
end L2
namespace L2
open PySem PySem.Spec PyProof.Rows
set_option genInjectivity true in
inductive V where
 | non | bl (b : Bool) | int (i : Int) | str (x : Str) | byt (b : Array UInt8) | flt (b : UInt64) | ref (a : Addr) | ty (n : String)
 deriving DecidableEq
def F7 : V -> Value -> Prop
 | .non, u => u = Value.none
 | .bl b, u => u = Value.bool b
 | .int i, u => ∃ t, u = Value.int i t
 | .str x, u => ∃ t, u = Value.str x t
 | .byt b, u => ∃ t, u = Value.bytes b t
 | .flt b, u => ∃ t, u = Value.float b t
 | .ref a, u => u = Value.ref a
 | .ty n, u => u = Value.type n
abbrev D5 : List V -> List Value -> Prop := Paired F7
theorem D5.length {xs : List V} {us : List Value} (r : D5 xs us) : xs.length = us.length := Paired.length r
theorem D5.get : ∀ {xs : List V} {us : List Value} {i : Nat} {x : V}, D5 xs us -> xs[i]? = some x -> ∃ u, us[i]? = some u /\ F7 x u
 | _, _, _, _, .nil, e => by simp at e
 | _, _, 0, _, .cons r _, e => by simp at e; subst e; exact ⟨_, rfl, r⟩
 | _, _, i + 1, x, .cons _ t, e => by
  obtain ⟨u, h1, h2⟩ := D5.get (i := i) (x := x) t (by simpa using e)
  exact ⟨u, by simpa using h1, h2⟩
theorem D5.set {x : V} {u : Value} (r : F7 x u) : ∀ {xs : List V} {us : List Value} (i : Nat), D5 xs us -> D5 (xs.set i x) (us.set i u)
 | _, _, _, .nil => .nil
 | _, _, 0, .cons _ t => .cons r t
 | _, _, i + 1, .cons q t => .cons q (D5.set r i t)
theorem D5.append {xs ys : List V} {us ws : List Value} (h : D5 xs us) (s : D5 ys ws) : D5 (xs ++ ys) (us ++ ws) := by
 induction h with
 | nil => exact s
 | cons r t ih => exact .cons r ih
theorem D5.take : ∀ {xs : List V} {us : List Value} (n : Nat), D5 xs us -> D5 (xs.take n) (us.take n)
 | _, _, 0, _ => .nil
 | _, _, _ + 1, .nil => .nil
 | _, _, n + 1, .cons r t => .cons r (D5.take n t)
theorem D5.drop : ∀ {xs : List V} {us : List Value} (n : Nat), D5 xs us -> D5 (xs.drop n) (us.drop n)
 | _, _, 0, r => r
 | _, _, _ + 1, .nil => .nil
 | _, _, n + 1, .cons _ t => D5.drop n t
def B08 : Option V -> Option Value -> Prop
 | some v, some u => F7 v u
 | none, none => True
 | _, _ => False
def KV {κ : Type} : List (κ × V) -> List (κ × Value) -> Prop := Paired fun (p : κ × V) (q : κ × Value) => p.1 = q.1 /\ F7 p.2 q.2
def kV : Key -> V
 | .inl i => .int i
 | .inr x => .str x
inductive HO where
 | lst (xs : List V)
 | tup (xs : List V)
 | dK (kvs : List (Key × V)) | dT (kvs : List (List Key × V))
 | set (S : Int -> Bool) (n : Nat)
 | ins (C dx : Addr) (fs : List (Str × V))
 | own (x : Addr)
 | xd (fs : List (Str × V))
 | met (f x : Addr)
 | rng (lo hi : Int)
 | frz (o : Obj) (u : HO)
 | tbl (ps : Array Value)
 | ext (φ : Heap -> Prop)
abbrev Hp := Addr -> Option HO
def upd (H : Hp) (a : Addr) (o : HO) : Hp := fun b => if b = a then some o else H b
theorem K2 {H : Hp} {a : Addr} {o : HO} : upd H a o a = some o := by unfold upd; rw [if_pos rfl]
theorem C4 {H : Hp} {a b : Addr} {o : HO} (h : b ≠ a) : upd H a o b = H b := by unfold upd; rw [if_neg h]
theorem B9v {H : Hp} {a b : Addr} {o u : HO} (h : H a = some o) (h' : H b = some u) (d : o ≠ u) : a ≠ b := by
 intro e; subst e; rw [h] at h'; exact d (Option.some.inj h')
theorem Z3 {H : Hp} {a b : Addr} {o : HO} (h : H a = some o) (h' : H b = none) : a ≠ b := by
 intro e; subst e; rw [h] at h'; cases h'
section
variable (P : Program) (w : World)
def O4 (H : Hp) (h : Heap) (a : Addr) : HO -> Prop
 | .lst xs => xs.length <= sizeLine /\ ∃ (its : List Value) (n : Nat), D5 xs its /\ h.get? a = some { cls := .type "list", data := .seq its.toArray n }
 | .tup xs => xs.length <= sizeLine /\ ∃ its : List Value, D5 xs its /\ IsTup h a its.toArray
 | .dK kvs => kvs.length <= sizeLine /\ (a == sysModules) = false /\ ∃ vs, KV kvs vs /\ h.DictOf (B4b P w) a vs
 | .dT kvs => kvs.length <= sizeLine /\ (a == sysModules) = false /\ ∃ xs : List (List Key × Addr × Value),
   Paired (fun (p : List Key × V) (q : List Key × Addr × Value) => p.1 = q.1 /\ H q.2.1 = some (.tup (p.1.map kV)) /\ F7 p.2 q.2.2) kvs xs /\
   ∃ o es ep, h.get? a = some o /\ o.ExactDict /\ o.data = .dict es ep /\ es.toList = xs.map (entryOfKey (tupleKind (B4b P w))) /\ (xs.map (·.1)).Nodup
 | .set S n => h.SetOf (intKind P w) a S n
 | .ins C dx fs => H dx = some (.own a) /\ fs.length <= 1000 /\ dx ≠ a /\ h.get? a = some (PySem.W.instObj C dx) /\
   ∃ mA, h.Ns1 dx mA /\ (∀ f, B08 (fs.lookup f) (mA f)) /\ PySem.Within mA (fs.map (·.1))
 | .own _ => ∃ o, h.get? a = some o
 | .xd fs => ∃ mA, h.Ns1 a mA /\ ∀ f, B08 (fs.lookup f) (mA f)
 | .rng lo hi => ∃ t u v, h.get? a = some { cls := .type "range", data := .fields #[.int lo t, .int hi u, .int 1 v] }
 | .frz o u => h.get? a = some o /\ O4 H h a u
 | .tbl ps => h.get? a = some { cls := .none, data := .fields ps }
 | .met f x => h.get? a = some (PySem.W.methodObj (.ref f) (.ref x))
 | .ext φ => φ h /\ (∃ o, h.get? a = some o) /\ ∀ h1 h2 : Heap, φ h1 -> (∀ o, h1.get? a = some o -> h2.get? a = some o) -> φ h2
def HOk (H : Hp) (h : Heap) : Prop := ∀ a o, H a = some o -> O4 P w H h a o
end
section
variable {P : Program} {w : World} {H H' : Hp} {h h' : Heap} {a : Addr} {o : HO}
theorem O4.lt (x : O4 P w H h a o) : a < h.objs.size := by
 cases o with
 | lst xs => obtain ⟨_, _, _, _, e⟩ := x; exact G8 e
 | tup xs => obtain ⟨_, _, _, p⟩ := x; exact p.lt
 | dK kvs => obtain ⟨_, _, _, _, o, _, _, e, _⟩ := x; exact G8 e
 | dT kvs => obtain ⟨_, _, _, _, o, _, _, e, _⟩ := x; exact G8 e
 | set S n => obtain ⟨o, _, _, _, e, _⟩ := x; exact G8 e
 | ins C dx fs => obtain ⟨_, _, _, e, _⟩ := x; exact G8 e
 | own y => obtain ⟨_, e⟩ := x; exact G8 e
 | xd fs => obtain ⟨_, ⟨_, _, _, e, _⟩, _⟩ := x; exact G8 e
 | rng lo hi => obtain ⟨_, _, _, e⟩ := x; exact G8 e
 | frz ob u => obtain ⟨e, _⟩ := x; exact G8 e
 | tbl ps => exact G8 (show h.get? a = some _ from x)
 | met f y => exact G8 (show h.get? a = some _ from x)
 | ext φ => obtain ⟨_, ⟨_, e⟩, _⟩ := x; exact G8 e
theorem Paired.mapP {α β : Type} {F G : α -> β -> Prop} {l₁ : List α} {l₂ : List β} (h : Paired F l₁ l₂) (f : ∀ a b, F a b -> G a b) : Paired G l₁ l₂ := by
 induction h with
 | nil => exact .nil
 | cons r t ih => exact .cons (f _ _ r) ih
theorem O4.stay (x : O4 P w H h a o) (k : ∀ b u, (b = a \/ H b = some (.own a)) -> h.get? b = some u -> h'.get? b = some u)
  (ho : ∀ b, H b = some (.own a) -> H' b = some (.own a)) (ht : ∀ b xs, H b = some (.tup xs) -> H' b = some (.tup xs)) : O4 P w H' h' a o := by
 induction o with
 | lst xs => obtain ⟨z, its, n, r, e⟩ := x; exact ⟨z, its, n, r, k _ _ (.inl rfl) e⟩
 | tup xs => obtain ⟨z, its, r, ob, e, c⟩ := x; exact ⟨z, its, r, ob, k _ _ (.inl rfl) e, c⟩
 | dK kvs => obtain ⟨z, y, vs, r, ob, es, ep, e, c⟩ := x; exact ⟨z, y, vs, r, ob, es, ep, k _ _ (.inl rfl) e, c⟩
 | dT kvs =>
  obtain ⟨z, y, xs, r, ob, es, ep, e, c⟩ := x
  exact ⟨z, y, xs, Paired.mapP r fun p q z => ⟨z.1, ht _ _ z.2.1, z.2.2⟩, ob, es, ep, k _ _ (.inl rfl) e, c⟩
 | set S n => obtain ⟨ob, es, ep, t, e, c⟩ := x; exact ⟨ob, es, ep, t, k _ _ (.inl rfl) e, c⟩
 | ins C dx fs =>
  obtain ⟨d, z, ne, e, mA, ⟨od, es, ep, e2, c⟩, r⟩ := x
  exact ⟨ho _ d, z, ne, k _ _ (.inl rfl) e, mA, ⟨od, es, ep, k _ _ (.inr d) e2, c⟩, r⟩
 | own y => obtain ⟨ob, e⟩ := x; exact ⟨ob, k _ _ (.inl rfl) e⟩
 | xd fs => obtain ⟨mA, ⟨od, es, ep, e, c⟩, r⟩ := x; exact ⟨mA, ⟨od, es, ep, k _ _ (.inl rfl) e, c⟩, r⟩
 | rng lo hi => obtain ⟨t, u, v, e⟩ := x; exact ⟨t, u, v, k _ _ (.inl rfl) e⟩
 | frz ob u ih => obtain ⟨e, q⟩ := x; exact ⟨k _ _ (.inl rfl) e, ih q⟩
 | tbl ps =>
  have e : h.get? a = some { cls := .none, data := .fields ps } := x
  show h'.get? a = some { cls := .none, data := .fields ps }
  exact k a _ (.inl rfl) e
 | met f y =>
  have e : h.get? a = some (PySem.W.methodObj (.ref f) (.ref y)) := x
  show h'.get? a = some (PySem.W.methodObj (.ref f) (.ref y))
  exact k a _ (.inl rfl) e
 | ext φ => obtain ⟨p, ⟨o, e⟩, st⟩ := x; exact ⟨st _ _ p fun o q => k _ _ (.inl rfl) q, ⟨o, k _ _ (.inl rfl) e⟩, st⟩
theorem HOk.lt (x : HOk P w H h) (e : H a = some o) : a < h.objs.size := (x a o e).lt
theorem HOk.fresh (x : HOk P w H h) (e : h.objs.size <= a) : H a = none := by
 cases q : H a with
 | none => rfl
 | some u => exact absurd (Q5 (x.lt q) e) (V3 _)
theorem HOk.kept (x : HOk P w H h) (k : ∀ b u, h.get? b = some u -> h'.get? b = some u) : HOk P w H h' := fun a o e =>
 (x a o e).stay (fun b u _ q => k b u q) (fun _ q => q) fun _ _ q => q
theorem HOk.laid (x : HOk P w H h) (k : ∀ b u, h.get? b = some u -> h'.get? b = some u) (hp : h.objs.size <= a) (new : O4 P w (upd H a o) h' a o) : HOk P w (upd H a o) h' := fun b u e => by
 have hn := x.fresh hp
 by_cases hb : b = a
 ·subst hb; rw [K2] at e; cases e; exact new
 ·rw [C4 hb] at e
  exact (x b u e).stay (fun c v _ q => k c v q) (fun c q => by rw [C4 (Z3 q hn)]; exact q) fun c xs q => by rw [C4 (Z3 q hn)]; exact q
end
def Rd (H : Hp) (a : Addr) (u : HO) : Prop := H a = some u \/ ∃ o, H a = some (.frz o u)
theorem Rd.ok {P : Program} {w : World} {H : Hp} {h : Heap} {a : Addr} {u : HO} (r : Rd H a u) (x : HOk P w H h) : O4 P w H h a u := by
 rcases r with r | ⟨o, r⟩
 ·exact x a u r
 ·obtain ⟨_, q⟩ := x a _ r
  exact q
def Mut : Option HO -> Prop
 | some (.lst _) => True
 | some (.dK _) => True
 | some (.dT _) => True
 | some (.set _ _) => True
 | some (.ins _ _ _) => True
 | some (.ext _) => True
 | _ => False
section
variable {P : Program} {w : World} {H : Hp} {h h' : Heap} {x e : Addr} {o' : HO}
theorem HOk.write (ok : HOk P w H h) (mu : Mut (H x)) (he : e = x \/ H e = some (.own x)) (k : ∀ b u, b ≠ e -> h.get? b = some u -> h'.get? b = some u) (heo : ∃ u, h'.get? e = some u)
  (new : O4 P w (upd H x o') h' x o') : HOk P w (upd H x o') h' := fun b u q => by
 have nown : ∀ c y, H c = some (.own y) -> c ≠ x := fun c y r z => by subst z; rw [r] at mu; exact mu
 have ntup : ∀ c xs, H c = some (.tup xs) -> c ≠ x := fun c xs r z => by subst z; rw [r] at mu; exact mu
 by_cases hb : b = x
 ·subst hb; rw [K2] at q; cases q; exact new
 ·rw [C4 hb] at q
  by_cases hbe : b = e
  ·have q' : H b = some (.own x) := by
    rcases he with z | z
    ·exact absurd (hbe.trans z) hb
    ·rw [hbe]; exact z
   rw [q] at q'; cases q'
   obtain ⟨v, hv⟩ := heo
   exact ⟨v, by rw [hbe]; exact hv⟩
  ·refine (ok b u q).stay (fun c v hc r => k c v ?_ r) (fun c r => by rw [C4 (nown c b r)]; exact r) fun c xs r => by rw [C4 (ntup c xs r)]; exact r
   rcases hc with rfl | hc
   ·exact hbe
   ·rintro rfl
    rcases he with z | z
    ·exact nown c b hc z
    ·rw [hc] at z; cases z; exact hb rfl
end
structure Un (fs ex : List Addr) (H H' : Hp) (h h' : Heap) : Prop where
 keep : ∀ b o, h.get? b = some o -> H b = none -> b ∉ fs -> b ∉ ex -> h'.get? b = some o
 slot : ∀ b o, h.get? b = some o -> H b = none -> b ∈ fs -> b ∉ ex -> ∃ sl, h'.get? b = some { o with slots := sl }
 free : ∀ b o, h.get? b = some o -> H b = none -> b ∉ ex -> H' b = none
 there : ∀ b o, h.get? b = some o -> b ∉ ex -> ∃ o', h'.get? b = some o'
 tups : ∀ b xs, H b = some (.tup xs) -> H' b = some (.tup xs)
 frzs : ∀ b o u, H b = some (.frz o u) -> H' b = some (.frz o u)
 tbls : ∀ b ps, H b = some (.tbl ps) -> ∃ more, H' b = some (.tbl (ps ++ more))
section
variable {fs fs' ex ex' : List Addr} {H H1 H2 : Hp} {h h1 h2 h' : Heap} {a x e : Addr} {o : HO}
theorem Un.any (u : Un fs ex H H1 h h1) {b : Addr} {ob : Obj} (q : h.get? b = some ob) (n : H b = none) (hx : b ∉ ex) : ∃ sl, h1.get? b = some { ob with slots := sl } := by
 by_cases hb : b ∈ fs
 ·exact u.slot b ob q n hb hx
 ·exact ⟨ob.slots, u.keep b ob q n hb hx⟩
theorem Un.kept (k : ∀ b u, h.get? b = some u -> h'.get? b = some u) : Un fs ex H H h h' :=
 ⟨fun b ob q _ _ _ => k b ob q, fun b ob q _ _ _ => ⟨ob.slots, k b ob q⟩, fun _ _ _ n _ => n, fun b ob q _ => ⟨ob, k b ob q⟩, fun _ _ q => q, fun _ _ _ q => q, fun _ ps q => ⟨#[], by rw [q]; simp⟩⟩
theorem Un.refl : Un fs ex H H h h := Un.kept fun _ _ q => q
theorem Un.laid (k : ∀ b u, h.get? b = some u -> h'.get? b = some u) (hp : h.objs.size <= a) (hn : H a = none) : Un fs ex H (upd H a o) h h' where
 keep := fun b u q _ _ _ => k b u q
 slot := fun b u q _ _ _ => ⟨u.slots, k b u q⟩
 free := fun b u q n _ => by rw [C4 (N0 (Q5 (G8 q) hp))]; exact n
 there := fun b u q _ => ⟨u, k b u q⟩
 tups := fun b xs q => by rw [C4 (Z3 q hn)]; exact q
 frzs := fun b u xs q => by rw [C4 (Z3 q hn)]; exact q
 tbls := fun b ps q => ⟨#[], by rw [C4 (Z3 q hn), q]; simp⟩
theorem Un.write (mu : Mut (H x)) (he : e = x \/ H e = some (.own x)) (k : ∀ b u, b ≠ e -> h.get? b = some u -> h'.get? b = some u) (heo : ∃ u, h'.get? e = some u) : Un fs ex H (upd H x o) h h' := by
 have hx : ∀ b, H b = none -> b ≠ x := fun b n z => by subst z; rw [n] at mu; exact mu
 have hb : ∀ b, H b = none -> b ≠ e := fun b n z => by
  subst z
  rcases he with r | r
  ·exact hx b n r
  ·rw [n] at r; cases r
 have hm : ∀ b u, H b = some u -> ¬ Mut (some u) -> b ≠ x := fun b u q nm z => by subst z; rw [q] at mu; exact nm mu
 refine ⟨fun b u q n _ _ => k b u (hb b n) q, fun b u q n _ _ => ⟨u.slots, k b u (hb b n) q⟩, fun b u q n _ => by rw [C4 (hx b n)]; exact n, fun b u q _ => ?_,
  fun b xs q => by rw [C4 (hm b _ q fun z => z)]; exact q, fun b u xs q => by rw [C4 (hm b _ q fun z => z)]; exact q, fun b ps q => ⟨#[], by rw [C4 (hm b _ q fun z => z), q]; simp⟩⟩
 by_cases hbe : b = e
 ·subst hbe; exact heo
 ·exact ⟨u, k b u hbe q⟩
end
def trk (h : Heap) (H : Hp) : List Addr := (P6 h.objs.size).filter fun a => (H a).isSome
def p8 (h : Heap) (H : Hp) : Heap := PySem.W.hideAll h (trk h H)
theorem B9w (h : Heap) (H : Hp) : (p8 h H).objs.size = h.objs.size := PySem.W.hideAll_size _ _
theorem B9x {h : Heap} {H : Hp} {b : Addr} {o : Obj} (e : h.get? b = some o) (n : H b = none) : (p8 h H).get? b = some o :=
 PySem.W.hideAll_get _ e fun hm => by
  have q : (H b).isSome = true := (A83.mp hm).2
  rw [n] at q; simp at q
theorem B9y {h : Heap} {H : Hp} {b : Addr} {o : Obj} (e : (p8 h H).get? b = some o) : h.get? b = some o /\ H b = none := by
 have e' : h.get? b = some o := PySem.W.of_hideAll (trk h H) e
 refine ⟨e', ?_⟩
 cases q : H b with
 | none => rfl
 | some x =>
  have hm : b ∈ trk h H := A83.mpr ⟨X4.mpr (G8 e'), by simp [q]⟩
  have z : (p8 h H).get? b = none := PySem.W.hideAll_none (trk h H) hm
  rw [z] at e; cases e
def B9z (g h : Heap) (L : Addr) : List (Addr × Obj) := (P6 h.objs.size).filterMap fun a => if a = L \/ (g.get? a).isSome = true then none else (h.get? a).map fun o => (a, o)
def P9 (g h : Heap) (L d : Addr) : List (Addr × Obj) := (B9z g h L).filter fun p => decide (p.1 ≠ d)
end L2
namespace L2
open PySem PySem.Spec PyProof.Rows
structure Mod (K : A4) (mg : Str -> Option Value) (base : Heap) : Prop where
 kin : K.In base
 glob : base.Ns mainGlobals mg
 blt : ∃ mb, base.Ns builtinsNs mb /\ ∀ x : Str, x ≠ "__name__" -> mb x = bootBuiltins x
 nolimit : base.NoLimit
structure Cx where
 prog : Program
 w : World
 K : A4
 mg : Str -> Option Value
 base : Heap
 A : Around
 N : List Str
 s₀ : Shared
 H₀ : Hp
 env : Env
 outer : List Env
 stack : List Env
 ex : List Addr
 fn : Str -> Bool
 calm : Bool
 pn : List (Addr × Obj)
 xe : Value -> Shared -> Prop
def frs (l : List Env) : List Addr := l.filterMap (·.frame)
abbrev Cx.fs (X : Cx) : List Addr := frs X.outer
def Vis (sc : Scope) (x : Str) : Prop := sc.names.lookup x = some .local \/ sc.names.lookup x = some .cell \/ sc.names.lookup x = some .free
def Loc (sc : Scope) (x : Str) : Prop := sc.names.lookup x = some .local \/ sc.names.lookup x = some .cell
def B09 (env : Env) (h : Heap) (m : Str -> Option Value) (x : Str) (u : Value) : Prop :=
 (env.kindOf x = some .local /\ m x = some u) \/ ((env.kindOf x = some .cell \/ env.kindOf x = some .free) /\ ∃ c, env.cells.lookup x = some c /\ h.IsCell c (some u))
structure Cx.Ok (X : Cx) : Prop where
 mod : Mod X.K X.mg X.base
 kind : X.env.scope.kind = .function
 glob : X.env.globals = mainGlobals
 blt : X.env.builtins = builtinsNs
 above : X.s₀.heap.objs.size <= X.env.locals
 inj : ∀ x y c, X.env.cells.lookup x = some c -> X.env.cells.lookup y = some c -> x = y
 has : ∀ x, (X.env.kindOf x = some .cell \/ X.env.kindOf x = some .free) -> ∃ c, X.env.cells.lookup x = some c
 cab : ∀ x c, X.fn x = true -> X.env.cells.lookup x = some c -> X.s₀.heap.objs.size <= c
 hd : X.calm = true -> X.A.handled = none
 frames : X.A.frames = some X.stack
 stk : X.stack = X.outer \/ (X.stack = X.env :: X.outer /\ X.env.frame = some X.env.locals)
 exf : ∀ b ∈ X.ex, b ≠ X.env.locals /\ ∀ x c, X.env.cells.lookup x = some c -> c ≠ b
 bs : ∀ b o, X.base.get? b = some o -> X.s₀.heap.get? b = some o /\ X.H₀ b = none
 bsz : X.base.objs.size <= X.s₀.heap.objs.size
 noex : ∀ b o, X.base.get? b = some o -> b ∉ X.ex
 exfs : ∀ b ∈ X.ex, b ∉ X.fs
 funs : X.s₀.heap.FunFrames X.base X.outer
 frf : ∀ b ∈ X.fs, X.H₀ b = none
structure Inv (X : Cx) (pins : List (Addr × Obj)) (σ : List (Option V)) (H : Hp) (s : Shared) : Prop where
 ok : X.Ok
 os : s.os = X.s₀.os
 bare : AllBare s.gens
 base : Un X.fs X.ex X.H₀ H X.s₀.heap s.heap
 loc : ∃ m, s.heap.Ns X.env.locals m /\ ∀ (i : Nat) (x : Str) (v : V), X.N[i]? = some x -> σ[i]? = some (some v) -> Vis X.env.scope x -> ∃ u, F7 v u /\ B09 X.env s.heap m x u
 cell : ∀ x c, X.env.cells.lookup x = some c -> ∃ v, s.heap.IsCell c v
 free : H X.env.locals = none
 freeC : ∀ x c, X.env.cells.lookup x = some c -> H c = none
 pin : ∀ p ∈ X.pn ++ pins, s.heap.get? p.1 = some p.2 /\ H p.1 = none /\ p.1 ≠ X.env.locals /\ p.1 ∉ X.fs /\ ∀ v, p.2.data ≠ .cell v
 hok : HOk X.prog X.w H s.heap
 len : σ.length = X.N.length
section
variable {X : Cx} {pins : List (Addr × Obj)} {σ : List (Option V)} {H H' : Hp} {s : Shared} {h' : Heap}
theorem Cx.Ok.nofr (ok : X.Ok) {b : Addr} {o : Obj} (e : X.base.get? b = some o) : b ∉ X.fs := fun hb => by
 have := (ok.funs.mem hb).1
 rw [e] at this; cases this
theorem Inv.bs (I : Inv X pins σ H s) : ∀ b o, X.base.get? b = some o -> s.heap.get? b = some o /\ H b = none := fun b o e =>
 ⟨I.base.keep b o (I.ok.bs b o e).1 (I.ok.bs b o e).2 (I.ok.nofr e) (I.ok.noex b o e), I.base.free b o (I.ok.bs b o e).1 (I.ok.bs b o e).2 (I.ok.noex b o e)⟩
theorem Inv.bk (I : Inv X pins σ H s) : ∀ b o, X.base.get? b = some o -> s.heap.get? b = some o := fun b o e => (I.bs b o e).1
theorem Inv.mod (I : Inv X pins σ H s) : Mod X.K X.mg X.base := I.ok.mod
theorem Inv.kIn (I : Inv X pins σ H s) : X.K.In s.heap := I.ok.mod.kin.keeps I.bk
theorem Inv.lt (I : Inv X pins σ H s) : X.env.locals < s.heap.objs.size := let ⟨_, hn, _⟩ := I.loc; hn.lt
theorem Inv.sz (I : Inv X pins σ H s) : X.s₀.heap.objs.size <= s.heap.objs.size := Y9 I.ok.above (A0j I.lt)
theorem Inv.nofs (I : Inv X pins σ H s) {a : Addr} (h : s.heap.objs.size <= a) : a ∉ X.fs := fun hb => by
 obtain ⟨_, o, ho, _⟩ := I.ok.funs.mem hb
 exact absurd (Q5 (G8 ho) (Y9 I.sz h)) (V3 _)
theorem Inv.cne (I : Inv X pins σ H s) : ∀ x c, X.env.cells.lookup x = some c -> c ≠ X.env.locals := fun x c e z => by
 obtain ⟨v, o, ho, hd⟩ := I.cell x c e
 obtain ⟨m, ⟨o', es, ep, ho', hd', _⟩, _⟩ := I.loc
 rw [z, ho'] at ho; cases ho; rw [hd'] at hd; cases hd
theorem Inv.funs (I : Inv X pins σ H s) : s.heap.FunFrames X.base X.outer := by
 have all : ∀ (l : List Env), (∀ b ∈ frs l, b ∈ X.fs) -> X.s₀.heap.FunFrames X.base l -> s.heap.FunFrames X.base l := by
  intro l
  induction l with
  | nil => intro _ _; trivial
  | cons env r ih =>
   intro hs hl
   obtain ⟨hk, ⟨L, o, hf, hn, ho, hd⟩, hr⟩ := hl
   have hL : L ∈ X.fs := hs L (by unfold frs; rw [B9i, hf]; exact B4)
   obtain ⟨sl, e⟩ := I.base.slot L o ho (I.ok.frf L hL) hL fun z => I.ok.exfs L z hL
   exact ⟨hk, ⟨L, _, hf, hn, e, hd⟩, ih (fun b hb => hs b (by unfold frs; rw [B9i, hf]; exact A9 _ hb)) hr⟩
 exact all X.outer (fun _ hb => hb) I.ok.funs
theorem Inv.stack (I : Inv X pins σ H s) : s.heap.FunFrames X.base X.stack := by
 rcases I.ok.stk with e | ⟨e, hf⟩
 ·rw [e]; exact I.funs
 ·rw [e]
  obtain ⟨m, hn, _⟩ := I.loc
  refine .cons (by rw [I.ok.kind]; decide) hf hn ?_ I.funs
  exact Heap.get?_none_of_le (Y9 I.ok.bsz I.ok.above)
theorem Inv.stkSub (I : Inv X pins σ H s) : ∀ b ∈ frs X.stack, b ∈ X.env.locals :: X.fs := fun b hb => by
 rcases I.ok.stk with e | ⟨e, hf⟩
 ·rw [e] at hb; exact A9 _ hb
 ·rw [e] at hb
  unfold frs at hb
  rw [B9i, hf] at hb
  exact hb
theorem Inv.stkFree (I : Inv X pins σ H s) : ∀ b ∈ frs X.stack, H b = none := fun b hb => by
 rcases K1.mp (I.stkSub b hb) with e | hb
 ·rw [e]; exact I.free
 ·obtain ⟨_, o, ho, _⟩ := I.ok.funs.mem hb
  exact I.base.free b o ho (I.ok.frf b hb) fun z => I.ok.exfs b z hb
theorem Inv.step {g' : Array GenState} {t' : Nat} {d' : Drawn} {ch : List Addr} (I : Inv X pins σ H s)
  (hch : ∀ b ∈ ch, (b ∈ X.ex \/ X.s₀.heap.objs.size <= b) /\ b ≠ X.env.locals /\ (∀ x c, X.env.cells.lookup x = some c -> c ≠ b) /\ ∀ p ∈ X.pn ++ pins, p.1 ≠ b)
  (keep : ∀ b o, b ≠ X.env.locals -> b ∉ X.fs -> b ∉ ch -> s.heap.get? b = some o -> H b = none -> h'.get? b = some o)
  (slot : ∀ b o, b ≠ X.env.locals -> b ∈ X.fs -> b ∉ ch -> s.heap.get? b = some o -> H b = none -> ∃ sl, h'.get? b = some { o with slots := sl }) (free : ∀ b o, b ∉ ch -> s.heap.get? b = some o -> H b = none -> H' b = none)
  (there : ∀ b o, b ∉ ch -> s.heap.get? b = some o -> ∃ o', h'.get? b = some o')
  (tups : ∀ b xs, H b = some (.tup xs) -> H' b = some (.tup xs)) (frzs : ∀ b o u, H b = some (.frz o u) -> H' b = some (.frz o u)) (tbls : ∀ b ps, H b = some (.tbl ps) -> ∃ more, H' b = some (.tbl (ps ++ more)))
  (ns : ∀ m, s.heap.Ns X.env.locals m -> h'.Ns X.env.locals m) (hok : HOk X.prog X.w H' h') (hg : AllBare g') :
  Inv X pins σ H' { s with heap := h', gens := g', drawn := d', toks := t' } := by
 have neL : ∀ b o, X.s₀.heap.get? b = some o -> b ≠ X.env.locals := fun b o e => N0 (Q5 (G8 e) I.ok.above)
 have neC : ∀ b o, X.s₀.heap.get? b = some o -> b ∉ X.ex -> b ∉ ch := fun b o e hx hb => by
  rcases (hch b hb).1 with z | z
  ·exact hx z
  ·exact absurd (Q5 (G8 e) z) (V3 _)
 have cellK : ∀ x c, X.env.cells.lookup x = some c -> ∀ v, s.heap.IsCell c v -> h'.IsCell c v := fun x c e v zz1 => el2 zz1 fun o ho hd => by
  have nch : c ∉ ch := fun z => (hch c z).2.2.1 x c e rfl
  by_cases hc : c ∈ X.fs
  ·obtain ⟨sl, q⟩ := slot c o (I.cne x c e) hc nch ho (I.freeC x c e)
   exact ⟨_, q, hd⟩
  ·exact ⟨o, keep c o (I.cne x c e) hc nch ho (I.freeC x c e), hd⟩
 refine ⟨I.ok, I.os, hg, ⟨fun b o e n hb hx => ?_, fun b o e n hb hx => ?_, fun b o e n hx => ?_, fun b o e hx => ?_, fun b xs e => tups b xs (I.base.tups b xs e), fun b o xs e => frzs b o xs (I.base.frzs b o xs e), fun b ps e => ?_⟩, ?_, fun x c e => ?_, ?_, fun x c e => ?_, fun p hp => ?_, hok, I.len⟩
 ·exact keep b o (neL b o e) hb (neC b o e hx) (I.base.keep b o e n hb hx) (I.base.free b o e n hx)
 ·obtain ⟨sl, e1⟩ := I.base.slot b o e n hb hx
  obtain ⟨sl', e2⟩ := slot b _ (neL b o e) hb (neC b o e hx) e1 (I.base.free b o e n hx)
  exact ⟨sl', e2⟩
 ·obtain ⟨o', e1⟩ := I.base.there b o e hx
  exact free b o' (neC b o e hx) e1 (I.base.free b o e n hx)
 ·obtain ⟨o', e1⟩ := I.base.there b o e hx
  exact there b o' (neC b o e hx) e1
 ·obtain ⟨m1, e1⟩ := I.base.tbls b ps e
  obtain ⟨m2, e2⟩ := tbls b _ e1
  exact ⟨m1 ++ m2, by rw [e2, Array.append_assoc]⟩
 ·obtain ⟨m, hn, hl⟩ := I.loc
  refine ⟨m, ns m hn, fun i x v e1 e2 e3 => ?_⟩
  obtain ⟨u, r, l⟩ := hl i x v e1 e2 e3
  refine ⟨u, r, ?_⟩
  rcases l with l | ⟨k, c, e, z⟩
  ·exact .inl l
  ·exact .inr ⟨k, c, e, cellK x c e _ z⟩
 ·obtain ⟨v, z⟩ := I.cell x c e
  exact ⟨v, cellK x c e v z⟩
 ·obtain ⟨m, ⟨o, _, _, ho, _⟩, _⟩ := I.loc
  exact free _ o (fun z => (hch _ z).2.1 rfl) ho I.free
 ·obtain ⟨v, o, ho, hd⟩ := I.cell x c e
  exact free c o (fun z => (hch c z).2.2.1 x c e rfl) ho (I.freeC x c e)
 ·obtain ⟨e, n, ne, nf, d⟩ := I.pin p hp
  have nch : p.1 ∉ ch := fun z => (hch p.1 z).2.2.2 p hp rfl
  exact ⟨keep p.1 p.2 ne nf nch e n, free p.1 p.2 nch e n, ne, nf, d⟩
theorem Inv.un {t' : Nat} (I : Inv X pins σ H s) (u : Un X.fs [] H H' s.heap h') (hok : HOk X.prog X.w H' h') : Inv X pins σ H' { s with heap := h', toks := t' } := by
 obtain ⟨m, ⟨o, es, ep, ho, r⟩, _⟩ := id I.loc
 obtain ⟨sl, hL⟩ := u.any ho I.free (by simp)
 exact I.step (g' := s.gens) (d' := s.drawn) (ch := []) (fun _ z => nomatch z) (fun b o _ hb _ e n => u.keep b o e n hb (by simp)) (fun b o _ hb _ e n => u.slot b o e n hb (by simp)) (fun b o _ e n => u.free b o e n (by simp)) (fun b o _ e => u.there b o e (by simp)) u.tups u.frzs u.tbls (fun m' hm => by
  obtain ⟨o', es', ep', ho', r'⟩ := hm
  rw [ho] at ho'; cases ho'
  exact ⟨_, es', ep', hL, r'⟩) hok I.bare
theorem Inv.call {g' : Array GenState} {t' : Nat} {d' : Drawn} {ch : List Addr} (I : Inv X pins σ H s) (u : Un (frs X.stack) ch H H' s.heap h') (hok : HOk X.prog X.w H' h') (hg : AllBare g')
  (hch : ∀ b ∈ ch, (b ∈ X.ex \/ X.s₀.heap.objs.size <= b) /\ b ≠ X.env.locals /\ (∀ x c, X.env.cells.lookup x = some c -> c ≠ b) /\ ∀ p ∈ X.pn ++ pins, p.1 ≠ b) :
  Inv X pins σ H' { s with heap := h', gens := g', drawn := d', toks := t' } := by
 obtain ⟨m, ⟨o, es, ep, ho, r⟩, _⟩ := id I.loc
 obtain ⟨sl, hL⟩ := u.any ho I.free fun z => (hch _ z).2.1 rfl
 exact I.step (ch := ch) hch (fun b o hL hb hc e n => u.keep b o e n (fun z => (K1.mp (I.stkSub b z)).elim hL hb) hc) (fun b o _ _ hc e n => u.any e n hc) (fun b o hc e n => u.free b o e n hc) (fun b o hc e => u.there b o e hc) u.tups u.frzs u.tbls (fun m' hm => by
  obtain ⟨o', es', ep', ho', r'⟩ := hm
  rw [ho] at ho'; cases ho'
  exact ⟨_, es', ep', hL, r'⟩) hok hg
theorem Inv.turned {t' : Nat} {it : Addr} (I : Inv X pins σ H s) (k : ∀ b o, b ≠ it -> s.heap.get? b = some o -> h'.get? b = some o) (hn : H it = none) (hL : it ≠ X.env.locals)
  (h1 : it ∈ X.ex \/ X.s₀.heap.objs.size <= it) (h2 : ∀ x c, X.env.cells.lookup x = some c -> c ≠ it) (h3 : ∀ p ∈ X.pn ++ pins, p.1 ≠ it) : Inv X pins σ H { s with heap := h', toks := t' } := by
 have nit : ∀ b u, H b = some u -> b ≠ it := fun b u e z => by rw [z, hn] at e; cases e
 refine I.step (g' := s.gens) (d' := s.drawn) (ch := [it]) (fun b hb => ?_) (fun b o _ _ hc e _ => k b o (fun z => hc (by simp [z])) e) (fun b o _ _ hc e _ => ⟨o.slots, k b o (fun z => hc (by simp [z])) e⟩) (fun _ _ _ _ n => n)
  (fun b o hc e => ⟨o, k b o (fun z => hc (by simp [z])) e⟩) (fun _ _ e => e) (fun _ _ _ e => e) (fun b ps e => ⟨#[], by rw [e]; simp⟩) (fun m hm => ?_) (fun b u e => ?_) I.bare
 ·have e : b = it := by simpa using hb
  subst e
  exact ⟨h1, hL, h2, h3⟩
 ·obtain ⟨o, es, ep, ho, r⟩ := hm
  exact ⟨o, es, ep, k _ o (Ne.symm hL) ho, r⟩
 ·refine (I.hok b u e).stay (fun c v hc q => k c v ?_ q) (fun _ q => q) fun _ _ q => q
  rcases hc with z | z
  ·rw [z]; exact nit b u e
  ·exact nit c _ z
theorem Inv.tok (I : Inv X pins σ H s) (t : Nat) : Inv X pins σ H { s with toks := t } := I.un (h' := s.heap) (t' := t) Un.refl I.hok
theorem Inv.kept {t' : Nat} (I : Inv X pins σ H s) (k : ∀ b u, s.heap.get? b = some u -> h'.get? b = some u) : Inv X pins σ H { s with heap := h', toks := t' } := I.un (Un.kept k) (I.hok.kept k)
theorem Inv.laid {a : Addr} {o : HO} {t' : Nat} (I : Inv X pins σ H s) (k : ∀ b u, s.heap.get? b = some u -> h'.get? b = some u) (hp : s.heap.objs.size <= a) (new : O4 X.prog X.w (upd H a o) h' a o) :
  Inv X pins σ (upd H a o) { s with heap := h', toks := t' } := I.un (Un.laid k hp (I.hok.fresh hp)) (I.hok.laid k hp new)
theorem Inv.write {x e : Addr} {o : HO} {t' : Nat} (I : Inv X pins σ H s) (mu : Mut (H x)) (he : e = x \/ H e = some (.own x)) (k : ∀ b u, b ≠ e -> s.heap.get? b = some u -> h'.get? b = some u) (heo : ∃ u, h'.get? e = some u)
  (new : O4 X.prog X.w (upd H x o) h' x o) : Inv X pins σ (upd H x o) { s with heap := h', toks := t' } := I.un (Un.write mu he k heo) (I.hok.write mu he k heo new)
theorem Inv.weak {σ' : List (Option V)} (I : Inv X pins σ H s) (hl : σ'.length = σ.length) (w : ∀ (i : Nat) v, σ'[i]? = some (some v) -> σ[i]? = some (some v)) : Inv X pins σ' H s :=
 ⟨I.ok, I.os, I.bare, I.base, let ⟨m, hn, hl'⟩ := I.loc; ⟨m, hn, fun i x v e1 e2 e3 => hl' i x v e1 (w i v e2) e3⟩, I.cell, I.free, I.freeC, I.pin, I.hok, hl.trans I.len⟩
theorem Inv.pins_of {pins' : List (Addr × Obj)} (I : Inv X pins σ H s) (h : ∀ p ∈ pins', s.heap.get? p.1 = some p.2 /\ H p.1 = none /\ p.1 ≠ X.env.locals /\ p.1 ∉ X.fs /\ ∀ v, p.2.data ≠ .cell v) : Inv X pins' σ H s :=
 ⟨I.ok, I.os, I.bare, I.base, I.loc, I.cell, I.free, I.freeC, fun p hp => (X5.mp hp).elim (fun z => I.pin p (A84 _ z)) (h p), I.hok, I.len⟩
theorem A4u {N : List Str} (hN : N.Nodup) {i j : Nat} {x : Str} (a : N[i]? = some x) (b : N[j]? = some x) : i = j := by
 obtain ⟨h1, e1⟩ := A1z.mp a
 obtain ⟨h2, e2⟩ := A1z.mp b
 exact (List.getElem_inj hN).mp (e1.trans e2.symm)
theorem B4c {M : Model} {A : Around} {E : Value -> Shared -> Prop} {i : Nat} {x : Str} {v : V} {u : Value} {Q : Unit -> Shared -> Prop} (I : Inv X pins σ H s) (hN : X.N.Nodup) (hi : X.N[i]? = some x) (hx : Loc X.env.scope x) (r : F7 v u)
  (h : ∀ s', Inv X pins (σ.set i (some v)) H s' -> (∃ a, Heap.SameBut a s.heap s'.heap /\ (a = X.env.locals \/ X.env.cells.lookup x = some a)) -> Q () s') (hf : X.fn x = true \/ X.env.scope.names.lookup x = some .local := by first | exact .inl rfl | exact .inr rfl | assumption) : wpAny M A (storeName X.env x u) Q E s := by
 obtain ⟨m, hn, hl⟩ := id I.loc
 have hcls : (X.env.scope.kind == .class || (X.env.scope.kind == .module && X.env.locals != X.env.globals)) = false := by rw [I.ok.kind]; rfl
 have hiσ : i < σ.length := by rw [I.len]; exact (A1z.mp hi).1
 have cne := I.cne
 have tracked : ∀ {a : Addr} {h' : Heap}, (∃ o, s.heap.get? a = some o /\ H a = none) -> Heap.SameBut a s.heap h' -> HOk X.prog X.w H h' := fun {a h'} ha hs b ob e => by
  obtain ⟨_, _, hfree⟩ := ha
  refine (I.hok b ob e).stay (fun c w' hc q => (hs.2 c ?_).trans q) (fun _ q => q) fun _ _ q => q
  rintro rfl
  rcases hc with rfl | hc
  ·rw [hfree] at e; cases e
  ·rw [hfree] at hc; cases hc
 rcases hx with hk | hk
 ·refine wpAny_storeName_local hk hn (fun h' hn' hs => ?_) hcls
  obtain ⟨oL, _, _, hoL, _⟩ := id hn
  refine h _ ⟨I.ok, I.os, I.bare, ⟨fun b o e n hb hx => ?_, fun b o e n hb hx => ?_, I.base.free, fun b o e hx => ?_, I.base.tups, I.base.frzs, I.base.tbls⟩, ⟨_, hn', fun j y v' e1 e2 e3 => ?_⟩, fun y c e => ?_, I.free, I.freeC, fun p hp => ?_, tracked ⟨oL, hoL, I.free⟩ hs, by simpa using I.len⟩ ⟨_, hs, .inl rfl⟩
  ·exact (hs.2 b (N0 (Q5 (G8 e) I.ok.above))).trans (I.base.keep b o e n hb hx)
  ·obtain ⟨sl, e1⟩ := I.base.slot b o e n hb hx
   exact ⟨sl, (hs.2 b (N0 (Q5 (G8 e) I.ok.above))).trans e1⟩
  ·obtain ⟨o', e1⟩ := I.base.there b o e hx
   exact ⟨o', (hs.2 b (N0 (Q5 (G8 e) I.ok.above))).trans e1⟩
  ·by_cases hj : j = i
   ·subst hj
    rw [hi] at e1; cases e1
    rw [B3w hiσ] at e2
    cases e2
    exact ⟨u, r, .inl ⟨hk, by simp⟩⟩
   ·rw [S7 (Ne.symm hj)] at e2
    obtain ⟨u', r', q⟩ := hl j y v' e1 e2 e3
    refine ⟨u', r', ?_⟩
    rcases q with ⟨k, e⟩ | ⟨k, c, e, z⟩
    ·refine .inl ⟨k, ?_⟩
     have : y ≠ x := fun e => hj (A4u hN e1 (e ▸ hi))
     simp [this, e]
    ·exact .inr ⟨k, c, e, z.sameBut hs (cne y c e)⟩
  ·obtain ⟨w', z⟩ := I.cell y c e
   exact ⟨w', z.sameBut hs (cne y c e)⟩
  ·obtain ⟨e, n, ne, nf, d⟩ := I.pin p hp
   exact ⟨(hs.2 p.1 ne).trans e, n, ne, nf, d⟩
 ·have hfn : X.fn x = true := by
   rcases hf with z | z
   ·exact z
   ·rw [z] at hk; cases hk
  obtain ⟨c, hc⟩ := I.ok.has x (.inl hk)
  obtain ⟨w', z⟩ := I.cell x c hc
  refine wpAny_storeName_cell I.ok.kind hk hc z (fun h' hc' hs => ?_)
  obtain ⟨oc, hoc, hocd⟩ := id z
  refine h { s with heap := h' } ⟨I.ok, I.os, I.bare, ⟨fun b o e n hb hx => ?_, fun b o e n hb hx => ?_, I.base.free, fun b o e hx => ?_, I.base.tups, I.base.frzs, I.base.tbls⟩, ⟨m, hn.sameBut hs (Ne.symm (cne x c hc)), fun j y v' e1 e2 e3 => ?_⟩, fun y c' e => ?_, I.free, I.freeC, fun p hp => ?_, tracked ⟨oc, hoc, I.freeC x c hc⟩ hs, by simpa using I.len⟩ ⟨c, hs, .inr hc⟩
  ·exact (hs.2 b (N0 (Q5 (G8 e) (I.ok.cab x c hfn hc)))).trans (I.base.keep b o e n hb hx)
  ·obtain ⟨sl, e1⟩ := I.base.slot b o e n hb hx
   exact ⟨sl, (hs.2 b (N0 (Q5 (G8 e) (I.ok.cab x c hfn hc)))).trans e1⟩
  ·obtain ⟨o', e1⟩ := I.base.there b o e hx
   exact ⟨o', (hs.2 b (N0 (Q5 (G8 e) (I.ok.cab x c hfn hc)))).trans e1⟩
  ·by_cases hj : j = i
   ·subst hj
    rw [hi] at e1; cases e1
    rw [B3w hiσ] at e2
    cases e2
    exact ⟨u, r, .inr ⟨.inl hk, c, hc, hc'⟩⟩
   ·rw [S7 (Ne.symm hj)] at e2
    obtain ⟨u', r', q⟩ := hl j y v' e1 e2 e3
    refine ⟨u', r', ?_⟩
    rcases q with q | ⟨k, c', e, z'⟩
    ·exact .inl q
    ·refine .inr ⟨k, c', e, z'.sameBut hs ?_⟩
     rintro rfl
     exact hj (A4u hN e1 (I.ok.inj _ _ _ e hc ▸ hi))
  ·by_cases hcc : c' = c
   ·subst hcc; exact ⟨_, hc'⟩
   ·obtain ⟨w2, z2⟩ := I.cell y c' e
    exact ⟨w2, z2.sameBut hs hcc⟩
  ·obtain ⟨e, n, ne, nf, d⟩ := I.pin p hp
   refine ⟨(hs.2 p.1 ?_).trans e, n, ne, nf, d⟩
   intro q
   rw [q, hoc] at e
   have q' : oc = p.2 := Option.some.inj e
   exact d w' (by rw [<- q']; exact hocd)
theorem B1a {M : Model} {A : Around} {E : Value -> Shared -> Prop} {i : Nat} {x : Str} {v : V} {u : Value} {Q : Unit -> Shared -> Prop} (I : Inv X pins σ H s) (hN : X.N.Nodup) (hi : X.N[i]? = some x) (hx : Loc X.env.scope x) (r : F7 v u)
  (h : ∀ s', Inv X pins (σ.set i (some v)) H s' -> Q () s') (hf : X.fn x = true \/ X.env.scope.names.lookup x = some .local := by first | exact .inl rfl | exact .inr rfl | assumption) : wpAny M A (storeName X.env x u) Q E s :=
 B4c I hN hi hx r (fun s' I' _ => h s' I') hf
theorem Inv.call' {s' : Shared} {ch : List Addr} (I : Inv X pins σ H s) (ho : s'.os = s.os) (u : Un (frs X.stack) ch H H' s.heap s'.heap) (hok : HOk X.prog X.w H' s'.heap) (hg : AllBare s'.gens)
  (hch : ∀ b ∈ ch, (b ∈ X.ex \/ X.s₀.heap.objs.size <= b) /\ b ≠ X.env.locals /\ (∀ x c, X.env.cells.lookup x = some c -> c ≠ b) /\ ∀ p ∈ X.pn ++ pins, p.1 ≠ b) : Inv X pins σ H' s' := by
 obtain ⟨h', g', d', t', o'⟩ := s'
 have e : o' = s.os := ho
 subst e
 exact I.call (g' := g') (t' := t') (d' := d') u hok hg hch
end
abbrev XK := Value -> Option Addr -> Hp -> Prop
abbrev St := List (Option V)
abbrev VK := V -> Hp -> Prop
abbrev TE := St -> Hp -> VK -> Prop
abbrev TT := St -> Hp -> (Bool -> Hp -> Prop) -> Prop
abbrev TA := St -> Hp -> (List V -> Hp -> Prop) -> Prop
structure A0n where
 nx : St -> Hp -> Prop
 rt : VK
 bk : St -> Hp -> Prop := fun _ _ => False
 ct : St -> Hp -> Prop := fun _ _ => False
abbrev TS := A0n -> St -> Hp -> Prop
def EP (X : Cx) (pins : List (Addr × Obj)) (σ : St) (Q : VK) (u : Value) (s' : Shared) : Prop := ∃ v H', Inv X pins σ H' s' /\ F7 v u /\ Q v H'
def TP (X : Cx) (pins : List (Addr × Obj)) (σ : St) (Q : Bool -> Hp -> Prop) (b : Bool) (s' : Shared) : Prop := ∃ H', Inv X pins σ H' s' /\ Q b H'
def AP (X : Cx) (pins : List (Addr × Obj)) (σ : St) (Q : List V -> Hp -> Prop) (us : List Value) (s' : Shared) : Prop := ∃ vs H', Inv X pins σ H' s' /\ D5 vs us /\ Q vs H'
def SP (X : Cx) (pins : List (Addr × Obj)) (D : A0n) (f : Flow) (s' : Shared) : Prop :=
 match f with
 | .next => ∃ σ' H', Inv X pins σ' H' s' /\ D.nx σ' H'
 | .brk => ∃ σ' H', Inv X pins σ' H' s' /\ D.bk σ' H'
 | .cont => ∃ σ' H', Inv X pins σ' H' s' /\ D.ct σ' H'
 | .ret u => ∃ v σ' H', Inv X pins σ' H' s' /\ F7 v u /\ D.rt v H'
def PE (X : Cx) (e : Expr) (t : TE) : Prop :=
 ∀ (pins : List (Addr × Obj)) (s : Shared) (σ : St) (H : Hp) (Q : VK), Inv X pins σ H s -> t σ H Q -> wpAny (model X.prog X.w) X.A (eval e X.env) (EP X pins σ Q) X.xe s
def PT (X : Cx) (e : Expr) (t : TT) : Prop :=
 ∀ (pins : List (Addr × Obj)) (s : Shared) (σ : St) (H : Hp) (Q : Bool -> Hp -> Prop), Inv X pins σ H s -> t σ H Q -> wpAny (model X.prog X.w) X.A (isTrue e X.env (eval e X.env)) (TP X pins σ Q) X.xe s
def PW (X : Cx) (e : Expr) (t : TT) : Prop :=
 ∀ (whole : Sem Value) (pins : List (Addr × Obj)) (s : Shared) (σ : St) (H : Hp) (Q : Bool -> Hp -> Prop), Inv X pins σ H s -> t σ H Q -> wpAny (model X.prog X.w) X.A (isTrue e X.env whole) (TP X pins σ Q) X.xe s
theorem PW.pt {X : Cx} {e : Expr} {t : TT} (h : PW X e t) : PT X e t := h _
def PA (X : Cx) (es : List Expr) (t : TA) : Prop :=
 ∀ (pos : Pos) (pins : List (Addr × Obj)) (s : Shared) (σ : St) (H : Hp) (Q : List V -> Hp -> Prop), Inv X pins σ H s -> t σ H Q -> wpAny (model X.prog X.w) X.A (spliced (backTo pos (starEach es X.env))) (AP X pins σ Q) X.xe s
def PS (X : Cx) (st : Stmt) (t : TS) : Prop :=
 ∀ (pins : List (Addr × Obj)) (s : Shared) (σ : St) (H : Hp) (D : A0n), Inv X pins σ H s -> t D σ H -> wpAny (model X.prog X.w) X.A (exec st X.env) (SP X pins D) X.xe s
def PSs (X : Cx) (st : List Stmt) (t : TS) : Prop :=
 ∀ (pins : List (Addr × Obj)) (s : Shared) (σ : St) (H : Hp) (D : A0n), Inv X pins σ H s -> t D σ H -> wpAny (model X.prog X.w) X.A (execs st X.env) (SP X pins D) X.xe s
theorem thn {α : Type} {t : Sem α} {Q Q' : α -> Shared -> Prop} {M : Model} {A : Around} {E : Value -> Shared -> Prop} {s : Shared} (h : wpAny M A t Q E s) (hQ : ∀ a s, Q a s -> Q' a s) : wpAny M A t Q' E s := wpAny_mono h hQ fun _ _ x => x
end L2
namespace L2
open PySem PySem.Spec PyProof.Rows
section
variable {X : Cx}
def N5 (i : Nat) : TE := fun σ H Q => ∃ v, σ[i]? = some (some v) /\ Q v H
def tC (v : V) : TE := fun _ H Q => Q v H
theorem B90 {i : Nat} {x : Str} {pos : Pos} (hN : X.N[i]? = some x) (hv : Vis X.env.scope x) (hd : (x == ("__debug__" : Str)) = false := by decide) (hcd : (x == ("__classdict__" : Str)) = false := by decide) : PE X (.Name x pos) (N5 i) := by
 intro pins s σ H Q I h
 obtain ⟨v, e, h⟩ := h
 obtain ⟨m, hn, hl⟩ := I.loc
 obtain ⟨u, r, l⟩ := hl i x v hN e hv
 have fin : EP X pins σ Q u s := ⟨v, H, I, r, h⟩
 rcases l with ⟨hk, hm⟩ | ⟨hk, c, hc, hcell⟩
 ·exact wpAny_Name (wpAny_loadName_local I.ok.kind hk hn hm fin) hd
 ·rcases hk with hk | hk
  ·exact wpAny_Name (wpAny_loadName_cell I.ok.kind hk hc hcell fin) hd
  ·exact wpAny_Name (wpAny_loadName_free I.ok.kind hk hc hcell fin hcd) hd
theorem G0 {i j pos} : PE X (.Constant (.int i) j pos) (tC (.int i)) := fun _ _ _ H _ I h => wpAny_Constant_int ⟨.int i, H, I.tok _, ⟨_, rfl⟩, h⟩
theorem B1b {b j pos} : PE X (.Constant (.bool b) j pos) (tC (.bl b)) := fun _ _ _ H _ I h => Constant_bool ⟨.bl b, H, I, rfl, h⟩
theorem A9k {j pos} : PE X (.Constant .none j pos) (tC .non) := fun _ _ _ H _ I h => Constant_none ⟨.non, H, I, rfl, h⟩
theorem B91 {x j pos} : PE X (.Constant (.str x) j pos) (tC (.str x)) := fun _ _ _ H _ I h => Calls.Constant_str ⟨.str x, H, I.tok _, ⟨_, rfl⟩, h⟩
def Gl (X : Cx) (x : Str) : Prop := X.env.kindOf x = some .globalImplicit
theorem B4d {E : Value -> Shared -> Prop} {pins : List (Addr × Obj)} {s : Shared} {σ : St} {H : Hp} {x : Str} {u : Value} {pos : Pos} {Q : Value -> Shared -> Prop} (I : Inv X pins σ H s) (hg : Gl X x) (hm : X.mg x = some u) (h : Q u s)
  (hd : (x == ("__debug__" : Str)) = false := by decide) : wpAny (model X.prog X.w) X.A (eval (.Name x pos) X.env) Q E s :=
 Calls.Name_function_global I.ok.kind hg (Calls.loadGlobal_global (by rw [I.ok.glob]; exact I.mod.glob.keeps I.bk) hm h) hd
theorem p9 {E : Value -> Shared -> Prop} {pins : List (Addr × Obj)} {s : Shared} {σ : St} {H : Hp} {x : Str} {u : Value} {pos : Pos} {Q : Value -> Shared -> Prop} (I : Inv X pins σ H s) (hg : Gl X x) (hm : X.mg x = none) (hv : bootBuiltins x = some u) (h : Q u s)
  (hn : x ≠ "__name__" := by decide) (hd : (x == ("__debug__" : Str)) = false := by decide) : wpAny (model X.prog X.w) X.A (eval (.Name x pos) X.env) Q E s := by
 obtain ⟨mb, h1, h2⟩ := I.mod.blt
 exact Calls.Name_function_global I.ok.kind hg (Calls.loadGlobal_builtin (by rw [I.ok.glob]; exact I.mod.glob.keeps I.bk) hm (by rw [I.ok.blt]; exact h1.keeps I.bk) ((h2 x hn).trans hv) h) hd
theorem E6 {x : Str} {v : V} {u : Value} {pos : Pos} (hg : Gl X x) (hm : X.mg x = some u) (r : F7 v u) (hd : (x == ("__debug__" : Str)) = false := by decide) : PE X (.Name x pos) (tC v) :=
 fun _ _ _ H _ I h => B4d I hg hm ⟨v, H, I, r, h⟩ hd
theorem r8 {x : Str} {v : V} {u : Value} {pos : Pos} (hg : Gl X x) (hm : X.mg x = none) (hv : bootBuiltins x = some u) (r : F7 v u) (hn : x ≠ "__name__" := by decide) (hd : (x == ("__debug__" : Str)) = false := by decide) : PE X (.Name x pos) (tC v) :=
 fun _ _ _ H _ I h => p9 I hg hm hv ⟨v, H, I, r, h⟩ hn hd
variable {a b : Expr} {ta tb : TE} {pos : Pos}
def tB (t : TE) : TT := fun σ H Q => t σ H fun x H1 => ∃ c, x = .bl c /\ Q c H1
theorem B4e {e : Expr} {t : TE} (h : PE X e t) (he : ∀ whole, isTrue e X.env whole = (do let v <- whole; standAt e.pos; holding [v] (truthy v)) := by intro _; rfl) : PT X e (tB t) := by
 intro pins s σ H Q I hw
 refine isTrue_plain (thn (h pins s σ H _ I hw) fun v s1 zz7 => el5 zz7 fun x H1 I1 r1 q1 => ?_) (he _)
 obtain ⟨d, rfl, q⟩ := q1
 cases r1
 exact wpAny_truthy_bool ⟨H1, I1, q⟩
variable {tA tB' : TT} {P9 : List Expr}
def B92 (t u : TT) : TT := fun σ H Q => t σ H fun c H1 => if c = true then u σ H1 Q else Q false H1
def tOr (t u : TT) : TT := fun σ H Q => t σ H fun c H1 => if c = true then Q true H1 else u σ H1 Q
def B93 (t : TT) : TT := fun σ H Q => t σ H fun c H1 => Q (!c) H1
theorem B1c (ha : PT X a tA) : PW X (.BoolOp .And [a] pos) tA := by
 intro wh pins s σ H Q I h
 refine isTrue_and (thn (ha pins s σ H Q I h) fun c s1 e => ?_)
 cases c with
 | true => exact isTrue_and_nil e
 | false => exact e
theorem B94 (ha : PT X a tA) : PW X (.BoolOp .Or [a] pos) tA := by
 intro wh pins s σ H Q I h
 refine isTrue_or (thn (ha pins s σ H Q I h) fun c s1 e => ?_)
 cases c with
 | false => exact isTrue_or_nil e
 | true => exact e
theorem B1d (ha : PT X a tA) (hb : PW X (.BoolOp .And (b :: P9) pos) tB') : PW X (.BoolOp .And (a :: b :: P9) pos) (B92 tA tB') := by
 intro wh pins s σ H Q I h
 refine isTrue_and (thn (ha pins s σ H _ I h) fun c s1 zz8 => el2 zz8 fun H1 I1 q1 => ?_)
 cases c with
 | true => exact hb wh pins s1 σ H1 Q I1 q1
 | false => exact ⟨H1, I1, q1⟩
theorem B95 (ha : PT X a tA) (hb : PW X (.BoolOp .Or (b :: P9) pos) tB') : PW X (.BoolOp .Or (a :: b :: P9) pos) (tOr tA tB') := by
 intro wh pins s σ H Q I h
 refine isTrue_or (thn (ha pins s σ H _ I h) fun c s1 zz9 => el2 zz9 fun H1 I1 q1 => ?_)
 cases c with
 | true => exact ⟨H1, I1, q1⟩
 | false => exact hb wh pins s1 σ H1 Q I1 q1
theorem B4f (ha : PT X a tA) : PT X (.UnaryOp .Not a pos) (B93 tA) := by
 intro pins s σ H Q I h
 exact isTrue_not (ha pins s σ H (fun c H1 => Q (!c) H1) I h)
def B96 (ta tb : TE) : TE := fun σ H Q => ta σ H fun x H1 => ∃ c, x = .bl c /\ if c = true then tb σ H1 Q else Q (.bl false) H1
def B97 (ta tb : TE) : TE := fun σ H Q => ta σ H fun x H1 => ∃ c, x = .bl c /\ if c = true then Q (.bl true) H1 else tb σ H1 Q
def B98 (ta : TE) : TE := fun σ H Q => ta σ H fun x H1 => ∃ c, x = .bl c /\ Q (.bl (!c)) H1
theorem B1e {op} {t : TE} (h : PE X a t) : PE X (.BoolOp op [a] pos) t := fun pins s σ H Q I hw => BoolOp_one (h pins s σ H Q I hw)
theorem B4g (ha : PE X a ta) (hb : PE X (.BoolOp .And (b :: P9) pos) tb) : PE X (.BoolOp .And (a :: b :: P9) pos) (B96 ta tb) := by
 intro pins s σ H Q I h
 refine BoolOp_and (thn (ha pins s σ H _ I h) fun v s1 zz10 => el5 zz10 fun x H1 I1 r1 q1 => ?_)
 obtain ⟨c, rfl, q1⟩ := q1
 cases r1
 refine wpAny_truthy_bool ?_
 cases c with
 | true => exact hb pins s1 σ H1 Q I1 q1
 | false => exact ⟨.bl false, H1, I1, rfl, q1⟩
theorem B4h (ha : PE X a ta) (hb : PE X (.BoolOp .Or (b :: P9) pos) tb) : PE X (.BoolOp .Or (a :: b :: P9) pos) (B97 ta tb) := by
 intro pins s σ H Q I h
 refine BoolOp_or (thn (ha pins s σ H _ I h) fun v s1 zz11 => el5 zz11 fun x H1 I1 r1 q1 => ?_)
 obtain ⟨c, rfl, q1⟩ := q1
 cases r1
 refine wpAny_truthy_bool ?_
 cases c with
 | false => exact hb pins s1 σ H1 Q I1 q1
 | true => exact ⟨.bl true, H1, I1, rfl, q1⟩
theorem B99 (ha : PE X a ta) : PE X (.UnaryOp .Not a pos) (B98 ta) := by
 intro pins s σ H Q I h
 refine UnaryOp_ (thn (ha pins s σ H _ I h) fun v s1 zz12 => el5 zz12 fun x H1 I1 r1 q1 => ?_)
 obtain ⟨c, rfl, q1⟩ := q1
 cases r1
 exact not_of (wpAny_truthy_bool ⟨.bl (!c), H1, I1, rfl, q1⟩)
def tIf (t : TT) (ta tb : TE) : TE := fun σ H Q => t σ H fun c H1 => if c = true then ta σ H1 Q else tb σ H1 Q
theorem C0a {c : Expr} (hc : PT X c tA) (ha : PE X a ta) (hb : PE X b tb) : PE X (.IfExp c a b pos) (tIf tA ta tb) := by
 intro pins s σ H Q I h
 refine wpAny_IfExp (thn (hc pins s σ H _ I h) fun d s1 zz13 => el2 zz13 fun H1 I1 q1 => ?_)
 cases d with
 | true => exact ha pins s1 σ H1 Q I1 q1
 | false => exact hb pins s1 σ H1 Q I1 q1
end
end L2
namespace L2
open PySem PySem.Spec PyProof.Rows
def SqL (K : A4) (H : Hp) (a : Addr) (xs : List V) : Prop :=
 Rd H a (.lst xs) \/
  ∃ (o : Obj) (its : Array Value) (n : Nat), K.lookup a = some o /\ o.cls = .type "list" /\ o.dict = none /\ o.data = .seq its n /\ its.size <= sizeLine /\ D5 xs its.toList
def SqT (K : A4) (H : Hp) (a : Addr) (xs : List V) : Prop :=
 Rd H a (.tup xs) \/
  ∃ (o : Obj) (its : Array Value) (n : Nat), K.lookup a = some o /\ o.cls = .type "tuple" /\ o.data = .seq its n /\ its.size <= sizeLine /\ D5 xs its.toList
def C0b : Value -> Option V
 | .none => some .non
 | .bool b => some (.bl b)
 | .int i _ => some (.int i)
 | .str x _ => some (.str x)
 | .bytes b _ => some (.byt b)
 | .float b _ => some (.flt b)
 | .ref a => some (.ref a)
 | .type n => some (.ty n)
 | _ => none
theorem F7.abs {x : V} {u : Value} (r : F7 x u) : C0b u = some x := by
 cases x with
 | non => cases r; rfl
 | bl _ => cases r; rfl
 | int _ => obtain ⟨t, rfl⟩ := r; rfl
 | str _ => obtain ⟨t, rfl⟩ := r; rfl
 | byt _ => obtain ⟨t, rfl⟩ := r; rfl
 | flt _ => obtain ⟨t, rfl⟩ := r; rfl
 | ref _ => cases r; rfl
 | ty _ => cases r; rfl
theorem F7.inj {x y : V} {u : Value} (r : F7 x u) (q : F7 y u) : x = y := Option.some.inj (r.abs.symm.trans q.abs)
theorem D5.inj {xs ys : List V} {us : List Value} (h : D5 xs us) (k : D5 ys us) : xs = ys := by
 induction h generalizing ys with
 | nil => cases k; rfl
 | cons r t ih =>
  cases k with
  | cons r' t' => rw [r.inj r', ih t']
section
variable {X : Cx} {pins : List (Addr × Obj)} {σ : St} {H : Hp} {s : Shared} {a : Addr} {xs ys : List V}
theorem SqL.of {K : A4} (h : H a = some (.lst xs)) : SqL K H a xs := .inl (.inl h)
theorem SqT.of {K : A4} (h : H a = some (.tup xs)) : SqT K H a xs := .inl (.inl h)
theorem Inv.list (I : Inv X pins σ H s) (h : SqL X.K H a xs) : ∃ its : List Value, D5 xs its /\ PlainL s.heap a its.toArray /\ xs.length <= sizeLine := by
 rcases h with h | ⟨o, its, n, hk, hc, hd, hs, hz, r⟩
 ·obtain ⟨z, its, n, r, e⟩ := h.ok I.hok
  exact ⟨its, r, ⟨_, n, e, rfl, rfl, rfl⟩, z⟩
 ·refine ⟨its.toList, r, ⟨o, n, I.kIn a o hk, hc, hd, by simpa using hs⟩, ?_⟩
  have e := r.length
  simp only [A85] at e
  lia
theorem Inv.tuple (I : Inv X pins σ H s) (h : SqT X.K H a xs) : ∃ its : List Value, D5 xs its /\ IsTup s.heap a its.toArray /\ xs.length <= sizeLine := by
 rcases h with h | ⟨o, its, n, hk, hc, hs, hz, r⟩
 ·obtain ⟨z, its, r, p⟩ := h.ok I.hok
  exact ⟨its, r, p, z⟩
 ·refine ⟨its.toList, r, ⟨o, I.kIn a o hk, hc, n, by simpa using hs⟩, ?_⟩
  have e := r.length
  simp only [A85] at e
  lia
theorem Inv.list_inj (I : Inv X pins σ H s) (h : SqL X.K H a xs) (h' : SqL X.K H a ys) : xs = ys := by
 obtain ⟨its, r, ⟨o, n, e, _, _, d⟩, _⟩ := I.list h
 obtain ⟨its', r', ⟨o', n', e', _, _, d'⟩, _⟩ := I.list h'
 rw [e] at e'; cases e'
 rw [d] at d'
 injection d' with d1 _
 have : its = its' := by simpa using congrArg Array.toList d1
 subst this
 exact r.inj r'
end
abbrev Cx.wish (X : Cx) (E : Value -> Shared -> Prop) : Cx := { X with xe := E }
abbrev Cx.nox (X : Cx) : Cx := X.wish fun _ _ => False
theorem Cx.Ok.wish {X : Cx} (ok : X.Ok) (E : Value -> Shared -> Prop) : (X.wish E).Ok :=
 ⟨ok.mod, ok.kind, ok.glob, ok.blt, ok.above, ok.inj, ok.has, ok.cab, ok.hd, ok.frames, ok.stk, ok.exf, ok.bs, ok.bsz, ok.noex, ok.exfs, ok.funs, ok.frf⟩
theorem Cx.Ok.unwish {X : Cx} {E : Value -> Shared -> Prop} (ok : (X.wish E).Ok) : X.Ok :=
 ⟨ok.mod, ok.kind, ok.glob, ok.blt, ok.above, ok.inj, ok.has, ok.cab, ok.hd, ok.frames, ok.stk, ok.exf, ok.bs, ok.bsz, ok.noex, ok.exfs, ok.funs, ok.frf⟩
section
variable {X : Cx} {pins : List (Addr × Obj)} {σ : St} {H : Hp} {s : Shared} {E : Value -> Shared -> Prop}
theorem Inv.wish (I : Inv X pins σ H s) (E : Value -> Shared -> Prop) : Inv (X.wish E) pins σ H s := ⟨I.ok.wish E, I.os, I.bare, I.base, I.loc, I.cell, I.free, I.freeC, I.pin, I.hok, I.len⟩
theorem Inv.unwish (I : Inv (X.wish E) pins σ H s) : Inv X pins σ H s := ⟨I.ok.unwish, I.os, I.bare, I.base, I.loc, I.cell, I.free, I.freeC, I.pin, I.hok, I.len⟩
theorem SP.unwish {D : A0n} {f : Flow} {s' : Shared} (h : SP (X.wish E) pins D f s') : SP X pins D f s' := by
 cases f with
 | next => obtain ⟨σ', H', I, q⟩ := h; exact ⟨σ', H', I.unwish, q⟩
 | brk => obtain ⟨σ', H', I, q⟩ := h; exact ⟨σ', H', I.unwish, q⟩
 | cont => obtain ⟨σ', H', I, q⟩ := h; exact ⟨σ', H', I.unwish, q⟩
 | ret u => obtain ⟨v, σ', H', I, r, q⟩ := h; exact ⟨v, σ', H', I.unwish, r, q⟩
theorem PSs.nox {st : List Stmt} {t : TS} (h : PSs X.nox st t) : PSs X st t := fun pins s σ H D I hw =>
 wpAny_mono (h pins s σ H D (I.wish _) hw) (fun _ _ q => q.unwish) fun _ _ z => False.elim z
end
section
variable {X : Cx} {st : Stmt} {P9 : List Stmt} {t u : TS} {e : Expr} {te : TE} {pos : Pos}
def C0c : TS := fun D σ H => D.nx σ H
def B4i (t u : TS) : TS := fun D σ H => t { D with nx := u D } σ H
theorem A8c : PSs X [] C0c := fun _ _ σ H _ I h => wpAny_execs_nil ⟨σ, H, I, h⟩
theorem O5 (h1 : PS X st t) (h2 : PSs X P9 u) : PSs X (st :: P9) (B4i t u) := by
 intro pins s σ H D I h
 refine wpAny_execs_cons (thn (h1 pins s σ H { D with nx := u D } I h) fun f s1 q => ?_)
 cases f with
 | next =>
  obtain ⟨σ', H', I', q⟩ := q
  exact h2 pins s1 σ' H' D I' q
 | ret v => exact q
 | brk => exact q
 | cont => exact q
theorem W3 (h1 : PS X st t) : PSs X [st] t := by
 intro pins s σ H D I h
 refine wpAny_execs_cons (thn (h1 pins s σ H D I h) fun f s1 q => ?_)
 cases f with
 | next => exact wpAny_execs_nil q
 | ret v => exact q
 | brk => exact q
 | cont => exact q
theorem Inv.quiet {pins : List (Addr × Obj)} {σ : St} {H : Hp} {s : Shared} (I : Inv X pins σ H s) : interactive X.env = false := by simp [interactive, I.ok.kind]
def B4j (te : TE) : TS := fun D σ H => te σ H fun _ H1 => D.nx σ H1
theorem Z4 (he : PE X e te) (hs : swapsWith e none pos.line X.env = pure false := by rfl) : PS X (.Expr e pos) (B4j te) := by
 intro pins s σ H D I h
 exact wpAny_Expr_any (thn (he pins s σ H _ I h) fun v s1 zz20 => el5 zz20 fun x H1 I1 r1 q1 => ⟨σ, H1, I1, q1⟩) I.quiet hs
def B4k (te : TE) : TS := fun D σ H => te σ H D.rt
theorem A0o (he : PE X e te) : PS X (.Return (some e) pos) (B4k te) := by
 intro pins s σ H D I h
 exact wpAny_Return_some (thn (he pins s σ H _ I h) fun v s1 zz21 => el5 zz21 fun x H1 I1 r1 q1 => ⟨x, σ, H1, I1, r1, q1⟩)
def C0d (c : TT) (t u : TS) : TS := fun D σ H => c σ H fun b H1 => if b = true then t D σ H1 else u D σ H1
theorem A4v {c : Expr} {a b : List Stmt} {tc : TT} (hc : PT X c tc) (ha : PSs X a t) (hb : PSs X b u) : PS X (.If c a b pos) (C0d tc t u) := by
 intro pins s σ H D I h
 refine wpAny_If (thn (hc pins s σ H _ I h) fun d s1 zz22 => el2 zz22 fun H1 I1 q1 => ?_)
 cases d with
 | true => exact ha pins s1 σ H1 D I1 q1
 | false => exact hb pins s1 σ H1 D I1 q1
end
abbrev TG := V -> St -> Hp -> (St -> Hp -> Prop) -> Prop
abbrev TGs := List V -> St -> Hp -> (St -> Hp -> Prop) -> Prop
def PG (X : Cx) (target : Expr) (t : TG) : Prop :=
 ∀ (pins : List (Addr × Obj)) (s : Shared) (σ : St) (H : Hp) (v : V) (u : Value) (Q : St -> Hp -> Prop), Inv X pins σ H s -> F7 v u -> t v σ H Q ->
  wpAny (model X.prog X.w) X.A (assign target X.env u) (fun _ s' => ∃ σ' H', Inv X pins σ' H' s' /\ Q σ' H') X.xe s
def PGs (X : Cx) (ts : List Expr) (t : TGs) : Prop :=
 ∀ (pins : List (Addr × Obj)) (s : Shared) (σ : St) (H : Hp) (vs : List V) (us : List Value) (Q : St -> Hp -> Prop), Inv X pins σ H s -> D5 vs us -> t vs σ H Q ->
  wpAny (model X.prog X.w) X.A (assignInOrder ((assignEach ts X.env).map (·.2)) us) (fun _ s' => ∃ σ' H', Inv X pins σ' H' s' /\ Q σ' H') X.xe s
abbrev A8d := V -> V -> V -> Hp -> (Hp -> Prop) -> Prop
def B1f (X : Cx) (t : A8d) : Prop :=
 ∀ (pins : List (Addr × Obj)) (s : Shared) (σ : St) (H : Hp) (o i v : V) (ov iv u : Value) (Q : Hp -> Prop), Inv X pins σ H s -> F7 o ov -> F7 i iv -> F7 v u -> t o i v H Q ->
  wpAny (model X.prog X.w) X.A (setItem ov iv u) (fun _ s' => ∃ H', Inv X pins σ H' s' /\ Q H') X.xe s
abbrev TIp := V -> V -> Hp -> VK -> Prop
def PIp (X : Cx) (op : Operator) (t : TIp) : Prop :=
 ∀ (pins : List (Addr × Obj)) (s : Shared) (σ : St) (H : Hp) (x y : V) (v u : Value) (Q : VK), Inv X pins σ H s -> F7 x v -> F7 y u -> t x y H Q ->
  wpAny (model X.prog X.w) X.A (inplaceOp op v u) (EP X pins σ Q) X.xe s
section
variable {X : Cx} {pos : Pos}
def W4 (i : Nat) : TG := fun v σ H Q => Q (σ.set i (some v)) H
theorem K3 {i : Nat} {x : Str} (hN : X.N.Nodup) (hi : X.N[i]? = some x) (hx : Loc X.env.scope x) (hf : X.fn x = true \/ X.env.scope.names.lookup x = some .local := by first | exact .inl rfl | exact .inr rfl | assumption) : PG X (.Name x pos) (W4 i) := by
 intro pins s σ H v u Q I r h
 exact wpAny_assign_Name (B1a I hN hi hx r (fun s' I' => ⟨_, H, I', h⟩) hf)
def A8e : TGs := fun vs σ H Q => vs = [] /\ Q σ H
def j6 (t : TG) (u : TGs) : TGs := fun vs σ H Q => ∃ v r, vs = v :: r /\ t v σ H fun σ' H' => u r σ' H' Q
theorem A0p : PGs X [] A8e := by
 intro pins s σ H vs us Q I r h
 obtain ⟨e, h⟩ := h
 subst e
 cases r
 exact assignInOrder_nil ⟨σ, H, I, h⟩
theorem S3 {e : Expr} {es : List Expr} {t : TG} {u : TGs} (h1 : PG X e t) (h2 : PGs X es u)
  (hs : (assignEach (e :: es) X.env).map (·.2) = assign e X.env :: (assignEach es X.env).map (·.2) := by rfl) : PGs X (e :: es) (j6 t u) := by
 intro pins s σ H vs us Q I r h
 obtain ⟨v, vr, e1, h⟩ := h
 subst e1
 cases r with
 | cons r rr =>
  rw [hs]
  refine assignInOrder_cons (thn (h1 pins s σ H _ _ _ I r h) fun _ s1 zz23 => zz23.elim fun σ1 zz24 => zz24.elim fun H1 zz25 => zz25.elim fun I1 q1 => ?_)
  exact h2 pins s1 σ1 H1 _ _ Q I1 rr q1
def A8f (K : A4) (n : Nat) (t : TGs) : TG := fun v σ H Q => ∃ a xs, v = .ref a /\ SqT K H a xs /\ xs.length = n /\ t xs σ H Q
theorem A0q {es : List Expr} {k : Nat} {t : TGs} {n : Nat} (hc : X.calm = true) (h : PGs X es t)
  (hn : (assignEach es X.env).length = n := by rfl) (hst : (assignEach es X.env).findIdx? (·.1) = none := by rfl) : PG X (.Tuple es k pos) (A8f X.K n t) := by
 intro pins s σ H v u Q I r hw
 obtain ⟨a, xs, e1, hq, hl, hw⟩ := hw
 subst e1
 cases r
 obtain ⟨its, rv, ht, hz⟩ := I.tuple hq
 refine assign_Tuple_tuple (I.ok.hd hc) ht (by simp [hn, <- hl, rv.length]) hst fun h' hx => ?_
 have I1 : Inv X pins σ H { s with heap := h' } := I.kept (t' := s.toks) fun b o e => hx b o (N0 (G8 e)) e
 exact h pins _ σ H xs _ Q I1 (by simpa using rv) hw
def A9l (to ti : TE) (t : A8d) : TG := fun v σ H Q => to σ H fun o H1 => ti σ H1 fun i H2 => t o i v H2 fun H3 => Q σ H3
theorem V4 {o i : Expr} {to ti : TE} {t : A8d} (ho : PE X o to) (hi : PE X i ti) (hs : B1f X t)
  (ha : ∀ v, assign (.Subscript o i pos) X.env v = (do
   let ov <- holding [v] (eval o X.env)
   let iv <- holding [v, ov] (eval i X.env)
   standAt pos
   holding [v, ov, iv] (setItem ov iv v)
   release [v, ov, iv] []) := by intro _; rfl) : PG X (.Subscript o i pos) (A9l to ti t) := by
 intro pins s σ H v u Q I r h
 rw [ha]
 refine wpAny_bind (wpAny_holding (thn (ho pins s σ H _ I h) fun ov s1 zz26 => el5 zz26 fun x H1 I1 r1 q1 => ?_))
 refine wpAny_bind (wpAny_holding (thn (hi pins s1 σ H1 _ I1 q1) fun iv s2 zz27 => el5 zz27 fun y H2 I2 r2 q2 => ?_))
 refine wpAny_bind (wpAny_standAt (wpAny_bind (wpAny_holding (thn (hs pins s2 σ H2 x y v ov iv u _ I2 r1 r2 r q2) fun _ s3 zz28 => el2 zz28 fun H3 I3 q3 => ?_))))
 exact wpAny_release ⟨σ, H3, I3, q3⟩
def A0r (te : TE) (g : TG) : TS := fun D σ H => te σ H fun x H1 => g x σ H1 D.nx
theorem S9 {tg e : Expr} {te : TE} {g : TG} (he : PE X e te) (hg : PG X tg g) (hs : swapsWithSole [tg] e pos.line X.env = pure false := by rfl) (hw : swappedStores [tg] e X.env = pure none := by rfl)
  (h1 : (assignEach [tg] X.env).map (·.2) = [assign tg X.env] := by rfl) : PS X (.Assign [tg] e pos) (A0r te g) := by
 intro pins s σ H D I h
 refine wpAny_Assign_stores (thn (he pins s σ H _ I h) fun v s1 zz29 => el5 zz29 fun x H1 I1 r1 q1 => ?_) hs hw
 rw [h1]
 exact thn (hg pins s1 σ H1 x v _ I1 r1 q1) fun _ s2 q => q
theorem C8 {i : Nat} {x : Str} {e : Expr} {te : TE} {pos' : Pos} (hN : X.N.Nodup) (hi : X.N[i]? = some x) (hx : Loc X.env.scope x) (he : PE X e te) (hs : swapsWith e (some (.Name x pos')) pos.line X.env = pure false := by rfl) (hf : X.fn x = true \/ X.env.scope.names.lookup x = some .local := by first | exact .inl rfl | exact .inr rfl | assumption) :
  PS X (.Assign [.Name x pos'] e pos) (A0r te (W4 i)) := by
 intro pins s σ H D I h
 refine wpAny_Assign_Name (thn (he pins s σ H _ I h) fun v s1 zz30 => el5 zz30 fun y H1 I1 r1 q1 => ?_) hs
 exact B1a I1 hN hi hx r1 (fun s2 I2 => ⟨_, H1, I2, q1⟩) hf
def C0e (to ti te : TE) (tget : V -> V -> Hp -> VK -> Prop) (tip : TIp) (tset : A8d) : TS := fun D σ H => to σ H fun o H1 => ti σ H1 fun i H2 => tget o i H2 fun x H3 => te σ H3 fun y H4 => tip x y H4 fun z H5 => tset o i z H5 fun H6 => D.nx σ H6
def B4l (X : Cx) (t : V -> V -> Hp -> VK -> Prop) : Prop :=
 ∀ (pins : List (Addr × Obj)) (s : Shared) (σ : St) (H : Hp) (o i : V) (ov iv : Value) (Q : VK), Inv X pins σ H s -> F7 o ov -> F7 i iv -> t o i H Q ->
  wpAny (model X.prog X.w) X.A (getItem ov iv) (EP X pins σ Q) X.xe s
theorem B4m {o i e : Expr} {to ti te : TE} {tget : V -> V -> Hp -> VK -> Prop} {tip : TIp} {tset : A8d} {op : Operator} {tpos : Pos} (ho : PE X o to) (hi : PE X i ti) (hg : B4l X tget) (he : PE X e te) (hp : PIp X op tip) (hs : B1f X tset)
  (ha : ∀ ov iv new, augStore i ov iv new = (do holding [new, ov, iv] (setItem ov iv new); release [new, ov, iv] []; pure .next) := by intros; rfl) : PS X (.AugAssign (.Subscript o i tpos) op e pos) (C0e to ti te tget tip tset) := by
 intro pins s σ H D I h
 refine wpAny_AugAssign_SubscriptAny (thn (ho pins s σ H _ I h) fun ov s1 zz34 => el5 zz34 fun x1 H1 I1 r1 q1 => ?_) ha
 refine thn (hi pins s1 σ H1 _ I1 q1) fun iv s2 zz35 => el5 zz35 fun x2 H2 I2 r2 q2 => ?_
 refine thn (hg pins s2 σ H2 x1 x2 ov iv _ I2 r1 r2 q2) fun old s3 zz36 => el5 zz36 fun x3 H3 I3 r3 q3 => ?_
 refine thn (he pins s3 σ H3 _ I3 q3) fun v s4 zz37 => el5 zz37 fun x4 H4 I4 r4 q4 => ?_
 refine thn (hp pins s4 σ H4 x3 x4 old v _ I4 r3 r4 q4) fun new s5 zz38 => el5 zz38 fun x5 H5 I5 r5 q5 => ?_
 exact thn (hs pins s5 σ H5 x1 x2 x5 ov iv new _ I5 r1 r2 r5 q5) fun _ s6 zz39 => el2 zz39 fun H6 I6 q6 => ⟨σ, H6, I6, q6⟩
def ipI (f : Int -> Int -> Int) : TIp := fun x y H Q => ∃ i j, x = .int i /\ y = .int j /\ Q (.int (f i j)) H
theorem C0f : PIp X .Add (ipI fun i j => i + j) := by
 intro pins s σ H x y v u Q I r1 r2 h
 obtain ⟨i, j, e1, e2, q⟩ := h
 subst e1; subst e2
 obtain ⟨t, rfl⟩ := r1
 obtain ⟨t', rfl⟩ := r2
 exact iadd_int ⟨.int _, H, I.tok _, ⟨_, rfl⟩, q⟩
theorem C0g : PIp X .Sub (ipI fun i j => i - j) := by
 intro pins s σ H x y v u Q I r1 r2 h
 obtain ⟨i, j, e1, e2, q⟩ := h
 subst e1; subst e2
 obtain ⟨t, rfl⟩ := r1
 obtain ⟨t', rfl⟩ := r2
 exact isub_int ⟨.int _, H, I.tok _, ⟨_, rfl⟩, q⟩
end
section
variable {X : Cx} {pos : Pos}
def B1g (c : TT) (tb : TS) : TS := fun D σ H => ∃ W : Nat -> St -> Hp -> Prop, (∃ m, W m σ H) /\ ∀ m σ H, W m σ H ->
 c σ H fun b H1 => if b = true then ∃ N : St -> Hp -> Prop, (∀ σ' H', N σ' H' -> ∃ m', m' < m /\ W m' σ' H') /\ tb { D with nx := N, ct := N, bk := D.nx } σ H1 else D.nx σ H1
theorem A8g {c : Expr} {body : List Stmt} {tc : TT} {tb : TS} (hp : PassesOwn (model X.prog X.w) X.A X.env X.xe) (hc : PT X c tc) (hb : PSs X body tb) : PS X (.While c body [] pos) (B1g tc tb) := by
 intro pins s σ H D I h
 obtain ⟨W, ⟨m0, w0⟩, turn⟩ := h
 refine wpAny_While (codeAny_whileLoop (fun n s' => ∃ σ' H', Inv X pins σ' H' s' /\ W n σ' H') ?_ m0 ⟨σ, H, I, w0⟩)
 rintro n s1 ⟨σ1, H1, I1, w1⟩
 refine wpAny_passesOwn hp (thn (hc pins s1 σ1 H1 _ I1 (turn n σ1 H1 w1)) fun b s2 zz40 => el2 zz40 fun H2 I2 q2 => ?_)
 cases b with
 | true =>
  obtain ⟨N, hN, q2⟩ := q2
  rw [if_pos rfl]
  refine wpAny_passesOwn hp (thn (hb pins s2 σ1 H2 _ I2 q2) fun f s3 q3 => ?_)
  cases f with
  | next =>
   obtain ⟨σ3, H3, I3, n3⟩ := q3
   obtain ⟨m', hm, w3⟩ := hN σ3 H3 n3
   exact ⟨m', hm, σ3, H3, I3, w3⟩
  | cont =>
   obtain ⟨σ3, H3, I3, n3⟩ := q3
   obtain ⟨m', hm, w3⟩ := hN σ3 H3 n3
   exact ⟨m', hm, σ3, H3, I3, w3⟩
  | brk => exact q3
  | ret v => exact q3
 | false =>
  rw [if_neg S0]
  exact wpAny_execs_nil ⟨σ1, H2, I2, q2⟩
end
structure It where
 go : Nat -> Hp -> Prop
 yld : Nat -> Hp -> V -> Hp -> Prop
 stop : Nat -> Hp -> Prop
def T0 (X : Cx) (pins : List (Addr × Obj)) (H : Hp) (b : Addr) : Prop :=
 H b = none /\ b ≠ X.env.locals /\ b ∉ X.fs /\ (b ∈ X.ex \/ X.s₀.heap.objs.size <= b) /\ (∀ x c, X.env.cells.lookup x = some c -> c ≠ b) /\ ∀ p ∈ X.pn ++ pins, p.1 ≠ b
theorem Inv.fpOk {X : Cx} {pins : List (Addr × Obj)} {σ : St} {H H' : Hp} {s : Shared} {b : Addr} (I : Inv X pins σ H s) (hb : s.heap.objs.size <= b) (hn : H' b = none) : T0 X pins H' b := by
 refine ⟨hn, B0y (Q5 I.lt hb), I.nofs hb, .inr (Y9 I.sz hb), fun x c e z => ?_, fun p hp z => ?_⟩
 ·obtain ⟨v, q⟩ := I.cell x c e
  exact absurd (Q5 q.lt (by rw [z]; exact hb)) (V3 _)
 ·exact absurd (Q5 (G8 (I.pin p hp).1) (by rw [z]; exact hb)) (V3 _)
structure A0s (P : Program) (w : World) (K : A4) (tg : Expr) (J : It) (fp : List Addr) (it : Addr) (tn : Nat -> Heap -> Prop) : Prop where
 mem : it ∈ fp
 obj : ∀ i h, tn i h -> ∀ b ∈ fp, ∃ o, h.get? b = some o /\ ∀ v, o.data ≠ .cell v
 keep : ∀ i h h', tn i h -> (∀ b ∈ fp, ∀ o, h.get? b = some o -> h'.get? b = some o) -> tn i h'
 item : ∀ (X : Cx), X.prog = P -> X.w = w -> X.K = K -> X.calm = true -> ∀ (i : Nat) (pins : List (Addr × Obj)) (s : Shared) (σ : St) (H : Hp) (E : Value -> Shared -> Prop), Inv X pins σ H s -> (∀ b ∈ fp, T0 X pins H b) -> tn i s.heap -> J.go i H ->
  wpAny (model P w) X.A (pyNext (.ref it)) (fun r s1 => ∃ u, r = some u /\
   wpAny (model P w) X.A (letOwnedTupleGo tg (.ref it) u) (fun _ s2 => ∃ x H', Inv X pins σ H' s2 /\ F7 x u /\ J.yld i H x H' /\ tn (i + 1) s2.heap /\ ∀ b ∈ fp, H' b = none) E s1) E s
 done : ∀ (X : Cx), X.prog = P -> X.w = w -> X.K = K -> X.calm = true -> ∀ (i : Nat) (pins : List (Addr × Obj)) (s : Shared) (σ : St) (H : Hp) (E : Value -> Shared -> Prop), Inv X pins σ H s -> (∀ b ∈ fp, T0 X pins H b) -> tn i s.heap -> J.stop i H ->
  wpAny (model P w) X.A (pyNext (.ref it)) (fun r s1 => r = none /\ Inv X pins σ H s1) E s
 self : ∀ (A : Around) (i : Nat) (s : Shared) (Q : Value -> Shared -> Prop) (E : Value -> Shared -> Prop), tn i s.heap -> Q (.ref it) s -> wpAny (model P w) A (pyIter (.ref it)) Q E s
abbrev TI := St -> Hp -> (It -> Hp -> Prop) -> Prop
def PIE (X : Cx) (pins : List (Addr × Obj)) (σ : St) (tg : Expr) (R : It -> Hp -> Prop) (itv : Value) (s2 : Shared) : Prop :=
 ∃ (it : Addr) (fp : List Addr) (tn : Nat -> Heap -> Prop) (J : It) (H' : Hp), itv = .ref it /\ Inv X pins σ H' s2 /\ A0s X.prog X.w X.K tg J fp it tn /\ tn 0 s2.heap /\ (∀ b ∈ fp, T0 X pins H' b) /\ R J H'
def PI (X : Cx) (tg iter : Expr) (wi : TI) : Prop :=
 ∀ (pins : List (Addr × Obj)) (s : Shared) (σ : St) (H : Hp) (R : It -> Hp -> Prop), Inv X pins σ H s -> wi σ H R ->
  wpAny (model X.prog X.w) X.A (eval iter X.env) (fun v s1 => wpAny (model X.prog X.w) X.A (pyIter v) (PIE X pins σ tg R) X.xe s1) X.xe s
theorem B1h {M : Model} {A : Around} {E : Value -> Shared -> Prop} {s : Shared} {tg : Expr} {it : Addr} {u : Value} {o : Obj} {n : String} {vs : Array Value} {Q : Unit -> Shared -> Prop} (ho : s.heap.get? it = some o) (hc : o.cls = .type n) (hd : o.data = .fields vs)
  (hn : ["enumerate", "zip", "dict_itemiterator", "dict_reverseitemiterator", "odict_iterator", "itertools.zip_longest", "itertools.pairwise"].contains n = false) (hQ : Q () s) : wpAny M A (letOwnedTupleGo tg (.ref it) u) Q E s := by
 unfold letOwnedTupleGo
 cases tg <;> first
  | exact wpAny_pure hQ
  | (cases u <;> first
    | exact wpAny_pure hQ
    | (refine wpAny_bind (wpAny_load ho ?_)
       rw [hc, hd]
       show wpAny M A (if (["enumerate", "zip", "dict_itemiterator", "dict_reverseitemiterator", "odict_iterator", "itertools.zip_longest", "itertools.pairwise"].contains n && vs[0]? == some (rawInt _)) = true then _ else _) Q E s
       rw [if_neg (by intro h; rw [hn, Bool.false_and] at h; cases h)]
       exact wpAny_pure hQ))
def Itl (K : A4) (a : Addr) : It :=
 ⟨fun i H => ∃ xs x, SqL K H a xs /\ xs[i]? = some x, fun i H x H' => H' = H /\ ∀ xs, SqL K H a xs -> xs[i]? = some x, fun i H => ∃ xs, SqL K H a xs /\ xs.length <= i⟩
def Itr (lo : Int) (n : Nat) : It := ⟨fun i _ => i < n, fun i H x H' => H' = H /\ x = .int (lo + i), fun i _ => n <= i⟩
theorem C0h {P : Program} {w : World} {K : A4} {tg : Expr} (a it : Addr) : A0s P w K tg (Itl K a) [it] it (fun i h => h.IsListIter it a i) where
 mem := by simp
 obj := fun i h st b hb => by
  have e : b = it := by simpa using hb
  subst e
  obtain ⟨o, e, c, d⟩ := st
  exact ⟨o, e, fun v z => by rw [d] at z; cases z⟩
 keep := fun i h h' st k => st.at fun o e => k it (by simp) o e
 item := by
  intro X hP hw hK hc i pins s σ H E I hf st hg
  subst hP hw hK
  obtain ⟨xs, x, hq, hx⟩ := hg
  obtain ⟨its, rv, p, hz⟩ := I.list hq
  obtain ⟨u, hu, ru⟩ := rv.get hx
  obtain ⟨f0, f1, f2, f3, f4, f5⟩ := hf it (by simp)
  refine wpAny_pyNext_list_item st p.isList (x := u) (by simpa using hu) fun h' st' sb => ?_
  have I1 : Inv X pins σ H { s with heap := h' } := I.turned (t' := s.toks) (fun b o hb e => (sb.2 b hb).trans e) f0 f1 f3 f4 f5
  obtain ⟨o, e, c, d⟩ := id st'
  exact ⟨u, rfl, B1h (s := { s with heap := h' }) e c d (by decide) ⟨x, H, I1, ru, ⟨rfl, fun ys hy => by rw [I.list_inj hy hq]; exact hx⟩, st', fun b hb => (hf b hb).1⟩⟩
 done := by
  intro X hP hw hK hc i pins s σ H E I hf st hg
  subst hP hw hK
  obtain ⟨xs, hq, hx⟩ := hg
  obtain ⟨its, rv, p, hz⟩ := I.list hq
  obtain ⟨f0, f1, f2, f3, f4, f5⟩ := hf it (by simp)
  have hl := rv.length
  exact wpAny_pyNext_list_end (I.ok.hd hc) st p.isList (by simp; lia) fun h' eb => ⟨rfl, I.turned (t' := s.toks) (fun b o hb e => eb b o hb e) f0 f1 f3 f4 f5⟩
 self := fun _ _ _ _ _ st h => wpAny_pyIter_listiter st h
theorem C0i {P : Program} {w : World} {K : A4} {tg : Expr} (it : Addr) (lo : Int) (n : Nat) : A0s P w K tg (Itr lo n) [it] it (fun i h => IsRangeIter h it (lo + (i : Nat) * 1) ((n : Int) - (i : Nat)) 1) where
 mem := by simp
 obj := fun i h st b hb => by
  have e : b = it := by simpa using hb
  subst e
  exact ⟨_, st, fun v z => by
   have z' : Data.fields _ = Data.cell v := z
   cases z'⟩
 keep := fun i h h' st k => k it (by simp) _ st
 item := by
  intro X hP hw hK hc i pins s σ H E I hf st hg
  subst hP hw hK
  obtain ⟨f0, f1, f2, f3, f4, f5⟩ := hf it (by simp)
  have W := Walks.range (prog := X.prog) (w := X.w) (I.ok.hd hc) it lo 1 n
  refine W.item i s _ _ hg st fun v h' tk hv st' kk => ?_
  obtain ⟨t, rfl⟩ := hv
  have I1 : Inv X pins σ H { s with heap := h', toks := tk } := I.turned (fun b o hb e => kk b o (by simpa using hb) e) f0 f1 f3 f4 f5
  refine ⟨_, rfl, B1h (s := { s with heap := h', toks := tk }) (n := "range_iterator") st' rfl rfl (by decide) ⟨.int (lo + i), H, I1, ⟨t, ?_⟩, ⟨rfl, rfl⟩, st', fun b hb => (hf b hb).1⟩⟩
  rw [Int.mul_one]
 done := by
  intro X hP hw hK hc i pins s σ H E I hf st hg
  subst hP hw hK
  obtain ⟨f0, f1, f2, f3, f4, f5⟩ := hf it (by simp)
  exact wpAny_pyNext_range_end (I.ok.hd hc) st (by have : n <= i := hg; lia) fun h' eb => ⟨rfl, I.turned (t' := s.toks) (fun b o hb e => eb b o hb e) f0 f1 f3 f4 f5⟩
 self := fun _ _ _ _ _ st h => wpAny_pyIter_rangeiter st h
end L2
namespace L2
open PySem PySem.Spec PyProof.Rows
section
variable {X : Cx} {tg : Expr}
def C0j (K : A4) (tl : TE) : TI := fun σ H R => tl σ H fun x H1 => ∃ a, x = .ref a /\ (∃ xs, SqL K H1 a xs) /\ R (Itl K a) H1
theorem B4n {l : Expr} {tl : TE} (hl : PE X l tl) : PI X tg l (C0j X.K tl) := by
 intro pins s σ H R I h
 refine thn (hl pins s σ H _ I h) fun v s1 zz41 => el5 zz41 fun x H1 I1 r1 q1 => ?_
 obtain ⟨a, e, ⟨xs, hq⟩, q⟩ := q1
 subst e
 cases r1
 obtain ⟨its, rv, p, hz⟩ := I1.list hq
 refine wpAny_pyIter_list p.isList ?_
 refine ⟨s1.heap.objs.size, [s1.heap.objs.size], _, _, H1, rfl, I1.kept (t' := s1.toks) fun b o e => S1 _ e, C0h a _, ⟨_, W1 _ rfl, rfl, rfl⟩, fun b hb => ?_, q⟩
 have e : b = s1.heap.objs.size := by simpa using hb
 subst e
 exact I1.fpOk (F6 _) (I1.hok.fresh (F6 _))
theorem C0k {pins : List (Addr × Obj)} {σ : St} {H : Hp} {s : Shared} {R : It -> Hp -> Prop} {E : Value -> Shared -> Prop} {lo hi : Int} {t u v : Tok} {tk : Nat} (I : Inv X pins σ H s) (h1 : -(2 ^ 62) <= lo) (h2 : lo < 2 ^ 62) (h3 : -(2 ^ 62) <= hi) (h4 : hi < 2 ^ 62)
  (q : R (Itr lo (hi - lo).toNat) H) : wpAny (model X.prog X.w) X.A (pyIter (.ref s.heap.objs.size)) (PIE X pins σ tg R) E { s with heap := s.heap.push { cls := .type "range", data := .fields #[.int lo t, .int hi u, .int 1 v] }, toks := tk } := by
 refine wpAny_pyIter_range (IsRange.new ..) (small_one h1 h2 h3 h4) ?_
 have I1 : Inv X pins σ H { s with heap := s.heap.push { cls := .type "range", data := .fields #[.int lo t, .int hi u, .int 1 v] }, toks := tk } := I.kept fun b o e => S1 _ e
 refine ⟨(s.heap.push { cls := .type "range", data := .fields #[.int lo t, .int hi u, .int 1 v] }).objs.size, [(s.heap.push { cls := .type "range", data := .fields #[.int lo t, .int hi u, .int 1 v] }).objs.size], _, _, H, rfl,
  I1.kept (t' := tk) fun b o e => S1 _ e, C0i _ lo (hi - lo).toNat, ?_, fun b hb => ?_, q⟩
 ·have e1 : lo + ((0 : Nat) : Int) * 1 = lo := by simp
  have e2 : (((hi - lo).toNat : Nat) : Int) - ((0 : Nat) : Int) = Builtin.Range.rangeSize lo hi 1 := by rw [rangeSize_one]; split <;> lia
  show IsRangeIter _ _ (lo + ((0 : Nat) : Int) * 1) ((((hi - lo).toNat : Nat) : Int) - ((0 : Nat) : Int)) 1
  rw [e1, e2]
  exact W1 _ rfl
 ·have e : b = (s.heap.push { cls := .type "range", data := .fields #[.int lo t, .int hi u, .int 1 v] }).objs.size := by simpa using hb
  subst e
  exact I1.fpOk (F6 _) (I1.hok.fresh (F6 _))
def B4o (ta : TA) : TI := fun σ H R => ta σ H fun vs H1 => ∃ j : Int, vs = [.int j] /\ -(2 ^ 62) <= j /\ j < 2 ^ 62 /\ R (Itr 0 j.toNat) H1
theorem T8 {a : Expr} {ta : TA} {p pos : Pos} (hg : Gl X "range") (hm : X.mg "range" = none) (ha : PA X [a] ta) (hs : starEach [a] X.env = [(false, eval a X.env)] := by rfl) : PI X tg (.Call (.Name "range" p) [a] [] pos) (B4o ta) := by
 intro pins s σ H R I h
 refine Call_ (p9 I hg hm boot_range (PyProof.Rows.callWith_type1 (thn (ha pos pins s σ H _ I h) fun us s1 zz43 => el5 zz43 fun vs H1 I1 r1 q1 => ?_) hs rfl))
 obtain ⟨j, e, q1, q2, q⟩ := q1
 subst e
 cases r1 with
 | cons r rr =>
  cases rr
  obtain ⟨t, rfl⟩ := r
  exact call_range_1 (C0k I1 (by lia) (by lia) q1 q2 (by simpa using q))
def B4p (wi : TI) (g : TG) (tb : TS) : TS := fun D σ H => wi σ H fun J H1 => ∃ W : Nat -> Nat -> St -> Hp -> Prop, (∃ m, W 0 m σ H1) /\ ∀ i m σ H, W i m σ H ->
 (J.stop i H /\ D.nx σ H) \/ (J.go i H /\ ∃ N : St -> Hp -> Prop, (∀ σ' H', N σ' H' -> ∃ m', m' < m /\ W (i + 1) m' σ' H') /\ ∀ x H', J.yld i H x H' -> g x σ H' fun σ2 H2 => tb { D with nx := N, ct := N, bk := D.nx } σ2 H2)
def A4w (fp : List Addr) (h : Heap) : List (Addr × Obj) := fp.filterMap fun b => (h.get? b).map fun o => (b, o)
theorem A4x {fp : List Addr} {h : Heap} {b : Addr} {o : Obj} (hb : b ∈ fp) (e : h.get? b = some o) : (b, o) ∈ A4w fp h := List.mem_filterMap.mpr ⟨b, hb, by rw [e]; rfl⟩
theorem C0l {fp : List Addr} {h : Heap} {p : Addr × Obj} (hp : p ∈ A4w fp h) : p.1 ∈ fp /\ h.get? p.1 = some p.2 := by
 obtain ⟨b, hb, e⟩ := List.mem_filterMap.mp hp
 cases q : h.get? b with
 | none => rw [q] at e; cases e
 | some o =>
  rw [q] at e
  have e' : (b, o) = p := Option.some.inj e
  subst e'
  exact ⟨hb, q⟩
theorem Inv.pinned {pins : List (Addr × Obj)} {σ : St} {H : Hp} {s : Shared} {fp : List Addr} (I : Inv X pins σ H s) (hf : ∀ b ∈ fp, T0 X pins H b) (ho : ∀ b ∈ fp, ∃ o, s.heap.get? b = some o /\ ∀ v, o.data ≠ .cell v) : Inv X (pins ++ A4w fp s.heap) σ H s :=
 I.pins_of fun p hp => (X5.mp hp).elim (fun z => I.pin p (S8 _ z)) fun z => by
  obtain ⟨hb, e⟩ := C0l z
  obtain ⟨f0, f1, f2, _⟩ := hf p.1 hb
  obtain ⟨o, e', d⟩ := ho p.1 hb
  rw [e] at e'; cases e'
  exact ⟨e, f0, f1, f2, d⟩
theorem Inv.unpinned {pins pl : List (Addr × Obj)} {σ : St} {H : Hp} {s : Shared} (I : Inv X (pins ++ pl) σ H s) : Inv X pins σ H s := I.pins_of fun p hp => I.pin p (S8 _ (A84 _ hp))
theorem P0 {iter : Expr} {body : List Stmt} {wi : TI} {g : TG} {tb : TS} {pos : Pos} (hp : PassesOwn (model X.prog X.w) X.A X.env X.xe) (hc : X.calm = true) (hi : PI X tg iter wi) (hg : PG X tg g) (hb : PSs X body tb)
  (hs : ∀ x, foldedSetIterable iter X.env x = pure x := by intro _; rfl) : PS X (.For tg iter body [] pos) (B4p wi g tb) := by
 intro pins s σ H D I h
 refine wpAny_For (thn (hi pins s σ H _ I h) fun v s1 h1 => thn h1 fun itv s2 h2 => ?_) hs
 obtain ⟨it, fp, tn, J, H2, e, I2, T, st2, f2, W, ⟨m0, w0⟩, turn⟩ := h2
 subst e
 have stat : ∀ {H' : Hp}, (∀ b ∈ fp, H' b = none) -> ∀ b ∈ fp, T0 X pins H' b := fun hn b hb => ⟨hn b hb, (f2 b hb).2⟩
 refine codeAny_forLoop_any (fun n s' => ∃ i σ' H', Inv X pins σ' H' s' /\ tn i s'.heap /\ (∀ b ∈ fp, H' b = none) /\ W i n σ' H') ?_ m0 ⟨0, σ, H2, I2, st2, fun b hb => (f2 b hb).1, w0⟩
 rintro n s3 ⟨i, σ3, H3, I3, st3, fr3, w3⟩
 rcases turn i n σ3 H3 w3 with ⟨stop, qn⟩ | ⟨go, N, hN, step⟩
 ·refine wpAny_passesOwn hp (thn (T.done X rfl rfl rfl hc i pins s3 σ3 H3 X.xe I3 (stat fr3) st3 stop) fun r s4 zz45 => zz45.elim fun hr I4 => ?_)
  subst hr
  exact wpAny_execs_nil ⟨σ3, H3, I4, qn⟩
 ·refine wpAny_passesOwn hp (thn (T.item X rfl rfl rfl hc i pins s3 σ3 H3 X.xe I3 (stat fr3) st3 go) fun r s4 zz46 => el2 zz46 fun u hr h4 => ?_)
  subst hr
  refine wpAny_passesOwn hp (thn h4 fun _ s5 zz47 => zz47.elim fun x zz48 => zz48.elim fun H5 zz49 => zz49.elim fun I5 zz50 => zz50.elim fun r5 zz51 => zz51.elim fun y5 zz52 => zz52.elim fun st5 fr5 => ?_)
  have I5' := I5.pinned (stat fr5) (T.obj _ _ st5)
  refine wpAny_passesOwn hp (thn (hg _ s5 σ3 H5 x u _ I5' r5 (step x H5 y5)) fun _ s6 zz53 => zz53.elim fun σ6 zz54 => zz54.elim fun H6 zz55 => zz55.elim fun I6 q6 => ?_)
  refine wpAny_passesOwn hp (thn (hb _ s6 σ6 H6 _ I6 q6) fun f s7 q7 => ?_)
  have again : ∀ {σ7 : St} {H7 : Hp}, Inv X (pins ++ A4w fp s5.heap) σ7 H7 s7 -> N σ7 H7 -> ∃ m, m < n /\ ∃ i σ' H', Inv X pins σ' H' s7 /\ tn i s7.heap /\ (∀ b ∈ fp, H' b = none) /\ W i m σ' H' := fun {σ7 H7} I7 n7 => by
   obtain ⟨m', hm, w7⟩ := hN σ7 H7 n7
   refine ⟨m', hm, i + 1, σ7, H7, I7.unpinned, T.keep _ _ _ st5 fun b hb o e => (I7.pin (b, o) (S8 _ (S8 _ (A4x hb e)))).1, fun b hb => ?_, w7⟩
   obtain ⟨o, e, d⟩ := T.obj _ _ st5 b hb
   exact (I7.pin (b, o) (S8 _ (S8 _ (A4x hb e)))).2.1
  cases f with
  | next => obtain ⟨σ7, H7, I7, n7⟩ := q7; exact again I7 n7
  | cont => obtain ⟨σ7, H7, I7, n7⟩ := q7; exact again I7 n7
  | brk => obtain ⟨σ7, H7, I7, q7⟩ := q7; exact ⟨σ7, H7, I7.unpinned, q7⟩
  | ret v => obtain ⟨x7, σ7, H7, I7, r7, q7⟩ := q7; exact ⟨x7, σ7, H7, I7.unpinned, r7, q7⟩
end
theorem C0m {c : TT} {tb : TS} {D : A0n} {σ : St} {H : Hp} (Pv : St -> Hp -> Prop) (μ : St -> Hp -> Nat) (h0 : Pv σ H)
  (hs : ∀ σ H, Pv σ H -> c σ H fun b H1 => if b = true then tb { D with nx := fun σ' H' => Pv σ' H' /\ μ σ' H' < μ σ H, ct := fun σ' H' => Pv σ' H' /\ μ σ' H' < μ σ H, bk := D.nx } σ H1 else D.nx σ H1)
  (mono : ∀ σ H Q Q', (∀ b H1, Q b H1 -> Q' b H1) -> c σ H Q -> c σ H Q') : B1g c tb D σ H := by
 refine ⟨fun m σ H => m = μ σ H /\ Pv σ H, ⟨_, rfl, h0⟩, ?_⟩
 rintro m σ H ⟨rfl, p⟩
 refine mono σ H _ _ (fun b H1 q => ?_) (hs σ H p)
 cases b with
 | true => exact ⟨_, fun σ' H' zz56 => zz56.elim fun p' l => ⟨_, l, rfl, p'⟩, q⟩
 | false => exact q
end L2
namespace L2
open PySem PySem.Spec PyProof.Rows
abbrev R2 := V -> V -> Hp -> VK -> Prop
def OpR (X : Cx) (f : Value -> Value -> Sem Value) (r : R2) : Prop :=
 ∀ (pins : List (Addr × Obj)) (s : Shared) (σ : St) (H : Hp) (x y : V) (v u : Value) (Q : VK), Inv X pins σ H s -> F7 x v -> F7 y u -> r x y H Q ->
  wpAny (model X.prog X.w) X.A (f v u) (EP X pins σ Q) X.xe s
def UnR (X : Cx) (f : Value -> Sem Value) (r : V -> Hp -> VK -> Prop) : Prop :=
 ∀ (pins : List (Addr × Obj)) (s : Shared) (σ : St) (H : Hp) (x : V) (v : Value) (Q : VK), Inv X pins σ H s -> F7 x v -> r x H Q ->
  wpAny (model X.prog X.w) X.A (f v) (EP X pins σ Q) X.xe s
def X6 (X : Cx) (f : Value) (r : List V -> Hp -> VK -> Prop) : Prop :=
 ∀ (pins : List (Addr × Obj)) (s : Shared) (σ : St) (H : Hp) (xs : List V) (us : List Value) (Q : VK), Inv X pins σ H s -> D5 xs us -> r xs H Q ->
  wpAny (model X.prog X.w) X.A (call f us) (EP X pins σ Q) X.xe s
def tOp (r : R2) (ta tb : TE) : TE := fun σ H Q => ta σ H fun x H1 => tb σ H1 fun y H2 => r x y H2 Q
def tUn (r : V -> Hp -> VK -> Prop) (ta : TE) : TE := fun σ H Q => ta σ H fun x H1 => r x H1 Q
def rI (C : Int -> Int -> Prop) (g : Int -> Int -> V) : R2 := fun x y H Q => ∃ i j, x = .int i /\ y = .int j /\ C i j /\ Q (g i j) H
def rI0 (g : Int -> Int -> V) : R2 := fun x y H Q => ∃ i j, x = .int i /\ y = .int j /\ Q (g i j) H
def rU (g : Int -> V) : V -> Hp -> VK -> Prop := fun x H Q => ∃ i, x = .int i /\ Q (g i) H
section
variable {X : Cx} {a b c : Expr} {ta tb tc : TE} {pos : Pos}
theorem B1i (ha : PE X a ta) (hb : PE X b tb) {pins : List (Addr × Obj)} {s : Shared} {σ : St} {H : Hp} {R : V -> V -> Hp -> Prop} (I : Inv X pins σ H s)
  (h : ta σ H fun x H1 => tb σ H1 fun y H2 => R x y H2) {Q : Value -> Shared -> Prop} {f : Value -> Value -> Sem Value}
  (hf : ∀ v u s2 x y H2, Inv X pins σ H2 s2 -> F7 x v -> F7 y u -> R x y H2 -> wpAny (model X.prog X.w) X.A (f v u) Q X.xe s2) :
  wpAny (model X.prog X.w) X.A (eval a X.env) (fun v s₁ => wpAny (model X.prog X.w) X.A (eval b X.env) (fun u s₂ => wpAny (model X.prog X.w) X.A (f v u) Q X.xe s₂) X.xe s₁) X.xe s := by
 refine thn (ha pins s σ H _ I h) fun v s1 zz57 => el5 zz57 fun x H1 I1 r1 q1 => ?_
 refine thn (hb pins s1 σ H1 _ I1 q1) fun u s2 zz58 => el5 zz58 fun y H2 I2 r2 q2 => ?_
 exact hf v u s2 x y H2 I2 r1 r2 q2
theorem O2 {op : Operator} {r : R2} (ho : OpR X (binaryOp op) r) (ha : PE X a ta) (hb : PE X b tb) : PE X (.BinOp a op b pos) (tOp r ta tb) := by
 intro pins s σ H Q I h
 exact wpAny_BinOp (B1i ha hb I h fun v u s2 x y H2 I2 rx ry q => ho pins s2 σ H2 x y v u Q I2 rx ry q)
theorem C0n {op : UnaryOp} {r : V -> Hp -> VK -> Prop} (ho : UnR X (unaryOp op) r) (ha : PE X a ta) : PE X (.UnaryOp op a pos) (tUn r ta) := by
 intro pins s σ H Q I h
 exact UnaryOp_ (thn (ha pins s σ H _ I h) fun v s1 zz59 => el5 zz59 fun x H1 I1 r1 q1 => ho pins s1 σ H1 x v Q I1 r1 q1)
theorem opI {f : Value -> Value -> Sem Value} {C : Int -> Int -> Prop} {g : Int -> Int -> Int}
  (rule : ∀ (i j : Int) (t u : Tok) (s : Shared) (Q : Value -> Shared -> Prop) (E : Value -> Shared -> Prop), C i j -> Q (.int (g i j) s.toks) { s with toks := s.toks + 1 } -> wpAny (model X.prog X.w) X.A (f (.int i t) (.int j u)) Q E s) :
  OpR X f (rI C fun i j => .int (g i j)) := by
 intro pins s σ H x y v u Q I rx ry h
 obtain ⟨i, j, rfl, rfl, hc, q⟩ := h
 obtain ⟨t, rfl⟩ := rx
 obtain ⟨t', rfl⟩ := ry
 exact rule i j t t' s _ _ hc ⟨.int (g i j), H, I.tok _, ⟨_, rfl⟩, q⟩
theorem B1j {f : Value -> Value -> Sem Value} {g : Int -> Int -> Int}
  (rule : ∀ (i j : Int) (t u : Tok) (s : Shared) (Q : Value -> Shared -> Prop) (E : Value -> Shared -> Prop), Q (.int (g i j) s.toks) { s with toks := s.toks + 1 } -> wpAny (model X.prog X.w) X.A (f (.int i t) (.int j u)) Q E s) :
  OpR X f (rI0 fun i j => .int (g i j)) := by
 intro pins s σ H x y v u Q I rx ry h
 obtain ⟨i, j, rfl, rfl, q⟩ := h
 obtain ⟨t, rfl⟩ := rx
 obtain ⟨t', rfl⟩ := ry
 exact rule i j t t' s _ _ ⟨.int (g i j), H, I.tok _, ⟨_, rfl⟩, q⟩
theorem A9m {f : Value -> Value -> Sem Value} {g : Int -> Int -> Bool}
  (rule : ∀ (i j : Int) (t u : Tok) (s : Shared) (Q : Value -> Shared -> Prop) (E : Value -> Shared -> Prop), Q (.bool (g i j)) s -> wpAny (model X.prog X.w) X.A (f (.int i t) (.int j u)) Q E s) :
  OpR X f (rI0 fun i j => .bl (g i j)) := by
 intro pins s σ H x y v u Q I rx ry h
 obtain ⟨i, j, rfl, rfl, q⟩ := h
 obtain ⟨t, rfl⟩ := rx
 obtain ⟨t', rfl⟩ := ry
 exact rule i j t t' s _ _ ⟨.bl (g i j), H, I, rfl, q⟩
def A4y (i j : Int) : Prop := 0 <= j /\ j <= 1000000 /\ i.natAbs < 2 ^ 64
def A8h (i j : Int) : Prop := (-(2 ^ 64) < i /\ i < 2 ^ 64) \/ (-(2 ^ 64) < j /\ j < 2 ^ 64)
theorem A8h.ok {i j : Int} (h : A8h i j) : IntMulOk i j := by
 rcases h with ⟨h1, h2⟩ | ⟨h1, h2⟩
 ·exact .of_left (intBits_le_64 h1 h2)
 ·exact .of_right (intBits_le_64 h1 h2)
theorem K6 : OpR X (binaryOp .Add) (rI0 fun i j => .int (i + j)) := B1j fun _ _ _ _ _ _ _ q => add_int q
theorem A0t : OpR X (binaryOp .Sub) (rI0 fun i j => .int (i - j)) := B1j fun _ _ _ _ _ _ _ q => sub_int q
theorem A0u : OpR X (binaryOp .Mult) (rI A8h fun i j => .int (i * j)) := opI fun _ _ _ _ _ _ _ hc q => mul_int q hc.ok
theorem d9 : OpR X (binaryOp .Mod) (rI (fun _ j => 0 < j) fun i j => .int (i % j)) := opI fun i j _ _ _ _ _ hc q => by
 have h1 : (0 : Int) < j := hc
 exact mod_int' (by lia) (by rw [Int.fmod_eq_emod_of_nonneg i (by lia)]; exact q)
theorem A0v : OpR X (binaryOp .Pow) (rI A4y fun i j => .int (i ^ j.toNat)) := opI fun _ _ _ _ _ _ _ hc q => pow_int_small hc.1 hc.2.1 hc.2.2 q
theorem A4z : OpR X (binaryOp .LShift) (rI A4y fun i j => .int (i * 2 ^ j.toNat)) := opI fun _ _ _ _ _ _ _ hc q => lshift_int_small hc.1 hc.2.1 hc.2.2 q
theorem C0o : OpR X (binaryOp .BitAnd) (rI0 fun i j => .int (Builtin.bitAnd i j)) := B1j fun _ _ _ _ _ _ _ q => and_int q
theorem unI {f : Value -> Sem Value} {g : Int -> Int}
  (rule : ∀ (i : Int) (t : Tok) (s : Shared) (Q : Value -> Shared -> Prop) (E : Value -> Shared -> Prop), Q (.int (g i) s.toks) { s with toks := s.toks + 1 } -> wpAny (model X.prog X.w) X.A (f (.int i t)) Q E s) :
  UnR X f (rU fun i => .int (g i)) := by
 intro pins s σ H x v Q I rx h
 obtain ⟨i, rfl, q⟩ := h
 obtain ⟨t, rfl⟩ := rx
 exact rule i t s _ _ ⟨.int (g i), H, I.tok _, ⟨_, rfl⟩, q⟩
theorem C0p : UnR X (unaryOp .USub) (rU fun i => .int (-i)) := unI fun _ _ _ _ _ q => neg_int q
end
def C0q : V -> V -> Bool
 | .non, .non => true | .non, .int _ => true | .int _, .non => true | .non, .bl _ => true | .bl _, .non => true | .non, .str _ => true | .str _, .non => true
 | .int _, .int _ => true | .bl _, .bl _ => true | .str _, .str _ => true | .byt _, .byt _ => true
 | .int _, .str _ => true | .str _, .int _ => true | .bl _, .str _ => true | .str _, .bl _ => true
 | _, _ => false
def rEq : R2 := fun x y H Q => C0q x y = true /\ Q (.bl (decide (x = y))) H
theorem C0r {i j : Int} : decide (V.int i = V.int j) = (i == j) := by
 rw [A75]
 simp
theorem C0s {i j : Bool} : decide (V.bl i = V.bl j) = (i == j) := by
 rw [A75]
 simp
theorem C0t {i j : Str} : decide (V.str i = V.str j) = (i == j) := by
 rw [A75]
 simp
theorem C0u {i j : Array UInt8} : decide (V.byt i = V.byt j) = (i.toList == j.toList) := by
 rw [A75]
 cases i
 cases j
 simp
section
variable {X : Cx} {a b c : Expr} {ta tb tc : TE} {pos : Pos}
theorem T9 {pins : List (Addr × Obj)} {σ : St} {H : Hp} {s : Shared} {Q : VK} {k k' : Bool} (I : Inv X pins σ H s) (q : Q (.bl k) H) (e : k = k') : EP X pins σ Q (.bool k') s := by
 subst e
 exact ⟨.bl k, H, I, rfl, q⟩
theorem B4q : OpR X (compareOp .Eq) rEq := by
 intro pins s σ H x y v u Q I rx ry h
 obtain ⟨hs, q⟩ := h
 cases x with
 | non =>
  cases rx
  cases y with
  | non => cases ry; exact PySem.EqNone.eq_none_none (T9 I q (by simp))
  | bl j => cases ry; exact PySem.EqNone.eq_none_bool (T9 I q (by simp))
  | int j => obtain ⟨t', rfl⟩ := ry; exact PySem.EqNone.eq_none_int (T9 I q (by simp))
  | str j => obtain ⟨t', rfl⟩ := ry; exact PySem.EqNone.eq_none_str (T9 I q (by simp))
  | _ => exact absurd (show false = true from hs) S0
 | bl i =>
  cases rx
  cases y with
  | non => cases ry; exact PySem.EqNone.eq_bool_none (T9 I q (by simp))
  | bl j => cases ry; exact eq_bool (T9 I q C0s)
  | str j => obtain ⟨t', rfl⟩ := ry; exact PySem.EqMixed.eq_bool_str (T9 I q (by simp))
  | _ => exact absurd (show false = true from hs) S0
 | int i =>
  obtain ⟨t, rfl⟩ := rx
  cases y with
  | non => cases ry; exact PySem.EqNone.eq_int_none (T9 I q (by simp))
  | int j => obtain ⟨t', rfl⟩ := ry; exact eq_int (T9 I q C0r)
  | str j => obtain ⟨t', rfl⟩ := ry; exact PySem.EqMixed.eq_int_str (T9 I q (by simp))
  | _ => exact absurd (show false = true from hs) S0
 | str i =>
  obtain ⟨t, rfl⟩ := rx
  cases y with
  | non => cases ry; exact PySem.EqNone.eq_str_none (T9 I q (by simp))
  | bl j => cases ry; exact PySem.EqMixed.eq_str_bool (T9 I q (by simp))
  | int j => obtain ⟨t', rfl⟩ := ry; exact PySem.EqMixed.eq_str_int (T9 I q (by simp))
  | str j => obtain ⟨t', rfl⟩ := ry; exact eq_str (T9 I q C0t)
  | _ => exact absurd (show false = true from hs) S0
 | byt i =>
  obtain ⟨t, rfl⟩ := rx
  cases y with
  | byt j => obtain ⟨t', rfl⟩ := ry; exact PySem.W.eq_bytes (T9 I q C0u)
  | _ => exact absurd (show false = true from hs) S0
 | _ => cases y <;> exact absurd (show false = true from hs) S0
theorem X7 : OpR X (compareOp .Lt) (rI0 fun i j => .bl (decide (i < j))) := A9m fun _ _ _ _ _ _ _ q => lt_int q
theorem A0w : OpR X (compareOp .LtE) (rI0 fun i j => .bl (decide (i <= j))) := A9m fun _ _ _ _ _ _ _ q => le_int q
theorem A0x : OpR X (compareOp .Gt) (rI0 fun i j => .bl (decide (j < i))) := A9m fun _ _ _ _ _ _ _ q => gt_int q
theorem B1k : OpR X (compareOp .GtE) (rI0 fun i j => .bl (decide (j <= i))) := A9m fun _ _ _ _ _ _ _ q => ge_int q
theorem U0 : OpR X (compareOp .Is) (fun x y H Q => y = .non /\ Q (.bl (decide (x = .non))) H) := by
 intro pins s σ H x y v u Q I rx ry h
 obtain ⟨rfl, q⟩ := h
 cases ry
 refine is_none_gen (T9 I q ?_)
 cases x <;> first
  | (cases rx; rfl)
  | (obtain ⟨t, rfl⟩ := rx; rfl)
theorem e9 : OpR X (compareOp .IsNot) (fun x y H Q => y = .non /\ Q (.bl (!decide (x = .non))) H) := by
 intro pins s σ H x y v u Q I rx ry h
 obtain ⟨rfl, q⟩ := h
 cases ry
 refine isnot_none_gen (T9 I q ?_)
 cases x <;> first
  | (cases rx; rfl)
  | (obtain ⟨t, rfl⟩ := rx; rfl)
theorem D2 (b : Expr) {op : CmpOp} (h : op ≠ .In := by decide) (h2 : op ≠ .NotIn := by decide) : behindInMarks op b = false := by
 have e1 : (op == CmpOp.In) = false := by cases op <;> first | rfl | exact absurd rfl h
 have e2 : (op == CmpOp.NotIn) = false := by cases op <;> first | rfl | exact absurd rfl h2
 cases b <;> simp [behindInMarks, e1, e2]
theorem A9n {op : CmpOp} {r : R2} (ho : OpR X (compareOp op) r) (ha : PE X a ta) (hb : PE X b tb) (hm : behindInMarks op b = false) : PE X (.Compare a [op] [b] pos) (tOp r ta tb) := by
 intro pins s σ H Q I h
 exact wpAny_Compare1 (B1i ha hb I h fun v u s2 x y H2 I2 rx ry q => ho pins s2 σ H2 x y v u Q I2 rx ry q) hm
def B4r (t : TE) : TT := fun σ H Q => t σ H fun x H' => ∃ k, x = .bl k /\ Q k H'
theorem A0y {op : CmpOp} {r : R2} (ho : OpR X (compareOp op) r) (ha : PE X a ta) (hb : PE X b tb) (hm : behindInMarks op b = false) : PT X (.Compare a [op] [b] pos) (B4r (tOp r ta tb)) := by
 intro pins s σ H Q I h
 refine wpAny_isTrue_Compare1 (thn (ha pins s σ H _ I h) fun v s1 zz60 => el5 zz60 fun x H1 I1 r1 q1 => thn (hb pins s1 σ H1 _ I1 q1) fun u s2 zz61 => el5 zz61 fun y H2 I2 r2 q2 =>
  thn (ho pins s2 σ H2 x y v u _ I2 r1 r2 q2) fun c s3 zz62 => zz62.elim fun z zz63 => zz63.elim fun H3 zz64 => zz64.elim fun I3 zz65 => zz65.elim fun r3 zz66 => zz66.elim fun k zz67 => zz67.elim fun e q3 => ?_) hm
 subst e
 cases r3
 exact wpAny_truthy_bool ⟨H3, I3, q3⟩
def B1l (r r' : R2) (ta tb tc : TE) : TE := fun σ H Q => ta σ H fun x H1 => tb σ H1 fun y H2 => r x y H2 fun z H3 => ∃ k, z = .bl k /\
 (if k = true then tc σ H3 fun w' H4 => r' y w' H4 Q else Q (.bl false) H3)
theorem C0v {op op' : CmpOp} {r r' : R2} (ho : OpR X (compareOp op) r) (ho' : OpR X (compareOp op') r') (ha : PE X a ta) (hb : PE X b tb) (hc : PE X c tc)
  (hm : lastMarks [op, op'] [b, c] = false := by with_unfolding_all rfl) : PE X (.Compare a [op, op'] [b, c] pos) (B1l r r' ta tb tc) := by
 intro pins s σ H Q I h
 refine Compare_chain (thn (ha pins s σ H _ I h) fun v s1 zz68 => el5 zz68 fun x H1 I1 r1 q1 => chain_link (thn (hb pins s1 σ H1 _ I1 q1) fun u s2 zz69 => el5 zz69 fun y H2 I2 r2 q2 =>
  thn (ho pins s2 σ H2 x y v u _ I2 r1 r2 q2) fun d s3 zz70 => zz70.elim fun z zz71 => zz71.elim fun H3 zz72 => zz72.elim fun I3 zz73 => zz73.elim fun r3 zz74 => zz74.elim fun k zz75 => zz75.elim fun e q3 => ?_)) hm
 subst e
 cases r3
 refine wpAny_truthy_bool ?_
 cases k with
 | false => exact ite_ff ⟨.bl false, H3, I3, rfl, q3⟩
 | true => exact ite_tt (chain_last (thn (hc pins s3 σ H3 _ I3 q3) fun w' s4 zz76 => el5 zz76 fun z' H4 I4 r4 q4 => ho' pins s4 σ H4 y z' u w' Q I4 r2 r4 q4))
theorem C0w {op op' : CmpOp} {r r' : R2} (ho : OpR X (compareOp op) r) (ho' : OpR X (compareOp op') r') (ha : PE X a ta) (hb : PE X b tb) (hc : PE X c tc)
  (hm : lastMarks [op, op'] [b, c] = false := by with_unfolding_all rfl) : PT X (.Compare a [op, op'] [b, c] pos) (B4r (B1l r r' ta tb tc)) := by
 intro pins s σ H Q I h
 refine isTrue_chain (thn (ha pins s σ H _ I h) fun v s1 zz77 => el5 zz77 fun x H1 I1 r1 q1 => test_link (thn (hb pins s1 σ H1 _ I1 q1) fun u s2 zz78 => el5 zz78 fun y H2 I2 r2 q2 =>
  thn (ho pins s2 σ H2 x y v u _ I2 r1 r2 q2) fun d s3 zz79 => zz79.elim fun z zz80 => zz80.elim fun H3 zz81 => zz81.elim fun I3 zz82 => zz82.elim fun r3 zz83 => zz83.elim fun k zz84 => zz84.elim fun e q3 => ?_)) hm
 subst e
 cases r3
 refine wpAny_truthy_bool ?_
 cases k with
 | false =>
  obtain ⟨k', e', q'⟩ := q3
  cases e'
  exact ite_ff ⟨H3, I3, q'⟩
 | true =>
  refine ite_tt (test_last (thn (hc pins s3 σ H3 _ I3 q3) fun w' s4 zz85 => el5 zz85 fun z' H4 I4 r4 q4 => thn (ho' pins s4 σ H4 y z' u w' _ I4 r2 r4 q4) fun d' s5 zz86 => zz86.elim fun z2 zz87 => zz87.elim fun H5 zz88 => zz88.elim fun I5 zz89 => zz89.elim fun r5 zz90 => zz90.elim fun k2 zz91 => zz91.elim fun e2 q5 => ?_))
  subst e2
  cases r5
  exact wpAny_truthy_bool ⟨H5, I5, q5⟩
theorem A40 : (sizeLine : Nat) < 2 ^ 63 := by rw [sizeLine_eq]; decide
theorem X8 {x : V} {us : List Value} (r : D5 [x] us) : ∃ u, us = [u] /\ F7 x u := by
 cases r with
 | cons r1 r2 => cases r2; exact ⟨_, rfl, r1⟩
theorem B1m {x y : V} {us : List Value} (r : D5 [x, y] us) : ∃ u w', us = [u, w'] /\ F7 x u /\ F7 y w' := by
 cases r with
 | cons r1 r2 =>
  cases r2 with
  | cons r3 r4 => cases r4; exact ⟨_, _, rfl, r1, r3⟩
theorem C0x : X6 X (.builtin "abs") (fun xs H Q => ∃ i, xs = [.int i] /\ Q (.int (if i < 0 then -i else i)) H) := by
 intro pins s σ H xs us Q I r h
 obtain ⟨i, rfl, q⟩ := h
 obtain ⟨u, rfl, t, rfl⟩ := X8 r
 exact call_abs_int fun u tk => ⟨.int (if i < 0 then -i else i), H, I.tok _, ⟨_, rfl⟩, q⟩
theorem B4s (hc : X.calm = true) : X6 X (.builtin "max") (fun xs H Q => ∃ i j, xs = [.int i, .int j] /\ Q (.int (if j > i then j else i)) H) := by
 intro pins s σ H xs us Q I r h
 obtain ⟨i, j, rfl, q⟩ := h
 obtain ⟨u, w', rfl, ⟨t, rfl⟩, ⟨t', rfl⟩⟩ := B1m r
 refine max_two_ints (I.ok.hd hc) fun h' tk k => ⟨_, H, I.kept k, ?_, q⟩
 by_cases hj : j > i
 ·rw [if_pos hj, if_pos hj]; exact ⟨_, rfl⟩
 ·rw [if_neg hj, if_neg hj]; exact ⟨_, rfl⟩
theorem A0z (hc : X.calm = true) : X6 X (.builtin "min") (fun xs H Q => ∃ i j, xs = [.int i, .int j] /\ Q (.int (if j < i then j else i)) H) := by
 intro pins s σ H xs us Q I r h
 obtain ⟨i, j, rfl, q⟩ := h
 obtain ⟨u, w', rfl, ⟨t, rfl⟩, ⟨t', rfl⟩⟩ := B1m r
 refine min_two_ints (I.ok.hd hc) fun h' tk k => ⟨_, H, I.kept k, ?_, q⟩
 by_cases hj : j < i
 ·rw [if_pos hj, if_pos hj]; exact ⟨_, rfl⟩
 ·rw [if_neg hj, if_neg hj]; exact ⟨_, rfl⟩
theorem B4t : X6 X (.type "int") (fun xs H Q => (∃ i, xs = [.int i] /\ Q (.int i) H) \/ ∃ k, xs = [.bl k] /\ Q (.int (if k then 1 else 0)) H) := by
 intro pins s σ H xs us Q I r h
 rcases h with ⟨i, rfl, q⟩ | ⟨k, rfl, q⟩
 ·obtain ⟨u, rfl, t, rfl⟩ := X8 r
  exact call_int_int ⟨.int i, H, I, ⟨_, rfl⟩, q⟩
 ·obtain ⟨u, rfl, r1⟩ := X8 r
  cases r1
  exact call_int_bool ⟨.int (if k then 1 else 0), H, I.tok _, ⟨_, rfl⟩, q⟩
end
end L2
namespace L2
open PySem PySem.Spec PyProof.Rows
structure B1n (h : Heap) (x dx C : Addr) (mA : Str -> Option Value) : Prop where
 obj : h.get? x = some (PySem.W.instObj C dx)
 ns : h.Ns1 dx mA
 ne : dx ≠ x
theorem C0y {h : Heap} {dx : Addr} {mA : Str -> Option Value} (n : h.Ns1 dx mA) : ∃ od, h.get? dx = some od /\ ∀ name, PySem.W.lookIn name od = some (mA name) := by
 obtain ⟨o, es, ep, ho, hd, hk, _, hm⟩ := n
 refine ⟨o, ho, fun name => ?_⟩
 have e := hm name
 unfold nsFind findBy at e
 rw [<- Array.find?_toList] at e
 unfold PySem.W.lookIn
 rw [hd]
 dsimp only
 split
 ·rename_i y q
  rw [q] at e
  exact congrArg some e
 ·rename_i q
  rw [q] at e
  have a : es.toList.any (·.refKey) = false := by
   rw [List.any_eq_false]
   intro y hy
   obtain ⟨z, t, hkey⟩ := hk y (Array.mem_toList_iff.mp hy)
   simp [DictEntry.refKey, hkey]
  have a' : ¬ es.toList.any (·.refKey) = true := by rw [a]; exact S0
  rw [if_neg a']
  exact congrArg some e
theorem B1n.look {h : Heap} {x dx C : Addr} {mA : Str -> Option Value} (I : B1n h x dx C mA) : ∃ od, PySem.W.InstAt h x (PySem.W.instObj C dx) C (some od) /\ ∀ name, PySem.W.lookIn name od = some (mA name) :=
 let ⟨od, ho, hl⟩ := C0y I.ns
 ⟨od, ⟨I.obj, rfl, rfl, ho⟩, hl⟩
section
variable {prog : Program} {w : World} {A : Around} {E : Value -> Shared -> Prop} {s : Shared} {K : A4} {x dx C f : Addr} {mA : Str -> Option Value} {name : Str} {v : Value}
end
section
variable {P : Program} {w : World} {H H' : Hp} {h h' : Heap} {a C dx : Addr} {fs fs' : List (Str × V)}
theorem C0z (hok : HOk P w H h) (e : H a = some (.ins C dx fs)) : ∃ mA, B1n h a dx C mA /\ (∀ f, B08 (fs.lookup f) (mA f)) /\ PySem.Within mA (fs.map (·.1)) /\ fs.length <= 1000 /\ H dx = some (.own a) := by
 obtain ⟨d, z, ne, ob, mA, n, r, q⟩ := (show O4 P w H h a (.ins C dx fs) from hok a _ e)
 exact ⟨mA, ⟨ob, n, ne⟩, r, q, z, d⟩
end
structure Cls (K : A4) (C : Addr) : Prop where
 pg : PySem.W.plainGet K C Str.empty = true
 hd : PySem.W.hasDictIn K C = true
 po : PySem.W.plainOver K C = true
 sa : PySem.W.findIn K (.ref C) "__setattr__" = some (some (.builtin "object.__setattr__"))
theorem Cls.get {K : A4} {C : Addr} (c : Cls K C) (f : Str) : PySem.W.plainGet K C f = true := c.pg
section
variable {X : Cx} {pins : List (Addr × Obj)} {σ : St} {H : Hp} {s : Shared} {a C dx : Addr} {fs : List (Str × V)} {f : Str} {v : V} {A : Around} {E : Value -> Shared -> Prop}
end
section
variable {X : Cx} {o e value : Expr} {f : Str} {pos pos' tpos : Pos} {ta tv : TE}
end
section
variable {X : Cx} {pins : List (Addr × Obj)} {σ : St} {H : Hp} {s : Shared} {A : Around} {E : Value -> Shared -> Prop} {Q : Value -> Shared -> Prop} {c : Value} {b : Bool}
inductive X9 (K : A4) (H : Hp) : V -> Value -> Prop where
 | non : X9 K H .non (.type "NoneType")
 | bl (x : Bool) : X9 K H (.bl x) (.type "bool")
 | int (i : Int) : X9 K H (.int i) (.type "int")
 | str (x : Str) : X9 K H (.str x) (.type "str")
 | flt (x : UInt64) : X9 K H (.flt x) (.type "float")
 | lst {a : Addr} {xs : List V} (e : H a = some (.lst xs)) : X9 K H (.ref a) (.type "list")
 | frz {a : Addr} {o : Obj} {xs : List V} (e : H a = some (.frz o (.lst xs))) : X9 K H (.ref a) (.type "list")
 | tup {a : Addr} {xs : List V} (e : H a = some (.tup xs)) : X9 K H (.ref a) (.type "tuple")
 | dK {a : Addr} {kvs : List (Key × V)} (e : H a = some (.dK kvs)) : X9 K H (.ref a) (.type "dict")
 | dT {a : Addr} {kvs : List (List Key × V)} (e : H a = some (.dT kvs)) : X9 K H (.ref a) (.type "dict")
 | ins {a C dx : Addr} {fs : List (Str × V)} (e : H a = some (.ins C dx fs)) (cl : Cls K C) (ha : PySem.W.findIn K (.ref C) "__class__" = some (some (.builtin "object.__class__")))
   (hn : PySem.W.specialIn K (.builtin "object.__class__") "__get__" = some (some (.builtin "getset_descriptor.__get__"))) (htk : PySem.W.takesIn K (.builtin "object.__class__") = some true)
   (hm : PySem.W.mroIn K C (.type "object") = some true) : X9 K H (.ref a) (.ref C)
theorem C00 {x : V} {u t : Value} (I : Inv X pins σ H s) (rx : F7 x u) (ty : X9 X.K H x t) (e : A4n X.K t c = some b) (h : ∀ tk, Q (.bool b) { s with toks := tk }) :
  wpAny (model X.prog X.w) A (call (.builtin "isinstance") [u, c]) Q E s := by
 cases ty with
 | non => cases (show u = Value.none from rx); exact j2 PySem.W.kitx_none I.kIn True.intro e (fun z => nomatch z) h
 | bl y => cases (show u = Value.bool y from rx); exact j2 PySem.W.kitx_bool I.kIn True.intro e (fun z => nomatch z) h
 | int i => obtain ⟨t, q⟩ := (show ∃ t, u = Value.int i t from rx); cases q; exact j2 PySem.W.kitx_int I.kIn True.intro e (fun z => nomatch z) h
 | str y => obtain ⟨t, q⟩ := (show ∃ t, u = Value.str y t from rx); cases q; exact j2 PySem.W.kitx_str I.kIn True.intro e (fun z => nomatch z) h
 | flt y => obtain ⟨t, q⟩ := (show ∃ t, u = Value.float y t from rx); cases q; exact j2 PySem.W.kitx_float I.kIn True.intro e (fun z => nomatch z) h
 | @lst a xs ea =>
  cases (show u = Value.ref a from rx)
  obtain ⟨_, _, n, _, h1⟩ := (show O4 X.prog X.w H s.heap a (.lst xs) from I.hok a _ ea)
  exact j2 PySem.W.kitx_list I.kIn ⟨_, h1, rfl⟩ e (fun z => nomatch z) h
 | @frz a ob xs ea =>
  cases (show u = Value.ref a from rx)
  obtain ⟨_, _, _, n, _, h1⟩ := (show O4 X.prog X.w H s.heap a (.frz ob (.lst xs)) from I.hok a _ ea)
  exact j2 PySem.W.kitx_list I.kIn ⟨_, h1, rfl⟩ e (fun z => nomatch z) h
 | @tup a xs ea =>
  cases (show u = Value.ref a from rx)
  obtain ⟨_, _, _, p⟩ := (show O4 X.prog X.w H s.heap a (.tup xs) from I.hok a _ ea)
  obtain ⟨o, h1, h2, _⟩ := p
  exact j2 PySem.W.kitx_tuple I.kIn ⟨o, h1, h2⟩ e (fun z => nomatch z) h
 | @dK a kvs ea =>
  cases (show u = Value.ref a from rx)
  obtain ⟨_, _, vs, _, p⟩ := (show O4 X.prog X.w H s.heap a (.dK kvs) from I.hok a _ ea)
  obtain ⟨o, es, ep, h1, h2, _⟩ := p
  exact j2 PySem.W.kitx_dict I.kIn ⟨o, h1, h2.1⟩ e (fun z => nomatch z) h
 | @dT a kvs ea =>
  cases (show u = Value.ref a from rx)
  obtain ⟨_, _, xs, _, o, es, ep, h1, h2, _⟩ := (show O4 X.prog X.w H s.heap a (.dT kvs) from I.hok a _ ea)
  exact j2 PySem.W.kitx_dict I.kIn ⟨o, h1, h2.1⟩ e (fun z => nomatch z) h
 | @ins a C dx fs ea cl ha hn htk hm =>
  cases (show u = Value.ref a from rx)
  obtain ⟨mA, O, _⟩ := C0z I.hok ea
  obtain ⟨od, J, _⟩ := O.look
  exact j2 (PySem.W.kitx_own (cl.get _) cl.hd ha hn htk hm) I.kIn J e (fun z => nomatch z) h
end
end L2
namespace L2
open PySem PySem.Spec PyProof.Rows
structure S4 (k : Nat) (A : Around) : Prop where
 hd : A.handled = none
 dp : A.depth + 3 * k + 5 < recursionLimit
 un : A.units + 16 * k + 200 < cLine
 gd : A.guards = some []
theorem S4.mono {j k : Nat} {A : Around} (r : S4 k A) (h : j <= k) : S4 j A := ⟨r.hd, by have := r.dp; lia, by have := r.un; lia, r.gd⟩
theorem S4.deeper {k : Nat} {A : Around} (r : S4 (k + 1) A) (env : Env) : S4 k (A.deeper env) :=
 ⟨r.hd, by have := r.dp; show A.depth + 1 + 3 * k + 5 < _; lia, by have := r.un; show A.units + 3 + 16 * k + 200 < _; lia, r.gd⟩
theorem S4.depth {k : Nat} {A : Around} (r : S4 k A) : A.depth < recursionLimit := by have := r.dp; lia
theorem S4.units {k : Nat} {A : Around} (r : S4 k A) : A.units + 64 < cLine := by have := r.un; lia
def U6 : TA := fun _ H Q => Q [] H
def Q6 (ta : TE) (tr : TA) : TA := fun σ H Q => ta σ H fun x H1 => tr σ H1 fun xs H2 => Q (x :: xs) H2
section
variable {X : Cx} {e : Expr} {es : List Expr} {te : TE} {t : TA} {pos : Pos}
theorem D6 : PA X [] U6 := fun _ _ _ _ H Q I h => Calls.spliced_nil ⟨[], H, I, .nil, h⟩
theorem C3 (ha : PE X e te) (hr : PA X es t) (hs : starEach (e :: es) X.env = (false, eval e X.env) :: starEach es X.env := by rfl) : PA X (e :: es) (Q6 te t) := by
 intro pos pins s σ H Q I h
 rw [hs]
 show wpAny _ _ (spliced ((false, eval e X.env) :: backTo pos (starEach es X.env))) _ _ s
 refine Calls.spliced_cons (thn (ha pins s σ H _ I h) fun u s1 zz173 => el5 zz173 fun x H1 I1 r1 q1 => ?_)
 exact thn (hr pos pins s1 σ H1 _ I1 q1) fun us s2 zz174 => el5 zz174 fun xs H2 I2 r2 q2 => ⟨x :: xs, H2, I2, .cons r1 r2, q2⟩
def C01 (t : TA) : TE := fun σ H Q => t σ H fun xs H1 => xs.length <= sizeLine /\ ∀ p, H1 p = none -> Q (.ref p) (upd H1 p (.tup xs))
def C02 (t : TA) : TE := fun σ H Q => t σ H fun xs H1 => xs.length <= sizeLine /\ ∀ p, H1 p = none -> Q (.ref p) (upd H1 p (.lst xs))
theorem C03 {x1} (h : PA X es t) : PE X (.Tuple es x1 pos) (C01 t) := by
 intro pins s σ H Q I hq
 refine wpAny_Tuple_spliced (thn (h pos pins s σ H _ I hq) fun us s1 zz175 => zz175.elim fun xs zz176 => zz176.elim fun H1 zz177 => zz177.elim fun I1 zz178 => zz178.elim fun r zz179 => zz179.elim fun z q => ⟨by rw [<- r.length]; exact z, ?_⟩)
 have hf : H1 s1.heap.objs.size = none := I1.hok.fresh (F6 _)
 refine ⟨.ref s1.heap.objs.size, upd H1 s1.heap.objs.size (.tup xs), I1.laid (t' := s1.toks) (fun b u e => S1 _ e) (F6 _) ?_, rfl, q _ hf⟩
 exact ⟨z, us, r, ⟨_, W1 _ rfl, rfl, _, rfl⟩⟩
theorem B4u (h : PA X es t) : PE X (.List es pos) (C02 t) := by
 intro pins s σ H Q I hq
 refine wpAny_List_spliced (thn (h pos pins s σ H _ I hq) fun us s1 zz180 => zz180.elim fun xs zz181 => zz181.elim fun H1 zz182 => zz182.elim fun I1 zz183 => zz183.elim fun r zz184 => zz184.elim fun z q => ⟨by rw [<- r.length]; exact z, ?_⟩)
 have hf : H1 s1.heap.objs.size = none := I1.hok.fresh (F6 _)
 refine ⟨.ref s1.heap.objs.size, upd H1 s1.heap.objs.size (.lst xs), I1.laid (t' := s1.toks) (fun b u e => S1 _ e) (F6 _) ?_, rfl, q _ hf⟩
 exact ⟨z, us, 0, r, W1 _ rfl⟩
end
abbrev Sp := List V -> Hp -> VK -> XK -> Prop
abbrev CXT := List Env -> Hp -> Shared -> XK -> Value -> Shared -> Prop
structure A9o (P : Program) (w : World) (K : A4) (mg : Str -> Option Value) (base : Heap) (A : Around) (outer : List Env) (s : Shared) (H : Hp) : Prop where
 frames : A.frames = some outer
 mod : Mod K mg base
 bs : ∀ b o, base.get? b = some o -> s.heap.get? b = some o /\ H b = none
 bsz : base.objs.size <= s.heap.objs.size
 funs : s.heap.FunFrames base outer
 frf : ∀ b ∈ frs outer, H b = none
 hok : HOk P w H s.heap
 bare : AllBare s.gens
def CE (outer : List Env) (P : Program) (w : World) (H : Hp) (s : Shared) (Q : VK) (u : Value) (s' : Shared) : Prop :=
 ∃ v H', s'.os = s.os /\ AllBare s'.gens /\ Un (frs outer) [] H H' s.heap s'.heap /\ HOk P w H' s'.heap /\ F7 v u /\ Q v H'
def CR (CX : CXT) (outer : List Env) (P : Program) (w : World) (H : Hp) (s : Shared) (Q : VK) (E : XK) (r : Result) (s' : Shared) : Prop :=
 match r with
 | .ok (.ret u) => CE outer P w H s Q u s'
 | .ok _ => False
 | .error e => CX outer H s E e s'
structure D3 (P : Program) (w : World) (K : A4) (mg : Str -> Option Value) (base : Heap) (CX : CXT) (k : Nat) (f : Addr) (fd : FuncData) (ps : List Str) (sp : Sp) : Prop where
 len : ∀ vs H Q E, sp vs H Q E -> vs.length = ps.length
 run : ∀ (A : Around) (outer : List Env) (s : Shared) (H : Hp) (args : Args) (us : List Value) (vs : List V) (Q : VK) (E : XK), S4 k A -> A9o P w K mg base A outer s H -> BindsTo s fd args (ps.zip us) -> D5 vs us -> sp vs H Q E ->
  codeAny (model P w) A (.call (.ref f) args) (CR CX outer P w H s Q E) s
theorem D3.imp {P : Program} {w : World} {K : A4} {mg : Str -> Option Value} {base : Heap} {CX : CXT} {k : Nat} {f : Addr} {fd : FuncData} {ps : List Str} {sp sp' : Sp} (F : D3 P w K mg base CX k f fd ps sp)
  (h : ∀ vs H Q E, sp' vs H Q E -> sp vs H Q E) : D3 P w K mg base CX k f fd ps sp' :=
 ⟨fun vs H Q E q => F.len vs H Q E (h _ _ _ _ q), fun A outer s H args us vs Q E hr he hb hv hs => F.run A outer s H args us vs Q E hr he hb hv (h _ _ _ _ hs)⟩
section
variable {X : Cx} {pins : List (Addr × Obj)} {σ : St} {H : Hp} {s s' : Shared}
theorem Inv.env0 (I : Inv X pins σ H s) : A9o X.prog X.w X.K X.mg X.base X.A X.stack s H :=
 ⟨I.ok.frames, I.ok.mod, I.bs, Y9 I.ok.bsz I.sz, I.stack, I.stkFree, I.hok, I.bare⟩
theorem Inv.after {Q : VK} {u : Value} (I : Inv X pins σ H s) (h : CE X.stack X.prog X.w H s Q u s') : EP X pins σ Q u s' := by
 obtain ⟨v, H', os, bare, un, hok, r, q⟩ := h
 obtain ⟨hh, g, d, t, os'⟩ := s'
 obtain rfl : os' = s.os := os
 exact ⟨v, H', I.call (h' := hh) (g' := g) (d' := d) (t' := t) (ch := []) un hok bare (fun b z => absurd z (by simp)), r, q⟩
end
def B1o (sp : Sp) (dvs : List V) (E : XK) (t : TA) : TE := fun σ H Q => t σ H fun vs H1 => sp (vs ++ dvs) H1 Q E
def E7 (K : A4) (fd : FuncData) (ps : List Str) (ds : List Value) : Prop :=
 ∀ (s : Shared) (us : List Value), K.In s.heap -> (us ++ ds).length = ps.length -> BindsTo s fd ⟨us, []⟩ (ps.zip (us ++ ds))
theorem E7.all {K : A4} {fd : FuncData} {ps : List Str} (h : ∀ us : List Value, us.length = ps.length -> bindArgs fd ⟨us, []⟩ = pure (ps.zip us)) : E7 K fd ps [] := fun s us _ hl => by
 rw [d5] at hl ⊢
 exact .of_eq (h us hl)
def B1p (CX : CXT) (X : Cx) (E : XK) : Prop := ∀ (pins : List (Addr × Obj)) (σ : St) (H : Hp) (s : Shared) (e : Value) (s' : Shared), Inv X pins σ H s -> CX X.stack H s E e s' -> X.xe e s'
section
variable {X : Cx} {CX : CXT} {k : Nat} {f C : Addr} {fd : FuncData} {ps : List Str} {sp : Sp} {dvs : List V} {ds : List Value} {E : XK} {x m : Str} {p pos apos : Pos} {e o : Expr} {es : List Expr} {ta : TE} {t : TA}
theorem C04 {pins : List (Addr × Obj)} {σ : St} {H : Hp} {s : Shared} {Q : VK} {us : List Value} {vs : List V} (F : D3 X.prog X.w X.K X.mg X.base CX k f fd ps sp) (hr : S4 k X.A) (hb : E7 X.K fd ps ds) (hd : D5 dvs ds) (hx : B1p CX X E)
  (I : Inv X pins σ H s) (r : D5 vs us) (h : sp (vs ++ dvs) H Q E) : wpAny (model X.prog X.w) X.A (call (.ref f) us) (EP X pins σ Q) X.xe s := by
 have r2 : D5 (vs ++ dvs) (us ++ ds) := r.append hd
 have hl : (us ++ ds).length = ps.length := by rw [<- r2.length]; exact F.len _ _ _ _ h
 refine wpAny_call (codeAny_mono (F.run X.A X.stack s H ⟨us, []⟩ (us ++ ds) (vs ++ dvs) Q E hr I.env0 (hb s us I.kIn hl) r2 h) fun r s' hq => ?_)
 cases r with
 | error e => exact hx pins σ H s e s' I hq
 | ok fl =>
  cases fl with
  | ret u => exact I.after hq
  | next => exact False.elim hq
  | brk => exact False.elim hq
  | cont => exact False.elim hq
theorem B6 (F : D3 X.prog X.w X.K X.mg X.base CX k f fd ps sp) (hr : S4 k X.A) (hg : Gl X x) (hm : X.mg x = some (.ref f)) (hk : B5 X.K (.ref f) = true) (hb : E7 X.K fd ps ds) (hd : D5 dvs ds) (hx : B1p CX X E)
  (ha : PA X (e :: es) t) (hdb : (x == ("__debug__" : Str)) = false := by decide) (he : starEach (e :: es) X.env = (false, eval e X.env) :: starEach es X.env := by rfl) (hpl : (backTo pos (starEach es X.env)).any (·.1) = false := by rfl) :
  PE X (.Call (.Name x p) (e :: es) [] pos) (B1o sp dvs E t) := by
 intro pins s σ H Q I h
 refine wpAny_Call_Name_kw (B4d I hg hm ?_ hdb)
 refine PySem.W.callWith_K (h₀ := X.base) I.ok.mod.kin hk (thn (ha pos pins s σ H _ I h) fun us s1 zz185 => el5 zz185 fun vs H1 I1 r q => ⟨I1.kIn, ?_⟩) he hpl
 exact C04 F hr hb hd hx I1 r q
end
section
variable {X : Cx} {CX : CXT} {k : Nat} {f C : Addr} {fd : FuncData} {ps ks : List Str} {sp : Sp} {E : XK} {x m : Str} {p pos apos kpos : Pos} {e o : Expr} {es : List Expr} {kws : List Keyword} {te ta : TE} {t tk : TA} {nm : Option Str}
variable {g : List Value -> List Value -> List Value} {gV : List V -> List V -> List V}
end
structure F0 (N P : List Str) (sc : Scope) : Prop where
 kind : sc.kind = .function
 co : sc.isCoroutine = false
 gen : sc.isGenerator = false
 nd : N.Nodup
 pre : N.take P.length = P
 par : ∀ x ∈ P, sc.names.lookup x = some .local \/ sc.names.lookup x = some .cell
 nofree : ∀ y ∈ sc.names, y.2 ≠ .free
theorem B4v {kindOf : Str -> Option NameKind} {x : Str} : ∀ {binds : List (Str × Value)} {m : Str -> Option Value}, (∀ v, (x, v) ∉ binds) -> bindL kindOf binds m x = m x
 | [], _, _ => rfl
 | (n, v) :: r, m, h => by
  unfold bindL
  rw [B4v fun w hw => h w (A9 _ hw)]
  split
  ·have : x ≠ n := by rintro rfl; exact h v B4
   simp [this]
  ·rfl
theorem B4w {kindOf : Str -> Option NameKind} {x : Str} : ∀ {binds : List (Str × Value)} {m : Str -> Option Value}, (∀ v, (x, v) ∉ binds) -> bindC kindOf binds m x = m x
 | [], _, _ => rfl
 | (n, v) :: r, m, h => by
  unfold bindC
  rw [B4w fun w hw => h w (A9 _ hw)]
  split
  ·rfl
  ·have : x ≠ n := by rintro rfl; exact h v B4
   simp [this]
theorem B4x {kindOf : Str -> Option NameKind} {x : Str} {v : Value} : ∀ {P : List Str} {vs : List Value} {i : Nat} {m : Str -> Option Value}, P.Nodup -> P[i]? = some x -> vs[i]? = some v -> kindOf x = some .local ->
  bindL kindOf (P.zip vs) m x = some v
 | [], _, _, _, _, h, _, _ => by simp at h
 | _ :: _, [], _, _, _, _, h, _ => by simp at h
 | p :: P, w :: vs, 0, m, nd, h1, h2, hk => by
  simp at h1 h2; subst h1; subst h2
  show bindL kindOf ((p, w) :: P.zip vs) m p = _
  unfold bindL
  rw [B4v fun v hv => (A0k.mp nd).1 (List.of_mem_zip hv).1, if_pos hk]
  simp
 | p :: P, w :: vs, i + 1, m, nd, h1, h2, hk => by
  show bindL kindOf ((p, w) :: P.zip vs) m x = _
  unfold bindL
  exact B4x (i := i) (A0k.mp nd).2 (by simpa using h1) (by simpa using h2) hk
theorem B4y {kindOf : Str -> Option NameKind} {x : Str} {v : Value} : ∀ {P : List Str} {vs : List Value} {i : Nat} {m : Str -> Option Value}, P.Nodup -> P[i]? = some x -> vs[i]? = some v -> kindOf x ≠ some .local ->
  bindC kindOf (P.zip vs) m x = some v
 | [], _, _, _, _, h, _, _ => by simp at h
 | _ :: _, [], _, _, _, _, h, _ => by simp at h
 | p :: P, w :: vs, 0, m, nd, h1, h2, hk => by
  simp at h1 h2; subst h1; subst h2
  show bindC kindOf ((p, w) :: P.zip vs) m p = _
  unfold bindC
  rw [B4w fun v hv => (A0k.mp nd).1 (List.of_mem_zip hv).1, if_neg hk]
  simp
 | p :: P, w :: vs, i + 1, m, nd, h1, h2, hk => by
  show bindC kindOf ((p, w) :: P.zip vs) m x = _
  unfold bindC
  exact B4y (i := i) (A0k.mp nd).2 (by simpa using h1) (by simpa using h2) hk
def start (N : List Str) (vs : List V) : St := vs.map some ++ D8 (N.length - vs.length) none
def A14 (CX : CXT) (P : Program) (w : World) (K : A4) (mg : Str -> Option Value) (base : Heap) (N : List Str) (qual : Str) (scope : Scope) (f : Addr) (cd : Value) (A : Around) (outer : List Env) (s : Shared) (H : Hp) (E : XK) : Cx where
 prog := P
 w := w
 K := K
 mg := mg
 base := base
 A := A.deeper (envOfC qual scope s.heap.objs.size f cd)
 N := N
 s₀ := s
 H₀ := H
 env := envOfC qual scope s.heap.objs.size f cd
 outer := outer
 stack := envOfC qual scope s.heap.objs.size f cd :: outer
 ex := []
 calm := true
 fn := fun _ => true
 pn := []
 xe := fun e s' => wpAny (model P w) (A.deeper (envOfC qual scope s.heap.objs.size f cd)) (leaving (envOfC qual scope s.heap.objs.size f cd) e) (fun _ s'' => CX outer H s E e s'') (fun e' s'' => CX outer H s E e' s'') s'
theorem B4z {sc : Scope} {n : Nat} {x : Str} (h : sc.names.lookup x = some .cell) : ∃ c, (cellsFrom n sc.names []).lookup x = some c := by
 have q := PySem.W.cellsFrom_some sc.names n [] (.inl h)
 exact Option.isSome_iff_exists.mp q
theorem C05 {CX : CXT} {P : Program} {w : World} {K : A4} {mg : Str -> Option Value} {base : Heap} {N ps : List Str} {qual : Str} {scope : Scope} {f : Addr} {cd : Value} {A : Around} {outer : List Env} {s s1 : Shared} {H : Hp} {E : XK} {us : List Value} {vs : List V}
  (S : F0 N ps scope) (hd : A.handled = none) (e0 : A9o P w K mg base A outer s H) (hl : vs.length = ps.length) (r : D5 vs us)
  (x : InCallC s s.heap.objs.size (bindL (envOfC qual scope s.heap.objs.size f cd).kindOf (ps.zip us) fun _ => none) (cellsFrom (s.heap.objs.size + 1) scope.names []) (bindC (envOfC qual scope s.heap.objs.size f cd).kindOf (ps.zip us) fun _ => none) s1) :
  Inv (A14 CX P w K mg base N qual scope f cd A outer s H E) [] (start N vs) H s1 := by
 have hpl : ps.length <= N.length := by have := congrArg B0z S.pre; rw [A10] at this; lia
 obtain ⟨h1, tk, rfl, hk⟩ := x.done
 have noA : ∀ b : Addr, b ∉ (A14 CX P w K mg base N qual scope f cd A outer s H E).ex := fun b z => absurd (show b ∈ ([] : List Addr) from z) (by simp)
 refine ⟨⟨e0.mod, S.kind, rfl, rfl, F6 _, fun y z c h1 h2 => ?_, fun y hy => ?_, fun y c _ h => ?_, fun _ => hd, Around.frames_deeper e0.frames, .inr ⟨rfl, rfl⟩, fun b z => absurd z (noA b), e0.bs, e0.bsz, fun b _ _ => noA b, fun b z => absurd z (noA b), e0.funs, e0.frf⟩,
  rfl, e0.bare, Un.kept hk, ⟨_, x.toInCall.ns, fun i y v h1 h2 h3 => ?_⟩, fun y c h => ⟨_, x.cell y c h⟩, e0.hok.fresh (F6 _), fun y c h => ?_, fun p hp => absurd (show p ∈ ([] : List (Addr × Obj)) from hp) (by simp), e0.hok.kept hk, ?_⟩
 ·exact name_of_addr x.apart (B00 h1) (B00 h2)
 ·have hy : scope.names.lookup y = some .cell \/ scope.names.lookup y = some .free := hy
  rcases hy with hy | hy
  ·exact B4z hy
  ·exact absurd rfl (S.nofree _ (B00 hy))
 ·exact A0j (x.above y c (B00 h))
 ·have hi : i < vs.length := by
   unfold start at h2
   by_cases hi : i < vs.length
   ·exact hi
   ·rw [Z0 (by simpa using hi)] at h2
    rw [A86] at h2
    split at h2 <;> cases h2
  have ha : vs[i]? = some v := by
   unfold start at h2
   rw [d6 (by simpa using hi), N1] at h2
   cases e : vs[i]? with
   | none => rw [e] at h2; cases h2
   | some a => rw [e] at h2; cases h2; rfl
  obtain ⟨u, hu, rv⟩ := r.get ha
  have hp : ps[i]? = some y := by
   rw [<- S.pre, List.getElem?_take_of_lt (by lia)]; exact h1
  have ndP : ps.Nodup := by rw [<- S.pre]; exact S.nd.sublist (List.take_sublist _ _)
  refine ⟨u, rv, ?_⟩
  rcases S.par y (N3 hp) with k | k
  ·exact .inl ⟨k, B4x ndP hp hu k⟩
  ·obtain ⟨c, e⟩ := B4z (n := s.heap.objs.size + 1) k
   refine .inr ⟨.inl k, c, e, ?_⟩
   have q := x.cell y c e
   rw [B4y ndP hp hu (by show scope.names.lookup y ≠ _; rw [k]; decide)] at q
   exact q
 ·exact e0.hok.fresh (A0j (x.above y c (B00 h)))
 ·unfold start
  show _ = N.length
  rw [M7, E4, A11]
  lia
theorem C06 {CX : CXT} {P : Program} {w : World} {K : A4} {mg : Str -> Option Value} {base : Heap} {k : Nat} {f : Addr} {name qual : Str} {params : Arguments} {body : List Stmt} {scope : Scope} {dV kV doc pm cdv ct oc : Value} {an od : Option Addr}
  {osl : Array (Option Value)} {N ps : List Str} {sp : Sp} (lk : K.lookup f = some ⟨oc, od, .func (E5 name qual params body scope dV kV doc pm an cdv ct), osl⟩) (hcd : F4 K cdv qual = true) (S : F0 N ps scope)
  (len : ∀ vs H Q E, sp vs H Q E -> vs.length = ps.length)
  (hbody : ∀ (A : Around) (outer : List Env) (s : Shared) (H : Hp) (vs : List V) (Q : VK) (E : XK), S4 k (A.deeper (envOfC qual scope s.heap.objs.size f cdv)) -> sp vs H Q E ->
   ∃ t, PSs (A14 CX P w K mg base N qual scope f cdv A outer s H E) body t /\ t { nx := fun _ H' => Q .non H', rt := Q } (start N vs) H) :
  D3 P w K mg base CX (k + 1) f (E5 name qual params body scope dV kV doc pm an cdv ct) ps sp := by
 refine ⟨len, fun A outer s H args us vs Q E hr e0 hb r hsp => ?_⟩
 have hl := len _ _ _ _ hsp
 have KX : K.In s.heap := e0.mod.kin.keeps fun b o e => (e0.bs b o e).1
 have lim : s.heap.NoLimit := e0.mod.nolimit.keeps fun b o e => (e0.bs b o e).1
 have hkind : ∀ y ∈ ps.zip us, scope.names.lookup y.1 = some .local \/ (scope.names.lookup y.1 = some .cell /\ ((cellsFrom (s.heap.objs.size + 1) scope.names []).lookup y.1).isSome = true) := fun ⟨n, v⟩ hy => by
  rcases S.par n (List.of_mem_zip hy).1 with q | q
  ·exact .inl q
  ·exact .inr ⟨q, PySem.W.cellsFrom_some _ _ _ (.inl q)⟩
 refine codeAny_call_function hr.depth (KX _ _ lk) rfl S.co S.gen rfl (PySem.W.codeRec_of KX hcd) (hb _ _ _ _ ?_)
 refine wpAny_newFunctionEnv_cells S.kind hkind fun env he s1 x => ?_
 subst he
 refine ⟨lim.keeps x.toInCall.keep, codeAny_func ?_⟩
 obtain ⟨t, ht, hq⟩ := hbody A outer s H vs Q E (hr.deeper _) hsp
 have I : Inv (A14 CX P w K mg base N qual scope f cdv A outer s H E) [] (start N vs) H s1 := C05 S hr.hd e0 hl r x
 refine wpAny_mono (ht [] s1 (start N vs) H _ I hq) (fun fl s' hs => ?_) fun e s' hs => hs
 have fin : ∀ {σ' : St} {H' : Hp} {v : V} {u : Value}, Inv (A14 CX P w K mg base N qual scope f cdv A outer s H E) [] σ' H' s' -> F7 v u -> Q v H' -> CE outer P w H s Q u s' :=
  fun {σ' H' v u} J rv q => ⟨v, H', J.os, J.bare, J.base, J.hok, rv, q⟩
 cases fl with
 | ret u =>
  obtain ⟨v, σ', H', J, rv, q⟩ := hs
  exact fin J rv q
 | next =>
  obtain ⟨σ', H', J, q⟩ := hs
  exact fin (v := V.non) (u := Value.none) J rfl q
 | brk =>
  obtain ⟨_, _, _, q⟩ := hs
  exact False.elim q
 | cont =>
  obtain ⟨_, _, _, q⟩ := hs
  exact False.elim q
end L2
namespace L2
open PySem PySem.Spec PyProof.Rows
section
variable {X : Cx} {x : Str} {p pos : Pos} {e : Expr} {es : List Expr} {t : TA} {id T : String} {r : List V -> Hp -> VK -> Prop}
def tCB (r : List V -> Hp -> VK -> Prop) (t : TA) : TE := fun σ H Q => t σ H fun vs H1 => r vs H1 Q
theorem F9 (hc : X6 X (.builtin id) r) (hg : Gl X x) (hm : X.mg x = none) (hv : bootBuiltins x = some (.builtin id)) (ha : PA X (e :: es) t) (hn : x ≠ "__name__" := by decide) (hdb : (x == ("__debug__" : Str)) = false := by decide)
  (he : starEach (e :: es) X.env = (false, eval e X.env) :: starEach es X.env := by rfl) (hpl : (backTo pos (starEach es X.env)).any (·.1) = false := by rfl) : PE X (.Call (.Name x p) (e :: es) [] pos) (tCB r t) := by
 intro pins s σ H Q I h
 refine wpAny_Call_Name_kw (p9 I hg hm hv ?_ hn hdb)
 exact PyProof.Rows.callWith_builtin1 (thn (ha pos pins s σ H _ I h) fun us s1 zz213 => el5 zz213 fun vs H1 I1 r1 q1 => hc pins s1 σ H1 vs us Q I1 r1 q1) he hpl
theorem Y0 (hc : X6 X (.type T) r) (hg : Gl X x) (hm : X.mg x = none) (hv : bootBuiltins x = some (.type T)) (ha : PA X (e :: es) t) (hn : x ≠ "__name__" := by decide) (hdb : (x == ("__debug__" : Str)) = false := by decide)
  (he : starEach (e :: es) X.env = (false, eval e X.env) :: starEach es X.env := by rfl) (hpl : (backTo pos (starEach es X.env)).any (·.1) = false := by rfl) : PE X (.Call (.Name x p) (e :: es) [] pos) (tCB r t) := by
 intro pins s σ H Q I h
 refine wpAny_Call_Name_kw (p9 I hg hm hv ?_ hn hdb)
 exact PyProof.Rows.callWith_type1 (thn (ha pos pins s σ H _ I h) fun us s1 zz214 => el5 zz214 fun vs H1 I1 r1 q1 => hc pins s1 σ H1 vs us Q I1 r1 q1) he hpl
end
end L2
namespace HT
open PySem PyProof.Rows
section
open PySem.SeqAt
open PySem.AutoSeq1 (wpAny_loadPart')
open PySem.MeetsSeq PySem.MeetsSeq2 PySem.MeetsSeq3
end
section
variable {prog : Program} {w : World} {A : Around} {E : Value -> Shared -> Prop} {s : Shared}
def sIx (n d : Nat) : Option Int -> Nat
 | none => d
 | some v => if v < 0 then (v + (n : Int)).toNat else min v.toNat n
theorem sIx_none (n d : Nat) : sIx n d none = d := rfl
theorem sIx_nat (n d k : Nat) : sIx n d (some (k : Int)) = min k n := by
 show (if (k : Int) < 0 then ((k : Int) + (n : Int)).toNat else min (k : Int).toNat n) = min k n
 rw [if_neg (by lia), Z1]
end
end HT
namespace L2
open PySem PySem.Spec PyProof.Rows
abbrev TO := St -> Hp -> (Option Int -> Hp -> Prop) -> Prop
def PO (X : Cx) (e : Option Expr) (t : TO) : Prop :=
 ∀ (pins : List (Addr × Obj)) (s : Shared) (σ : St) (H : Hp) (Q : Option Int -> Hp -> Prop), Inv X pins σ H s -> t σ H Q ->
  wpAny (model X.prog X.w) X.A (evalPart e X.env) (fun u s' => ∃ o H', Inv X pins σ H' s' /\ IsPart u o /\ Q o H') X.xe s
def C07 : TO := fun _ H Q => Q none H
def C08 (t : TE) : TO := fun σ H Q => t σ H fun x H1 => ∃ i, x = .int i /\ Q (some i) H1
theorem C09 {ns : List Int} : ∀ {us : List Value}, D5 (ns.map V.int) us -> IntsAre us ns := by
 induction ns with
 | nil => intro us r; rw [List.map_nil] at r; cases r; exact .nil
 | cons n ns ih =>
  intro us r
  rw [o8] at r
  cases r with
  | cons r1 r2 =>
   obtain ⟨t, e⟩ := r1
   subst e
   exact .cons n t (ih r2)
section
variable {X : Cx} {e : Expr} {te : TE} {lo hi : Option Expr} {tl th : TO} {pos p2 : Pos}
theorem B40 : PO X none C07 := by
 intro pins s σ H Q I h
 rw [evalPart_none]
 exact wpAny_pure ⟨none, H, I, .none, h⟩
theorem B41 (h : PE X e te) : PO X (some e) (C08 te) := by
 intro pins s σ H Q I hw
 rw [evalPart_some]
 refine thn (h pins s σ H _ I hw) fun u s1 zz215 => el5 zz215 fun x H1 I1 r1 q1 => ?_
 obtain ⟨i, rfl, q⟩ := q1
 obtain ⟨t, rfl⟩ := r1
 exact ⟨some i, H1, I1, .int i t, q⟩
def SlR (X : Cx) (r : V -> Option Int -> Option Int -> Hp -> VK -> Prop) : Prop :=
 ∀ (pins : List (Addr × Obj)) (s : Shared) (σ : St) (H : Hp) (x : V) (v vl vu : Value) (lo hi : Option Int) (sl : Addr) (Q : VK), Inv X pins σ H s -> F7 x v -> s.heap.IsSliceOf sl vl vu .none -> IsPart vl lo -> IsPart vu hi -> r x lo hi H Q ->
  ∃ T id, typeLookup (.type T) "__getitem__" = pure (some (.builtin id)) /\ s.TypeIs v T /\ wpAny (model X.prog X.w) X.A (getItem v (.ref sl)) (EP X pins σ Q) X.xe s
def tSl (r : V -> Option Int -> Option Int -> Hp -> VK -> Prop) (te : TE) (tl th : TO) : TE := fun σ H Q => te σ H fun x H1 => tl σ H1 fun l H2 => th σ H2 fun u H3 => r x l u H3 Q
theorem B1q {r : V -> Option Int -> Option Int -> Hp -> VK -> Prop} (hr : SlR X r) (he : PE X e te) (hl : PO X lo tl) (hu : PO X hi th) : PE X (.Subscript e (.Slice lo hi none p2) pos) (tSl r te tl th) := by
 intro pins s σ H Q I h
 refine Subscript_ (thn (he pins s σ H _ I h) fun v s1 zz216 => el5 zz216 fun x H1 I1 r1 q1 => ?_)
 refine wpAny_Slice (thn (hl pins s1 σ H1 _ I1 q1) fun vl s2 zz217 => el5 zz217 fun l H2 I2 pl q2 => thn (hu pins s2 σ H2 _ I2 q2) fun vu s3 zz218 => el5 zz218 fun u H3 I3 pu q3 => ?_)
 rw [evalPart_none]
 refine wpAny_pure ?_
 have I4 : Inv X pins σ H3 { s3 with heap := s3.heap.push { cls := .type "slice", data := .fields #[vl, vu, .none] } } := I3.kept (t' := s3.toks) fun b ob q => S1 _ q
 obtain ⟨T, id, hT, ht, hg⟩ := hr pins { s3 with heap := s3.heap.push { cls := .type "slice", data := .fields #[vl, vu, .none] } } σ H3 x v vl vu l u s3.heap.objs.size Q I4 r1 (Heap.IsSliceOf.new ..) pl pu q3
 show wpAny (model X.prog X.w) X.A (subscriptTail e (.Slice lo hi none p2) v (.ref s3.heap.objs.size)) (EP X pins σ Q) X.xe { s3 with heap := s3.heap.push { cls := .type "slice", data := .fields #[vl, vu, .none] } }
 exact tail_any (ops := [.ref s3.heap.objs.size, v]) ht hT hg (by with_unfolding_all rfl)
def A15 (xs : List V) (lo hi : Option Int) : List V := (xs.drop (HT.sIx xs.length 0 lo)).take (HT.sIx xs.length xs.length hi - HT.sIx xs.length 0 lo)
theorem C1a (xs : List V) (lo hi : Option Int) : (A15 xs lo hi).length <= xs.length := by
 unfold A15
 rw [A10, B3x]
 lia
end
end L2
namespace L2
open PySem PySem.Spec PyProof.Rows
def ixN (n : Nat) (i : Int) : Option Nat := if 0 <= i then (if i < n then some i.toNat else none) else if -(n : Int) <= i then some (i + n).toNat else none
def atI {α : Type} (xs : List α) (i : Int) : Option α := (ixN xs.length i).bind fun j => xs[j]?
theorem B42 {n : Nat} {i : Int} {j : Nat} (h : ixN n i = some j) : seqIndex? i n = some j /\ j < n /\ -(n : Int) <= i /\ i < n := by
 unfold ixN at h
 by_cases h0 : 0 <= i
 ·rw [if_pos h0] at h
  by_cases h1 : i < n
  ·rw [if_pos h1] at h
   have e : i.toNat = j := Option.some.inj h
   exact ⟨by rw [seqIndex_of h0 h1, e], by lia, by lia, h1⟩
  ·rw [if_neg h1] at h; cases h
 ·rw [if_neg h0] at h
  by_cases h1 : -(n : Int) <= i
  ·rw [if_pos h1] at h
   have e : (i + n).toNat = j := Option.some.inj h
   exact ⟨by rw [seqIndex_neg (by lia) h1, e], by lia, h1, by lia⟩
  ·rw [if_neg h1] at h; cases h
theorem A9p {α : Type} {xs : List α} {i : Int} {v : α} (h : atI xs i = some v) : ∃ j, seqIndex? i xs.length = some j /\ xs[j]? = some v /\ j < xs.length /\ -(xs.length : Int) <= i /\ i < xs.length := by
 unfold atI at h
 cases e : ixN xs.length i with
 | none => rw [e] at h; cases h
 | some j =>
  rw [e] at h
  obtain ⟨h1, h2, h3, h4⟩ := B42 e
  exact ⟨j, h1, h, h2, h3, h4⟩
theorem W5 {α : Type} {xs : List α} {j : Nat} {v : α} (h : xs[j]? = some v) : atI xs (j : Int) = some v := by
 have hj : j < xs.length := (A1z.mp h).1
 have e : ixN xs.length (j : Int) = some j := by
  unfold ixN
  rw [if_pos (by lia), if_pos (by lia)]; simp
 unfold atI; rw [e]; exact h
theorem B43 {α : Type} (xs : List α) (v : α) : atI (xs ++ [v]) (-1) = some v := by
 have hl : (xs ++ [v]).length = xs.length + 1 := by simp
 have e : ixN (xs ++ [v]).length (-1) = some xs.length := by
  unfold ixN
  rw [hl, if_neg (by decide), if_pos (by lia)]
  congr 1
  lia
 unfold atI
 rw [e]
 show (xs ++ [v])[xs.length]? = some v
 simp
def A41 (b : Expr) : Prop := ∀ o i, subscripted b false o i = operate [o, i] (getItem o i)
def IxR (X : Cx) (r : R2) : Prop :=
 ∀ (value slice : Expr) (pins : List (Addr × Obj)) (s : Shared) (σ : St) (H : Hp) (x y : V) (v u : Value) (Q : VK), Inv X pins σ H s -> F7 x v -> F7 y u -> r x y H Q ->
  subscripted slice false v u = operate [v, u] (getItem v u) -> wpAny (model X.prog X.w) X.A (subscriptTail value slice v u) (EP X pins σ Q) X.xe s
def MtR (X : Cx) (id : String) (r : V -> List V -> Hp -> VK -> Prop) : Prop :=
 ∀ (pins : List (Addr × Obj)) (s : Shared) (σ : St) (H : Hp) (x : V) (xs : List V) (v : Value) (us : List Value) (Q : VK), Inv X pins σ H s -> F7 x v -> D5 xs us -> r x xs H Q ->
  wpAny (model X.prog X.w) X.A (call (.builtin id) (v :: us)) (EP X pins σ Q) X.xe s
section
variable {X : Cx} {a b : Expr} {ta tb : TE} {pos : Pos}
theorem IxR.or {r r' : R2} (h : IxR X r) (h' : IxR X r') : IxR X (fun x y H Q => r x y H Q \/ r' x y H Q) := by
 intro value slice pins s σ H x y v u Q I rx ry q hs
 rcases q with q | q
 ·exact h value slice pins s σ H x y v u Q I rx ry q hs
 ·exact h' value slice pins s σ H x y v u Q I rx ry q hs
theorem M9 {r : R2} (hr : IxR X r) (ha : PE X a ta) (hb : PE X b tb) (hs : A41 b) : PE X (.Subscript a b pos) (tOp r ta tb) := by
 intro pins s σ H Q I h
 exact Subscript_ (B1i ha hb I h fun v u s2 x y H2 I2 rx ry q => hr a b pins s2 σ H2 x y v u Q I2 rx ry q (hs _ _))
def B44 (K : A4) : R2 := fun x y H Q => ∃ p xs i v, x = .ref p /\ y = .int i /\ SqL K H p xs /\ atI xs i = some v /\ Q v H
def B45 (K : A4) : R2 := fun x y H Q => ∃ p xs i v, x = .ref p /\ y = .int i /\ SqT K H p xs /\ atI xs i = some v /\ Q v H
def B46 : R2 := fun x y H Q => ∃ z i c, x = .str z /\ y = .int i /\ z.length <= sizeLine /\ atI z.cps.toList i = some c /\ Q (.str ⟨#[c]⟩) H
theorem T1 : IxR X (B44 X.K) := by
 intro value slice pins s σ H x y v u Q I rx ry h hs
 obtain ⟨p, xs, i, z, rfl, rfl, hq, he, q⟩ := h
 cases rx
 obtain ⟨t, rfl⟩ := ry
 obtain ⟨its, r, pl, hz⟩ := I.list hq
 obtain ⟨j, h1, h2, h3, h4, h5⟩ := A9p he
 obtain ⟨w, ew, rw'⟩ := r.get h2
 have hl := r.length
 have hn := A40
 have fin : EP X pins σ Q w s := ⟨z, H, I, rw', q⟩
 by_cases h0 : 0 <= i
 ·have hj : i.toNat = j := by
   rw [seqIndex_of h0 h5] at h1
   exact Option.some.inj h1
  exact item_listR pl.isList h0 (by lia) (by rw [hj]; simpa using ew) fin hs
 ·have hj : (i + (its.toArray.size : Int)).toNat = j := by
   rw [seqIndex_neg (by lia) h4] at h1
   rw [O1, <- hl]
   exact Option.some.inj h1
  exact subscriptTail_builtinR (x := w) pl.isList.typeIs slot_list_getitem.lookup
   (wpAny_getItem_list_neg (Q := fun r s' => r = w /\ EP X pins σ Q r s') pl.isList (by lia) (by rw [O1] <;> lia) (by lia) (by rw [hj]; simpa using ew) ⟨rfl, fin⟩) hs
theorem C1b : IxR X (B45 X.K) := by
 intro value slice pins s σ H x y v u Q I rx ry h hs
 obtain ⟨p, xs, i, z, rfl, rfl, hq, he, q⟩ := h
 cases rx
 obtain ⟨t, rfl⟩ := ry
 obtain ⟨its, r, pl, hz⟩ := I.tuple hq
 obtain ⟨j, h1, h2, h3, h4, h5⟩ := A9p he
 obtain ⟨w, ew, rw'⟩ := r.get h2
 have hl := r.length
 have hn := A40
 have fin : EP X pins σ Q w s := ⟨z, H, I, rw', q⟩
 exact subscriptTail_builtinR (x := w) pl.typeIs slot_tuple_getitem.lookup
  (getItem_tuple (j := j) (Q := fun r s' => r = w /\ EP X pins σ Q r s') pl (by lia) (by lia) (by rw [O1, <- hl]; exact h1) (by simpa using ew) ⟨rfl, fin⟩) hs
theorem C1c : IxR X B46 := by
 intro value slice pins s σ H x y v u Q I rx ry h hs
 obtain ⟨z, i, c, rfl, rfl, hz, he, q⟩ := h
 obtain ⟨t, rfl⟩ := rx
 obtain ⟨t', rfl⟩ := ry
 obtain ⟨j, h1, h2, h3, h4, h5⟩ := A9p he
 have hl : z.cps.toList.length = z.length := by simp [Str.length]
 rw [hl] at h1 h4 h5
 have hn := A40
 exact tail_any (typeIs_str s z t) slot_str_getitem.lookup (getItem_str (c := c) (by
  have e1 : decide (i < -(2 ^ 63 : Int)) = false := decide_eq_false (by lia)
  have e2 : decide (i ≥ 2 ^ 63) = false := decide_eq_false (by lia)
  rw [e1, e2, Bool.or_false]) (by rw [h1]; simpa using h2) ⟨.str ⟨#[c]⟩, H, I.tok _, ⟨_, rfl⟩, q⟩) hs
def rIx (K : A4) : R2 := fun x y H Q => B44 K x y H Q \/ B45 K x y H Q \/ B46 x y H Q
theorem j7 : IxR X (rIx X.K) := T1.or (C1b.or C1c)
theorem C1d (its : List Value) (n j : Nat) (u : Value) : A4o (·.setIfInBounds j u) { cls := .type "list", data := .seq its.toArray n } = { cls := .type "list", data := .seq (its.set j u).toArray n } := by
 simp [A4o]
theorem Inv.lst {pins : List (Addr × Obj)} {σ : St} {H : Hp} {s : Shared} {p : Addr} {xs : List V} (I : Inv X pins σ H s) (h : H p = some (.lst xs)) :
  ∃ (its : List Value) (n : Nat), D5 xs its /\ s.heap.get? p = some { cls := .type "list", data := .seq its.toArray n } /\ xs.length <= sizeLine := by
 obtain ⟨z, its, n, r, e⟩ := I.hok p _ h
 exact ⟨its, n, r, e, z⟩
theorem Inv.lstUpd {pins : List (Addr × Obj)} {σ : St} {H : Hp} {s : Shared} {p : Addr} {xs ys : List V} {its its' : List Value} {n n' : Nat} {f : Obj -> Obj} (I : Inv X pins σ H s) (h : H p = some (.lst xs))
  (ho : s.heap.get? p = some { cls := .type "list", data := .seq its.toArray n }) (hf : f { cls := .type "list", data := .seq its.toArray n } = { cls := .type "list", data := .seq its'.toArray n' }) (r : D5 ys its') (hz : ys.length <= sizeLine) (t : Nat) :
  Inv X pins σ (upd H p (.lst ys)) { s with heap := s.heap.update p f, toks := t } := by
 have e : (s.heap.update p f).get? p = some { cls := .type "list", data := .seq its'.toArray n' } := by
  rw [Heap.get?_update_self f ho (by rw [hf] <;> rfl), hf]
 refine I.write (x := p) (e := p) (by rw [h]; trivial) (.inl rfl) (fun b u hb q => (B9j _ _ (Ne.symm hb)).trans q) ⟨_, e⟩ ?_
 exact ⟨hz, its', n', r, e⟩
def A9q : V -> V -> V -> Hp -> (Hp -> Prop) -> Prop := fun o i v H Q => ∃ p xs k j, o = .ref p /\ i = .int k /\ H p = some (.lst xs) /\ ixN xs.length k = some j /\ Q (upd H p (.lst (xs.set j v)))
theorem U1 : B1f X A9q := by
 intro pins s σ H o i v ov iv u Q I ro ri rv h
 obtain ⟨p, xs, k, j, rfl, rfl, hp, hj, q⟩ := h
 cases ro
 obtain ⟨t, rfl⟩ := ri
 obtain ⟨its, n, r, ho, hz⟩ := I.lst hp
 obtain ⟨h1, h2, h3, h4⟩ := B42 hj
 have hl := r.length
 have hn := A40
 have I' : Inv X pins σ (upd H p (.lst (xs.set j v))) { s with heap := s.heap.update p (A4o (·.setIfInBounds j u)) } :=
  I.lstUpd hp ho (C1d its n j u) (r.set rv j) (by rw [L9]; exact hz) s.toks
 by_cases h0 : 0 <= k
 ·have hk : k.toNat = j := by
   rw [seqIndex_of h0 h4] at h1
   exact Option.some.inj h1
  exact PySem.W.ki_setAt ho h0 (by lia) (by rw [O1, <- hl]; exact h4) (by rw [hk]; exact ⟨_, I', q⟩)
 ·have hk : (k + (its.toArray.size : Int)).toNat = j := by
   rw [seqIndex_neg (by lia) h3] at h1
   rw [O1, <- hl]
   exact Option.some.inj h1
  exact PySem.W.ki_setBack ho (by lia) (by rw [O1, <- hl]; exact h3) (by lia) (by rw [hk]; exact ⟨_, I', q⟩)
theorem C1e (lo hi : Option Int) (n : Nat) : (sliceBounds lo hi none n).1 = ((HT.sIx n 0 lo : Nat) : Int) /\ (sliceBounds lo hi none n).2.1 = ((HT.sIx n n hi : Nat) : Int) /\ (sliceBounds lo hi none n).2.2 = 1 := by
 refine ⟨?_, ?_, rfl⟩
 ·cases lo with
  | none => simp [sliceBounds, HT.sIx]
  | some i =>
   simp only [sliceBounds, HT.sIx, Option.getD_none, show (1 : Int) > 0 by decide, if_true]
   by_cases h : i < 0
   ·simp only [h, if_true] <;> lia
   ·simp only [h, if_false] <;> lia
 ·cases hi with
  | none => simp [sliceBounds, HT.sIx]
  | some i =>
   simp only [sliceBounds, HT.sIx, Option.getD_none, show (1 : Int) > 0 by decide, if_true]
   by_cases h : i < 0
   ·simp only [h, if_true] <;> lia
   ·simp only [h, if_false] <;> lia
theorem C1f (its : List Value) (lo hi : Option Int) : slicePick its.toArray lo hi none = ((its.drop (HT.sIx its.length 0 lo)).take (HT.sIx its.length its.length hi - HT.sIx its.length 0 lo)).toArray := by
 obtain ⟨h1, h2, h3⟩ := C1e lo hi its.toArray.size
 unfold slicePick
 rw [h1, h2, h3]
 simp only [sliceRange_one, pick_run, O1] <;> rfl
def C1g (K : A4) : V -> Option Int -> Option Int -> Hp -> VK -> Prop := fun x lo hi H Q => ∃ a xs, x = .ref a /\ SqL K H a xs /\ ∀ p, H p = none -> Q (.ref p) (upd H p (.lst (A15 xs lo hi)))
theorem B1r : SlR X (C1g X.K) := by
 intro pins s σ H x v vl vu lo hi sl Q I rx hs pl pu h
 obtain ⟨a, xs, rfl, hx, q⟩ := h
 cases rx
 obtain ⟨its, r, ht, hz⟩ := I.list hx
 have hlen := r.length
 refine ⟨"list", _, slot_list_getitem.lookup, ht.isList.typeIs, ?_⟩
 refine wpAny_getItem_list_slice ht.isList hs pl pu .none (by simp) ?_ (by rw [O1] <;> lia)
 rw [C1f, <- hlen]
 refine ⟨.ref s.heap.objs.size, _, I.laid (t' := s.toks) (o := .lst (A15 xs lo hi)) (fun b ob q => S1 _ q) (F6 _) ?_, rfl, q _ (I.hok.fresh (F6 _))⟩
 exact ⟨Y9 (C1a xs lo hi) hz, _, 0, (r.drop (HT.sIx xs.length 0 lo)).take (HT.sIx xs.length xs.length hi - HT.sIx xs.length 0 lo), W1 _ rfl⟩
def t5 : V -> Bool
 | .non => true
 | .bl _ => true
 | .int _ => true
 | .str _ => true
 | _ => false
def eqV : V -> V -> Bool
 | .non, .non => true
 | .bl a, .bl b => a == b
 | .bl a, .int b => (if a then 1 else 0) == b
 | .int a, .bl b => a == (if b then 1 else 0)
 | .int a, .int b => a == b
 | .str a, .str b => a == b
 | _, _ => false
theorem C1h {A : Around} {s : Shared} {y x : V} {u v : Value} (ry : F7 y u) (rx : F7 x v) (fy : t5 y = true) (fx : t5 x = true) : SeqAt.EqAt A s u v (eqV y x) := by
 cases y with
 | non =>
  cases ry
  cases x with
  | non => cases rx; exact SeqAt.EqAt.same _
  | bl b => cases rx; exact SeqAt.EqAt.none_bool b
  | int b => obtain ⟨t, rfl⟩ := rx; exact SeqAt.EqAt.none_int b t
  | str b => obtain ⟨t, rfl⟩ := rx; exact SeqAt.EqAt.none_str b t
  | _ => exact absurd (show false = true from fx) S0
 | bl a =>
  cases ry
  cases x with
  | non => cases rx; exact SeqAt.EqAt.bool_none a
  | bl b => cases rx; exact SeqAt.EqAt.bool_bool a b
  | int b => obtain ⟨t, rfl⟩ := rx; exact SeqAt.EqAt.bool_int a b t
  | str b => obtain ⟨t, rfl⟩ := rx; exact SeqAt.EqAt.bool_str a b t
  | _ => exact absurd (show false = true from fx) S0
 | int a =>
  obtain ⟨t', rfl⟩ := ry
  cases x with
  | non => cases rx; exact SeqAt.EqAt.int_none a t'
  | bl b => cases rx; exact SeqAt.EqAt.int_bool a t' b
  | int b => obtain ⟨t, rfl⟩ := rx; exact SeqAt.EqAt.int_int a t' b t
  | str b => obtain ⟨t, rfl⟩ := rx; exact SeqAt.EqAt.int_str a t' b t
  | _ => exact absurd (show false = true from fx) S0
 | str a =>
  obtain ⟨t', rfl⟩ := ry
  cases x with
  | non => cases rx; exact SeqAt.EqAt.str_none a t'
  | bl b => cases rx; exact SeqAt.EqAt.str_bool a t' b
  | int b => obtain ⟨t, rfl⟩ := rx; exact SeqAt.EqAt.str_int a t' b t
  | str b => obtain ⟨t, rfl⟩ := rx; exact SeqAt.EqAt.str_str a t' b t
  | _ => exact absurd (show false = true from fx) S0
 | _ => exact absurd (show false = true from fy) S0
def eqU (x : V) (u : Value) : Bool := match u with
 | .none => eqV .non x
 | .bool b => eqV (.bl b) x
 | .int i _ => eqV (.int i) x
 | .str z _ => eqV (.str z) x
 | _ => false
theorem B47 {x y : V} {u : Value} (r : F7 y u) (f : t5 y = true) : eqU x u = eqV y x := by
 cases y with
 | non => cases r; rfl
 | bl b => cases r; rfl
 | int i => obtain ⟨t, rfl⟩ := r; rfl
 | str z => obtain ⟨t, rfl⟩ := r; rfl
 | _ => exact absurd (show false = true from f) S0
theorem B1s {x : V} : ∀ {xs : List V} {us : List Value}, D5 xs us -> xs.all t5 = true -> us.any (eqU x) = xs.any fun y => eqV y x
 | _, _, .nil, _ => rfl
 | y :: xs, u :: us, .cons r t, f => by
  rw [B01, P7] at f
  rw [List.any_cons, List.any_cons, B47 r f.1, B1s t f.2]
theorem B1t {A : Around} {s : Shared} {x : V} {v : Value} (rx : F7 x v) (fx : t5 x = true) : ∀ {xs : List V} {us : List Value}, D5 xs us -> xs.all t5 = true -> ∀ u ∈ us, SeqAt.EqAt A s u v (eqU x u)
 | _, _, .nil, _ => fun u hu => by cases hu
 | y :: xs, u :: us, .cons r t, f => fun u' hu => by
  rw [B01, P7] at f
  rcases K1.mp hu with rfl | hu
  ·rw [B47 r f.1]; exact C1h r rx f.1 fx
  ·exact B1t rx fx t f.2 u' hu
def inV (x : V) (xs : List V) : Bool := xs.any fun y => eqV y x
def rIn (K : A4) (neg : Bool) : R2 := fun x y H Q => ∃ p xs, y = .ref p /\ (SqL K H p xs \/ SqT K H p xs) /\ t5 x = true /\ xs.all t5 = true /\ Q (.bl (if neg then !inV x xs else inV x xs)) H
theorem C1i : OpR X (compareOp .NotIn) (rIn X.K true) := by
 intro pins s σ H x y v u Q I rx ry h
 obtain ⟨p, xs, rfl, hq, fx, fs, q⟩ := h
 cases ry
 rcases hq with hq | hq
 ·obtain ⟨its, r, pl, hz⟩ := I.list hq
  refine SeqAt.notIn_listAt (eqU x) pl.isList (fun w hw => B1t rx fx r fs w (by simpa using hw)) ⟨.bl _, H, I, rfl, ?_⟩
  rw [show its.toArray.any (eqU x) = its.any (eqU x) by simp, B1s r fs]
  exact q
 ·obtain ⟨its, r, pl, hz⟩ := I.tuple hq
  refine SeqAt.notIn_tupleAt (eqU x) pl (fun w hw => B1t rx fx r fs w (by simpa using hw)) ⟨.bl _, H, I, rfl, ?_⟩
  rw [show its.toArray.any (eqU x) = its.any (eqU x) by simp, B1s r fs]
  exact q
theorem N6 : X6 X (.builtin "len") (fun xs H Q => ∃ p ys, xs = [.ref p] /\ (SqL X.K H p ys \/ SqT X.K H p ys) /\ Q (.int ys.length) H) := by
 intro pins s σ H xs us Q I r h
 obtain ⟨p, ys, rfl, hq, q⟩ := h
 obtain ⟨u, rfl, rx⟩ := X8 r
 cases rx
 have hn := A40
 rcases hq with hq | hq
 ·obtain ⟨its, r', pl, hz⟩ := I.list hq
  have hlen := r'.length
  exact Calls.call_len_list pl.isList (by simp only [O1] <;> lia) ⟨.int ys.length, H, I.tok _, ⟨s.toks + 1, by rw [O1, hlen]⟩, q⟩
 ·obtain ⟨its, r', pl, hz⟩ := I.tuple hq
  have hlen := r'.length
  exact len_tuple pl (by simp only [O1] <;> lia) ⟨.int ys.length, H, I.tok _, ⟨s.toks + 1, by rw [O1, hlen]⟩, q⟩
theorem t6 : X6 X (.type "list") (fun xs H Q => ∃ p ys, xs = [.ref p] /\ (SqL X.K H p ys \/ SqT X.K H p ys) /\ ∀ l, H l = none -> Q (.ref l) (upd H l (.lst ys))) := by
 intro pins s σ H xs us Q I r h
 obtain ⟨p, ys, rfl, hq, q⟩ := h
 obtain ⟨u, rfl, rx⟩ := X8 r
 cases rx
 have fin : ∀ (its : List Value), D5 ys its -> ys.length <= sizeLine -> ∀ (h' : Heap) (c' : Nat), (∀ b o', s.heap.get? b = some o' -> h'.get? b = some o') ->
   h'.get? s.heap.objs.size = some { cls := .type "list", dict := none, data := .seq its.toArray c', slots := #[] } -> EP X pins σ Q (.ref s.heap.objs.size) { s with heap := h' } := fun its r' hz h' c' kp e =>
  ⟨.ref s.heap.objs.size, _, I.laid (t' := s.toks) kp (F6 _) (show O4 X.prog X.w _ h' _ (.lst ys) from ⟨hz, its, c', r', e⟩), rfl, q _ (I.hok.fresh (F6 _))⟩
 rcases hq with hq | hq
 ·obtain ⟨its, r', pl, hz⟩ := I.list hq
  have hlen := r'.length
  obtain ⟨o, ho, hc, n, hd⟩ := pl.isList
  exact call_list_seq p (.inl rfl) ho hc hd (fun h' c' kp e => fin its r' hz h' c' kp e) (by simp only [O1] <;> lia)
 ·obtain ⟨its, r', pl, hz⟩ := I.tuple hq
  have hlen := r'.length
  obtain ⟨o, ho, hc, n, hd⟩ := pl
  exact call_list_seq p (.inr rfl) ho hc hd (fun h' c' kp e => fin its r' hz h' c' kp e) (by simp only [O1] <;> lia)
theorem B48 : X6 X (.type "tuple") (fun xs H Q => ∃ p ys, xs = [.ref p] /\ ((SqL X.K H p ys /\ ∀ l, H l = none -> Q (.ref l) (upd H l (.tup ys))) \/ (SqT X.K H p ys /\ Q (.ref p) H))) := by
 intro pins s σ H xs us Q I r h
 obtain ⟨p, ys, rfl, h⟩ := h
 obtain ⟨u, rfl, rx⟩ := X8 r
 cases rx
 rcases h with ⟨hq, q⟩ | ⟨hq, q⟩
 ·obtain ⟨its, r', pl, hz⟩ := I.list hq
  have hlen := r'.length
  refine call_tuple_list pl.isList (fun h' kp => ?_) (by simp only [O1] <;> lia)
  have I1 : Inv X pins σ H { s with heap := h' } := I.kept (t' := s.toks) kp
  have I2 : Inv X pins σ (upd H h'.objs.size (.tup ys)) { s with heap := h'.push { cls := .type "tuple", data := .seq its.toArray } } :=
   I1.laid (t' := s.toks) (fun b o e => S1 _ e) (F6 _) (show O4 X.prog X.w _ _ _ (.tup ys) from ⟨hz, its, r', IsTup.new _ _⟩)
  exact ⟨.ref h'.objs.size, _, I2, rfl, q _ (I1.hok.fresh (F6 _))⟩
 ·obtain ⟨its, r', pl, hz⟩ := I.tuple hq
  exact call_tuple_same pl ⟨.ref p, H, I, rfl, q⟩
def tyV (K : A4) (T : String) (x : V) (H : Hp) : Prop := match x with
 | .str _ => T = "str"
 | .int _ => T = "int"
 | .ref p => (T = "list" /\ ∃ xs, SqL K H p xs) \/ (T = "tuple" /\ ∃ o, K.lookup p = some o /\ o.cls = .type "tuple" /\ o.dict = none) \/
   (T = "dict" /\ ((∃ kvs, H p = some (.dK kvs)) \/ ∃ kvs, H p = some (.dT kvs))) \/ (T = "set" /\ ∃ S n, H p = some (.set S n))
 | _ => False
theorem C1j {pins : List (Addr × Obj)} {σ : St} {H : Hp} {s : Shared} {T : String} {x : V} {v : Value} (I : Inv X pins σ H s) (r : F7 x v) (ty : tyV X.K T x H) :
  s.TypeIs v T /\ ∀ a, v = .ref a -> ∃ ob, s.heap.get? a = some ob /\ ob.dict = none := by
 cases x with
 | str z =>
  obtain ⟨t, rfl⟩ := r
  cases (show T = "str" from ty)
  exact ⟨typeIs_str s z t, fun _ e => nomatch e⟩
 | int i =>
  obtain ⟨t, rfl⟩ := r
  cases (show T = "int" from ty)
  exact ⟨typeIs_int s i t, fun _ e => nomatch e⟩
 | ref p =>
  cases r
  rcases ty with ⟨rfl, xs, hq⟩ | ⟨rfl, o, hk, hc, hd⟩ | ⟨rfl, hk⟩ | ⟨rfl, S, n, hk⟩
  ·obtain ⟨its, _, pl, _⟩ := I.list hq
   refine ⟨pl.isList.typeIs, fun a e => ?_⟩
   cases e
   obtain ⟨o, n, e, c, hd, _⟩ := pl
   exact ⟨o, e, hd⟩
  ·refine ⟨⟨o, I.kIn p o hk, hc⟩, fun a e => ?_⟩
   cases e
   exact ⟨o, I.kIn _ o hk, hd⟩
  ·have z : ∃ o, s.heap.get? p = some o /\ o.ExactDict := by
    rcases hk with ⟨kvs, hk⟩ | ⟨kvs, hk⟩
    ·obtain ⟨_, _, _, _, o, _, _, e, ex, _⟩ := I.hok p _ hk
     exact ⟨o, e, ex⟩
    ·obtain ⟨_, _, _, _, o, _, _, e, ex, _⟩ := I.hok p _ hk
     exact ⟨o, e, ex⟩
   obtain ⟨o, e, ex⟩ := z
   refine ⟨⟨o, e, ex.1⟩, fun a e2 => ?_⟩
   cases e2
   exact ⟨o, e, ex.2.1⟩
  ·obtain ⟨o, _, _, _, e, ex, _⟩ := I.hok p _ hk
   refine ⟨⟨o, e, ex.1⟩, fun a e2 => ?_⟩
   cases e2
   exact ⟨o, e, ex.2.1⟩
 | _ => exact False.elim ty
def tBM (K : A4) (T : String) (r : V -> List V -> Hp -> VK -> Prop) (to : TE) (t : TA) : TE := fun σ H Q => to σ H fun x H1 => tyV K T x H1 /\ t σ H1 fun xs H2 => r x xs H2 Q
variable {o e : Expr} {es : List Expr} {to : TE} {t : TA} {name : Str} {apos cpos : Pos} {T id : String} {r : V -> List V -> Hp -> VK -> Prop}
theorem j8 (pa : PlainAttrs T) (slot : Slot T name id) (hty : typeOf (.builtin id) = pure (.type "method_descriptor")) (hm : MtR X id r) (ho : PE X o to) (ha : PA X (e :: es) t)
  (hbase : attributeBase o name X.env (eval o X.env) = eval o X.env := by rfl)
  (hfew : ((backTo cpos (starEach (e :: es) X.env)).all (fun x => !x.1) && (backToKw cpos (keywordEach [] X.env)).all (fun x => x.1.isSome)
   && decide ((e :: es).length + ([] : List Keyword).length + (if ([] : List Keyword).isEmpty then 0 else 1) < 30)) = true := by rfl)
  (hline : (apos.endLine == cpos.line) = true := by rfl) (hs : starEach (e :: es) X.env = (false, eval e X.env) :: starEach es X.env := by rfl) (hplain : (backTo cpos (starEach es X.env)).any (·.1) = false := by rfl) :
  PE X (.Call (.Attribute o name apos) (e :: es) [] cpos) (tBM X.K T r to t) := by
 intro pins s σ H Q I h
 refine wpAny_Call_method_late hbase hfew hline rfl (thn (ho pins s σ H _ I h) fun v s1 zz224 => zz224.elim fun x zz225 => zz225.elim fun H1 zz226 => zz226.elim fun I1 zz227 => zz227.elim fun r1 zz228 => zz228.elim fun ty q1 => ?_)
 obtain ⟨h1, h2⟩ := C1j I1 r1 ty
 refine ⟨T, id, pa, slot, hty, h1, h2, ?_⟩
 have hA := ha cpos pins s1 σ H1 _ I1 q1
 rw [hs] at hA ⊢
 refine Calls.callWith_builtin (by show (false || (backTo cpos (starEach es X.env)).any (·.1)) = false; rw [hplain] <;> rfl) (Calls.evalArgs_plain ?_)
 exact thn hA fun us s2 zz229 => el5 zz229 fun vs H2 I2 r2 q2 => hm pins s2 σ H2 x vs v us Q I2 r1 r2 q2
end
end L2
namespace L2
open PySem PySem.Spec PyProof.Rows
def MtM (X : Cx) (id : String) (r : V -> List V -> Hp -> VK -> Prop) : Prop :=
 ∀ (pins : List (Addr × Obj)) (s : Shared) (σ : St) (H : Hp) (x : V) (xs : List V) (v : Value) (us : List Value) (Q : VK), Inv X pins σ H s -> F7 x v -> D5 xs us -> r x xs H Q ->
  wpAny (model X.prog X.w) X.A (call (.builtin id) (v :: us)) (EP X pins σ Q) X.xe s
theorem D5.one {x : V} {us : List Value} (h : D5 [x] us) : ∃ u, us = [u] /\ F7 x u := by
 cases h with
 | cons r t => cases t; exact ⟨_, rfl, r⟩
theorem D5.two {x y : V} {us : List Value} (h : D5 [x, y] us) : ∃ u v, us = [u, v] /\ F7 x u /\ F7 y v := by
 cases h with
 | cons r t =>
  obtain ⟨v, rfl, q⟩ := D5.one t
  exact ⟨_, _, rfl, r, q⟩
theorem D5.rep {xs : List V} {us : List Value} (h : D5 xs us) : ∀ k : Nat, D5 (D8 k xs).flatten (D8 k us).flatten
 | 0 => .nil
 | k + 1 => by
  rw [j3, j3, A4p, A4p]
  exact D5.append h (D5.rep h k)
theorem B49 (its : List Value) : ∀ (k : Nat) (acc : List Value),
  List.foldl (fun x1 x2 => x1 ++ x2) acc.toArray (D8 k its.toArray) = (acc ++ (D8 k its).flatten).toArray
 | 0, acc => by simp
 | k + 1, acc => by
  have e : acc.toArray ++ its.toArray = (acc ++ its).toArray := by simp
  have e2 : (acc ++ its) ++ (D8 k its).flatten = acc ++ (D8 (k + 1) its).flatten := by
   rw [j3, A4p, j4]
  rw [<- e2, <- B49 its k (acc ++ its), <- e, j3, List.foldl_cons]
section
variable {X : Cx} {pins : List (Addr × Obj)} {σ : St} {H : Hp} {s : Shared} {l b : Addr} {xs ys zs : List V}
theorem Inv.lset {its its' : List Value} {n : Nat} {f : Array Value -> Array Value} {t' : Nat} (I : Inv X pins σ H s) (hH : H l = some (.lst xs))
  (e : s.heap.get? l = some { cls := .type "list", data := .seq its.toArray n }) (hf : f its.toArray = its'.toArray) (hv : D5 ys its') (hz : ys.length <= sizeLine) :
  Inv X pins σ (upd H l (.lst ys)) { s with heap := s.heap.update l (A4o f), toks := t' } := by
 have q := PySem.IsL.update e f
 rw [hf] at q
 refine I.write (x := l) (e := l) (by rw [hH]; exact trivial) (.inl rfl) (fun b' u hb hu => (B9j s.heap (A4o f) (Ne.symm hb)).trans hu) ⟨_, q⟩ ?_
 exact ⟨hz, its', _, hv, q⟩
theorem Inv.lnew {its : List Value} {t' : Nat} (I : Inv X pins σ H s) (hv : D5 ys its) (hz : ys.length <= sizeLine) :
  Inv X pins σ (upd H s.heap.objs.size (.lst ys)) { s with heap := s.heap.push { cls := .type "list", data := .seq its.toArray }, toks := t' } :=
 I.laid (fun _ _ q => S1 _ q) (F6 _) ⟨hz, its, 0, hv, W1 _ rfl⟩
theorem Inv.fresh (I : Inv X pins σ H s) : H s.heap.objs.size = none := I.hok.fresh (F6 _)
theorem Inv.lstM (I : Inv X pins σ H s) (hH : H l = some (.lst xs)) : xs.length <= sizeLine /\ ∃ (its : List Value) (n : Nat), D5 xs its /\ xs.length = its.length /\ s.heap.get? l = some { cls := .type "list", data := .seq its.toArray n } := by
 obtain ⟨z, its, n, r, e⟩ := I.hok l _ hH
 exact ⟨z, its, n, r, r.length, e⟩
theorem C1k {n : Nat} (h : n <= sizeLine) : Builtin.List.listTooLong n = false := by
 unfold Builtin.List.listTooLong
 exact decide_eq_false (by lia)
end
section
variable {X : Cx}
def B5a : V -> List V -> Hp -> VK -> Prop := fun x vs H Q => ∃ l xs y, x = .ref l /\ vs = [y] /\ H l = some (.lst xs) /\ xs.length < sizeLine /\ Q .non (upd H l (.lst (xs ++ [y])))
theorem A00 : MtM X "list.append" B5a := by
 intro pins s σ H x vs v us Q I rx rv h
 obtain ⟨l, xs, y, rfl, rfl, hH, hz, q⟩ := h
 cases rx
 obtain ⟨u, rfl, ru⟩ := rv.one
 obtain ⟨z, its, n, r, hl, e⟩ := I.lstM hH
 refine call_meets F.slot_list_append ⟨_, e, rfl⟩ F.entry_list_append (F.args_list_append_2 _ _) (PySem.list_append l its.toArray n u (by rw [O1]; lia)) ⟨e, ?_⟩
 refine ⟨.non, _, I.lset (its' := its ++ [u]) hH e (by simp) (r.append (.cons ru .nil)) ?_, rfl, q⟩
 rw [M7, B3y]
 lia
def C1l : R2 := fun x y H Q => ∃ l b xs zs, x = .ref l /\ y = .ref b /\ H l = some (.lst xs) /\ H b = some (.lst zs) /\ xs.length + zs.length <= sizeLine /\ ∀ p, H p = none -> Q (.ref p) (upd H p (.lst (xs ++ zs)))
theorem C1m : OpR X (binaryOp .Add) C1l := by
 intro pins s σ H x y v u Q I rx ry h
 obtain ⟨l, b, xs, zs, rfl, rfl, hH, hB, hz, q⟩ := h
 cases rx
 cases ry
 obtain ⟨z, its, n, r, hl, e⟩ := I.lstM hH
 obtain ⟨z2, its2, n2, r2, hl2, e2⟩ := I.lstM hB
 refine PySem.P.add_list e e2 ?_ (by rw [O1, O1]; lia)
 have ea : its.toArray ++ its2.toArray = (its ++ its2).toArray := by simp
 rw [ea]
 exact ⟨.ref _, _, I.lnew (t' := s.toks) (r.append r2) (by rw [M7]; lia), rfl, q _ I.fresh⟩
def C1n : R2 := fun x y H Q => ∃ l k xs, x = .ref l /\ y = .int k /\ H l = some (.lst xs) /\ -(2 ^ 63) <= k /\ k < 2 ^ 63 /\ xs.length * k.toNat <= sizeLine /\
 ∀ p, H p = none -> Q (.ref p) (upd H p (.lst (D8 k.toNat xs).flatten))
theorem C1o {α : Type} (xs : List α) (k : Nat) : (D8 k xs).flatten.length = k * xs.length := by
 induction k with
 | zero => simp
 | succ k ih => rw [j3, A4p, M7, ih, Nat.succ_mul, Nat.add_comm]
theorem C1p : OpR X (binaryOp .Mult) C1n := by
 intro pins s σ H x y v u Q I rx ry h
 obtain ⟨l, k, xs, rfl, rfl, hH, h1, h2, hz, q⟩ := h
 cases rx
 obtain ⟨t, rfl⟩ := ry
 obtain ⟨z, its, n, r, hl, e⟩ := I.lstM hH
 have hlen : its.toArray.size * k.toNat <= sizeLine := by rw [O1, <- hl]; exact hz
 have hcap : ¬ its.toArray.size * k.toNat > (2 ^ 63 - 1) / 8 := by
  have : (sizeLine : Nat) <= (2 ^ 63 - 1) / 8 := by decide
  lia
 have hfit : ¬ (!Builtin.List.listFitsIndex k) = true := by
  rw [fitsIndex_both h1 h2]
  exact S0
 have hlong : ¬ Builtin.List.listTooLong (its.toArray.size * k.toNat) = true := by
  rw [C1k hlen]
  exact S0
 have hnew : List.foldl (fun x1 x2 => x1 ++ x2) #[] (D8 (if its.toArray.isEmpty = true then 0 else k.toNat) its.toArray) = (D8 k.toNat its).flatten.toArray := by
  have f0 : ∀ m : Nat, List.foldl (fun x1 x2 => x1 ++ x2) #[] (D8 m its.toArray) = (D8 m its).flatten.toArray := fun m => by
   have := B49 its m []
   rw [M0] at this
   exact this
  rw [f0]
  cases its with
  | nil => simp
  | cons a r' => rw [if_neg (by simp)]
 refine wpAny_binaryOp_repeat_ref (T := "list") (U := "int") (by decide) ⟨_, e, rfl⟩ (fun s' => typeIs_int s' k t) noFill_list_mul F.fills_int_mul F.slot_int_rmul repeat_list F.slot_int_index.lookup
  (call_meets F.slot_int_rmul (typeIs_int s k t) F.entry_int_rmul (F.args_int_rmul_2 _ _) (int___rmul___int_list k t l its.toArray n)
   ⟨e, rfl, ⟨_, e, rfl⟩, call_meets F.slot_list_mul ⟨_, e, rfl⟩ F.entry_list_mul (F.args_list_mul_2 _ _) (AutoListH.list___mul___list_int_3 l its.toArray n k t hfit hcap hlong) ⟨e, ?_⟩⟩)
 rw [hnew]
 exact ⟨.ref _, _, I.lnew (t' := s.toks) (r.rep k.toNat) (by rw [C1o, Nat.mul_comm]; exact hz), rfl, q _ I.fresh⟩
end
section
variable {prog : Program} {w : World} {A : Around} {E : Value -> Shared -> Prop} {s : Shared}
set_option maxRecDepth 100000 in
end
section
variable {X : Cx}
end
end L2
namespace Att
open PySem PySem.W PySem.Calls PyProof.Rows
theorem C1q {P : Params} {h : Heap} : ∀ (ns : List Int) (vs : List Value), WellAll P h vs (ns.map WData.int) -> IntsAre vs ns := by
 intro ns
 induction ns with
 | nil =>
  intro vs w
  rw [List.map_nil] at w
  cases w
  exact .nil
 | cons n ns ih =>
  intro vs w
  rw [o8] at w
  cases w with
  | cons a b =>
   cases a
   exact .cons _ _ (ih _ b)
theorem C1r {l : OpenLaw} {n : Nat} (hn : l.most = some n) {P : Params} {h : Heap} {args : List WData} {vals : List Value}
  (hpre : l.row.toRowW.claim.pre args = true) (hwl : WellAll P h vals args) :
  ∃ a vs ns, vals = [Value.ref a] /\ args = [WData.list (ns.map WData.int)] /\ h.get? a = some { cls := .type "list", data := .seq vs.toArray } /\ IntsAre vs ns /\ ns.length <= n := by
 have hsh : WShape.hasAll [] args [.list .int] = true := (pre_splitW hpre).1
 have hc : l.pre.holds [] { args := args } = true := (pre_splitW hpre).2
 obtain ⟨d, r, rfl, h1, h2⟩ := hasAllW_cons hsh
 obtain rfl := hasAllW_nil h2
 obtain ⟨xs, rfl, h3⟩ := hasW_list h1
 obtain ⟨ns, rfl⟩ := items_int h3
 have hlen : ns.length <= n := by
  unfold OpenLaw.pre at hc
  have h4 : (WTm.not (.lt (.lit (.int (n : Int))) (.len (.arg 0)))).holds [] { args := [.list (ns.map .int)] } = true := by
   have h4 := (holds_andW hc).1
   rw [hn] at h4
   exact h4
  have h5 := condW_of h4 (w_not (w_lt w_lit (w_len_list (w_arg rfl))))
  rw [E4] at h5
  refine Nat.le_of_not_lt fun q => ?_
  have q' : (n : Int) < ((ns.length : Nat) : Int) := by lia
  first
   | (rw [decide_eq_true q'] at h5; exact absurd h5 (by decide))
   | (simp at h5; lia)
 cases hwl with
 | cons w1 w2 =>
  cases w2
  cases w1 with
  | list ho hall => exact ⟨_, _, ns, rfl, rfl, ho, C1q ns _ hall, hlen⟩
theorem C1s (l : OpenLaw) (args : List WData) : l.row.toRowW.claim.post args (.bool true) args = true :=
 postW_of (r := l.row.toRowW) (X := (true == true))
  (show WShape.has [] (.bool true) .bool = true by first | rfl | decide | simp [WShape.has, WShape.arms, WShape.armsAll])
  (show (WTm.eq .res (.lit (.bool true))).value [] { args := args, res := some (.bool true), after := args } = some (.bool (true == true)) from w_eq_bool (w_res rfl) w_lit) rfl
theorem attach_call {l : OpenLaw} {n : Nat} {q : Program} {loose : List Str} {XP : (Str -> Option Value) -> Heap -> Prop} {YP : World -> Heap -> Prop} {d : DefRec}
  (hn : l.most = some n) (hdf : d.params.defaults = [])
  (call : ∀ (w : World) (s₀ s₁ : Shared) (mg mb : Str -> Option Value) (fa : Addr) (o : Obj) (pm cd doc : Value) (a : Addr) (vs : List Value) (ns : List Int),
   Ground q loose [] XP w s₀ mg mb s₁.heap -> YP w s₁.heap ->
   s₁.heap.get? fa = some o -> o.data = .func (docDef d.name d.params d.body d.scope pm cd doc) -> s₁.heap.CodeRec cd d.name -> mg d.name = some (.ref fa) ->
   s₁.heap.get? a = some { cls := .type "list", data := .seq vs.toArray } -> IntsAre vs ns -> ns.length <= n -> s₁.gens = #[] ->
   codeAny (model l.prog w) callerA (.call (.ref fa) ⟨[.ref a], []⟩) (fun r s' => r = .ok (.ret (.bool true)) /\ OldK s₁.heap s'.heap /\ s'.os = s₁.os /\ AllBare s'.gens) s₁) :
  WalkO q loose XP YP l.row.toRowW d [] (fun f vs => PySem.call f vs) := by
 intro w s₀ s₁ mg mb G Y fa o pm cd doc dV kV ho hd hcd hD hmg hg args vals as hpre hlay hrd hwl hlo
 obtain rfl : dV = .none := Dflts.none hD hdf
 obtain rfl : kV = .none := Dflts.noKw hD
 obtain ⟨a, vs, ns, rfl, rfl, hobj, hints, hlen⟩ := C1r hn hpre hwl
 refine enter_call (codeAny_mono (call w s₀ s₁ mg mb fa o pm cd doc a vs ns G Y ho (fd_plain hd) hcd hmg hobj hints hlen hg) fun r s' hq => ?_)
 obtain ⟨rfl, h2, h3, h4⟩ := hq
 exact ⟨.inl ⟨.bool true, .bool true, [], rfl, fun _ => rfl, .bool true, C1s l _, fun _ => ⟨List.Pairwise.nil, fun _ hm => (nomatch hm)⟩⟩, h2, h3, h4⟩
section
variable {prog : Program} {w : World} {A : Around} {E : Value -> Shared -> Prop} {s : Shared} {K : Frag}
def D0u (h : Heap) (L d : Addr) : List (Addr × Obj) := (P6 h.objs.size).filterMap fun a => if a = L \/ a = d then none else (h.get? a).map fun o => (a, o)
end
end Att
namespace L2
open PySem PySem.Spec PyProof.Rows
theorem B5b : ∀ {vs : List Value} {ns : List Int}, IntsAre vs ns -> D5 (ns.map V.int) vs
 | _, _, .nil => .nil
 | _, _, .cons n t h => .cons ⟨t, rfl⟩ (B5b h)
def B1u (H : Hp) : Prop := ∀ b, H b = none \/ ∃ o xs, H b = some (.frz o (.lst xs))
theorem C1t {P : Program} {w : World} {K : A4} {mg mb : Str -> Option Value} {CX : CXT} {k : Nat} {fa a : Addr} {fd : FuncData} {x : Str} {sp : Sp} {s₁ : Shared} {vs : List Value} {ns : List Int}
  (KX : K.In s₁.heap) (hns : s₁.heap.Ns mainGlobals mg) (hb : s₁.heap.Ns builtinsNs mb) (hbb : ∀ x : Str, x ≠ "__name__" -> mb x = bootBuiltins x) (hlim : s₁.heap.NoLimit) (hg : s₁.gens = #[])
  (ha : s₁.heap.get? a = some { cls := .type "list", data := .seq vs.toArray }) (hi : IntsAre vs ns) (hl : ns.length <= sizeLine) (hr : S4 k callerA)
  (F : ∀ base : Heap, K.In base -> base.Ns mainGlobals mg -> D3 P w K mg base CX k fa fd [x] sp) (hbind : ∀ (s : Shared) (u : Value), BindsTo s fd ⟨[u], []⟩ [(x, u)])
  (hsp : ∀ H : Hp, B1u H -> SqL K H a (ns.map V.int) -> sp [.ref a] H (fun v _ => v = .bl true) fun _ _ _ => False)
  (hCX : ∀ H e s', CX [] H s₁ (fun _ _ _ => False) e s' -> False) :
  codeAny (model P w) callerA (.call (.ref fa) ⟨[.ref a], []⟩) (fun r s' => r = .ok (.ret (.bool true)) /\ OldK s₁.heap s'.heap /\ s'.os = s₁.os /\ AllBare s'.gens) s₁ := by
 have rv := B5b hi
 have lenV := hi.length
 have core : ∀ H : Hp, B1u H -> SqL K H a (ns.map V.int) -> HOk P w H s₁.heap -> (∀ b, H b ≠ none -> b = a) -> (H a ≠ none -> K.lookup a = none) ->
   codeAny (model P w) callerA (.call (.ref fa) ⟨[.ref a], []⟩) (fun r s' => r = .ok (.ret (.bool true)) /\ OldK s₁.heap s'.heap /\ s'.os = s₁.os /\ AllBare s'.gens) s₁ := by
  intro H hO hS hok hA hK
  have base_of : ∀ {b : Addr} {o : Obj}, s₁.heap.get? b = some o -> H b = none -> (p8 s₁.heap H).get? b = some o := fun e n => B9x e n
  have noA : ∀ {b : Addr} {o : Obj} {es : Array DictEntry} {ep : Nat}, s₁.heap.get? b = some o -> o.data = .dict es ep -> H b = none := fun {b o es ep} e d => by
   cases q : H b with
   | none => rfl
   | some u =>
    have e' : b = a := hA b (by rw [q]; simp)
    subst e'
    rw [ha] at e; cases e
    have d' : Data.seq vs.toArray _ = Data.dict es ep := d
    cases d'
  have nsK : ∀ {b : Addr} {m : Str -> Option Value}, s₁.heap.Ns b m -> (p8 s₁.heap H).Ns b m := fun {b m} ⟨o, es, ep, e, d, r⟩ => ⟨o, es, ep, base_of e (noA e d), d, r⟩
  have hKb : K.In (p8 s₁.heap H) := fun b o e => base_of (KX b o e) (by
   cases q : H b with
   | none => rfl
   | some u =>
    have e' : b = a := hA b (by rw [q]; simp)
    subst e'
    rw [hK (by rw [q]; simp)] at e; cases e)
  have hM : Mod K mg (p8 s₁.heap H) := ⟨hKb, nsK hns, ⟨mb, nsK hb, hbb⟩, let ⟨mc, h1, h2⟩ := hlim; ⟨mc, nsK h1, h2⟩⟩
  have e0 : A9o P w K mg (p8 s₁.heap H) callerA [] s₁ H := ⟨rfl, hM, fun b o e => B9y e, Nat.le_of_eq (B9w _ _), trivial, fun b hb => absurd (show b ∈ ([] : List Addr) from hb) (by simp), hok, .of_eq hg⟩
  refine codeAny_mono ((F _ hKb (nsK hns)).run callerA [] s₁ H ⟨[.ref a], []⟩ [.ref a] [.ref a] _ _ hr e0 (hbind s₁ (.ref a)) (.cons rfl .nil) (hsp H hO hS)) fun r s' h => ?_
  cases r with
  | error e => exact (hCX H e s' h).elim
  | ok fl =>
   cases fl with
   | next => exact False.elim h
   | brk => exact False.elim h
   | cont => exact False.elim h
   | ret u =>
    obtain ⟨v, H', os, bare, un, hok', r', q⟩ := h
    have q' : v = .bl true := q
    subst q'
    obtain rfl : u = Value.bool true := r'
    refine ⟨rfl, OldK.of_keep fun b o e => ?_, os, bare⟩
    cases q : H b with
    | none => exact un.keep b o e q (by intro z; exact absurd (show b ∈ ([] : List Addr) from z) (by simp)) (by simp)
    | some u =>
     rcases hO b with z | ⟨ob, xs, z⟩
     ·rw [q] at z; cases z
     ·have z2 := un.frzs b ob _ z
      obtain ⟨e1, _⟩ := hok b _ z
      obtain ⟨e2, _⟩ := hok' b _ z2
      rw [e] at e1; cases e1
      exact e2
 cases hk : K.lookup a with
 | some o =>
  have e := KX a o hk
  rw [ha] at e
  cases e
  refine core (fun _ => none) (fun _ => .inl rfl) (.inr ⟨_, vs.toArray, _, hk, rfl, rfl, rfl, by rw [O1, lenV]; exact hl, by simpa using rv⟩) (fun b u z => by have z' : (none : Option HO) = some u := z; cases z') (fun b z => absurd rfl z) fun z => absurd rfl z
 | none =>
  refine core (fun b => if b = a then some (.frz { cls := .type "list", data := .seq vs.toArray } (.lst (ns.map V.int))) else none) (fun b => ?_) (.inl (.inr ⟨{ cls := .type "list", data := .seq vs.toArray }, if_pos rfl⟩)) (fun b u z => ?_) (fun b z => ?_) fun _ => hk
  ·by_cases hb : b = a
   ·exact .inr ⟨_, _, if_pos hb⟩
   ·exact .inl (if_neg hb)
  ·by_cases hb : b = a
   ·have z' := (if_pos hb).symm.trans z
    cases z'
    subst hb
    exact ⟨ha, by rw [E4]; exact hl, vs, _, rv, ha⟩
   ·have z' := (if_neg hb).symm.trans z
    cases z'
  ·by_cases hb : b = a
   ·exact hb
   ·exact absurd (if_neg hb) z
end L2
namespace L2
open PySem PySem.Spec PyProof.Rows
theorem walk_of {l : PySem.W.OpenLaw} {n k : Nat} {q : Program} {loose : List Str} {XP : (Str -> Option Value) -> Heap -> Prop} {YP : World -> Heap -> Prop} {d : DefRec} {K : Params -> A4} {CX : World -> CXT} {sp : World -> Sp} {x : Str}
  (hn : l.most = some n) (hn2 : n <= sizeLine) (hdf : d.params.defaults = []) (hr : S4 k callerA)
  (hY : ∀ (w : World) (h : Heap), YP w h -> (K w.params).In h)
  (F : ∀ (w : World) (mg : Str -> Option Value) (fa : Addr) (h : Heap), (K w.params).In h -> h.Ns mainGlobals mg -> mg d.name = some (.ref fa) ->
   ∃ fd : FuncData, (∀ (s : Shared) (u : Value), BindsTo s fd ⟨[u], []⟩ [(x, u)]) /\
    ∀ base : Heap, (K w.params).In base -> base.Ns mainGlobals mg -> D3 l.prog w (K w.params) mg base (CX w) k fa fd [x] (sp w))
  (hsp : ∀ (w : World) (H : Hp) (a : Addr) (ns : List Int), ns.length <= n -> B1u H -> SqL (K w.params) H a (ns.map V.int) -> sp w [.ref a] H (fun v _ => v = .bl true) fun _ _ _ => False)
  (hCX : ∀ (w : World) (H : Hp) (s : Shared) (e : Value) (s' : Shared), CX w [] H s (fun _ _ _ => False) e s' -> False) :
  PySem.W.WalkO q loose XP YP l.row.toRowW d [] (fun f vs => PySem.call f vs) := by
 refine Att.attach_call hn hdf fun w s₀ s₁ mg mb fa o pm cd doc a vs ns G Y ho hd hcd hmg hobj hints hlen hg => ?_
 have KX := hY w _ Y
 obtain ⟨fd, hb, hF⟩ := F w mg fa _ KX G.T.g hmg
 exact C1t KX G.T.g G.T.b G.T.builtins G.T.nolimit hg hobj hints (Y9 hlen hn2) hr hF hb (fun H hO hS => hsp w H a ns hlen hO hS) fun H e s' => hCX w H s₁ e s'
end L2
namespace L2
open PySem PySem.Spec PyProof.Rows
def E8 (s : Stmt) : Arguments := match s with
 | .FunctionDef _ a _ _ _ _ _ _ _ _ => a
 | _ => { posonlyargs := [], args := [], vararg := none, kwonlyargs := [], kw_defaults := [], kwarg := none, defaults := [] }
def E2 (s : Stmt) : List Stmt := match s with
 | .FunctionDef _ _ b _ _ _ _ _ _ _ => b
 | _ => []
def A7 (s : Stmt) : Scope := match s with
 | .FunctionDef _ _ _ _ _ _ sc _ _ _ => sc
 | _ => { kind := .function, names := [], isGenerator := false, isCoroutine := false }
abbrev CX0 : CXT := fun _ _ _ _ _ _ => False
abbrev E0 : XK := fun _ _ _ => False
theorem B7 {X : Cx} : B1p CX0 X E0 := fun _ _ _ _ _ _ _ h => h.elim
structure Fun (K : A4) (x qual : Str) (st : Stmt) (f : Addr) (fd : FuncData) : Prop where
 ex : ∃ (oc : Value) (od : Option Addr) (kV doc pm : Value) (an : Option Addr) (cdv ct : Value) (osl : Array (Option Value)),
  fd = E5 x qual (E8 st) (E2 st) (A7 st) .none kV doc pm an cdv ct /\ K.lookup f = some ⟨oc, od, .func fd, osl⟩ /\ F4 K cdv qual = true
 kp : B5 K (.ref f) = true
section
variable {P : Program} {w : World} {K : A4} {mg : Str -> Option Value} {base : Heap}
theorem Fun.ok {x qual : Str} {st : Stmt} {f : Addr} {fd : FuncData} {N ps : List Str} {k : Nat} {sp : Sp} (F : Fun K x qual st f fd) (S : F0 N ps (A7 st)) (len : ∀ vs H Q E, sp vs H Q E -> vs.length = ps.length)
  (hbody : ∀ (cdv : Value) (A : Around) (outer : List Env) (s : Shared) (H : Hp) (vs : List V) (Q : VK) (E : XK), S4 k (A.deeper (envOfC qual (A7 st) s.heap.objs.size f cdv)) -> sp vs H Q E ->
   ∃ t, PSs (A14 CX0 P w K mg base N qual (A7 st) f cdv A outer s H E).nox (E2 st) t /\ t { nx := fun _ H' => Q .non H', rt := Q } (start N vs) H) : D3 P w K mg base CX0 (k + 1) f fd ps sp := by
 obtain ⟨oc, od, kV, doc, pm, an, cdv, ct, osl, rfl, lk, hcd⟩ := F.ex
 refine C06 lk hcd S len fun A outer s H vs Q E hr hsp => ?_
 obtain ⟨t, h, q⟩ := hbody cdv A outer s H vs Q E hr hsp
 exact ⟨t, h.nox, q⟩
theorem Fun.binds {x qual : Str} {st : Stmt} {f : Addr} {fd : FuncData} {ps : List Str} (F : Fun K x qual st f fd)
  (h : ∀ (kV doc pm : Value) (an : Option Addr) (cdv ct : Value) (us : List Value), us.length = ps.length -> bindArgs (E5 x qual (E8 st) (E2 st) (A7 st) .none kV doc pm an cdv ct) ⟨us, []⟩ = pure (ps.zip us)) : E7 K fd ps [] := by
 obtain ⟨oc, od, kV, doc, pm, an, cdv, ct, osl, rfl, lk, hcd⟩ := F.ex
 exact .all (h kV doc pm an cdv ct)
theorem F5 {x qual : Str} {st : Stmt} {f : Addr} {oc : Value} {od an : Option Addr} {osl : Array (Option Value)} {kV doc pm cdv ct : Value} (l : K.lookup f = some ⟨oc, od, .func (E5 x qual (E8 st) (E2 st) (A7 st) .none kV doc pm an cdv ct), osl⟩)
  (c : F4 K cdv qual = true) (k : B5 K (.ref f) = true) : Fun K x qual st f (E5 x qual (E8 st) (E2 st) (A7 st) .none kV doc pm an cdv ct) := ⟨⟨oc, od, kV, doc, pm, an, cdv, ct, osl, rfl, l, c⟩, k⟩
end
theorem A16 {n : Nat} (h : n <= 1000) : n < sizeLine := Nat.lt_of_le_of_lt h (by decide)
section
variable {X : Cx}
theorem pv (i : Nat) {x : Str} {pos : Pos} (hN : X.N[i]? = some x := by rfl) (hv : Vis X.env.scope x := by first | exact B3 rfl | exact Or.inr (B3 rfl) | exact Or.inr (Or.inr rfl)) (hd : (x == ("__debug__" : Str)) = false := by decide)
  (hcd : (x == ("__classdict__" : Str)) = false := by decide) : PE X (.Name x pos) (N5 i) := B90 hN hv hd hcd
end
theorem L4 {A B : Prop} (h : B) : if false = true then A else B := by
 rw [if_neg S0]
 exact h
theorem M2 {A B : Prop} (h : A) : if true = true then A else B := by
 rw [if_pos rfl]
 exact h
theorem A42 {c A B : Prop} [Decidable c] (h1 : c -> A) (h2 : ¬ c -> B) : if c then A else B := by
 by_cases h : c
 ·rw [if_pos h]
  exact h1 h
 ·rw [if_neg h]
  exact h2 h
def Same (H H' : Hp) : Prop := ∀ b o, H b = some o -> H' b = some o
theorem Same.refl (H : Hp) : Same H H := fun _ _ h => h
end L2
set_option maxHeartbeats 4000000
namespace L2
open PySem PySem.Spec PyProof.Rows
def Q7 (cells : List (Str × Addr)) : List (Str × NameKind) -> List (Str × Addr) -> List (Str × Addr)
 | [], cs => cs
 | (n, k) :: r, cs => Q7 cells r (if k == .free then (n, (cells.lookup n).getD 0) :: cs else cs)
theorem B1v {scope : Scope} {env : Env} (h : ∀ y ∈ scope.names, y.2 = .free -> ∃ c, env.cells.lookup y.1 = some c) : closureFor scope env = pure (Q7 env.cells scope.names []) := by
 have key : ∀ (l : List (Str × NameKind)) (cs : List (Str × Addr)), (∀ y ∈ l, y.2 = .free -> ∃ c, env.cells.lookup y.1 = some c) ->
   (forIn l cs fun (x : Str × NameKind) (r : List (Str × Addr)) => if (x.2 == NameKind.free) = true then do let a <- cellOf env x.1; pure (ForInStep.yield ((x.1, a) :: r)) else pure (ForInStep.yield r) : Sem (List (Str × Addr))) = pure (Q7 env.cells l cs) := by
  intro l
  induction l with
  | nil => intro cs _; rfl
  | cons y r ih =>
   intro cs hl
   obtain ⟨n, k⟩ := y
   rw [List.forIn_cons]
   by_cases hk : k = .free
   ·subst hk
    obtain ⟨c, hc⟩ := hl (n, .free) B4 rfl
    have hc' : env.cells.lookup n = some c := hc
    have e1 : cellOf env n = pure c := by unfold cellOf; rw [hc']
    simp only [beq_self_eq_true, if_true, e1, pure_bind]
    rw [ih _ fun z hz => hl z (A9 _ hz)]
    show _ = pure (Q7 env.cells r (if (NameKind.free == NameKind.free) = true then (n, (env.cells.lookup n).getD 0) :: cs else cs))
    rw [hc']
    rfl
   ·have hb : (k == NameKind.free) = false := by simpa using hk
    simp only [hb, B3z, if_false, pure_bind]
    rw [ih _ fun z hz => hl z (A9 _ hz)]
    show _ = pure (Q7 env.cells r (if (k == NameKind.free) = true then (n, (env.cells.lookup n).getD 0) :: cs else cs))
    rw [hb]
    rfl
 have k2 := key scope.names [] h
 have e : closureFor scope env = ((forIn scope.names [] fun (x : Str × NameKind) (r : List (Str × Addr)) => if (x.2 == NameKind.free) = true then do let a <- cellOf env x.1; pure (ForInStep.yield ((x.1, a) :: r)) else pure (ForInStep.yield r) : Sem (List (Str × Addr))) >>= fun cs => pure cs) := rfl
 rw [e, k2]
 rfl
theorem B1w {cells : List (Str × Addr)} : ∀ {l : List (Str × NameKind)} {cs : List (Str × Addr)}, (∀ y ∈ l, y.2 = .free -> ∃ c, cells.lookup y.1 = some c) -> (∀ x c, cs.lookup x = some c -> cells.lookup x = some c) ->
  ∀ x c, (Q7 cells l cs).lookup x = some c -> cells.lookup x = some c
 | [], _, _, h, x, c, e => h x c e
 | (n, k) :: r, cs, hl, h, x, c, e => by
  unfold Q7 at e
  refine B1w (l := r) (fun z hz => hl z (A9 _ hz)) (fun y d q => ?_) x c e
  split at q
  ·rename_i hk
   obtain ⟨c0, hc0⟩ := hl (n, k) B4 (by simpa using hk)
   have hc0' : cells.lookup n = some c0 := hc0
   rw [hc0'] at q
   rw [A76] at q
   split at q
   ·rename_i hb
    have := eq_of_beq hb
    subst this
    rw [hc0']
    exact q
   ·exact h y d q
  ·exact h y d q
theorem B5c {cells : List (Str × Addr)} {x : Str} : ∀ {l : List (Str × NameKind)} {cs : List (Str × Addr)}, (∃ c, cs.lookup x = some c) -> ∃ c, (Q7 cells l cs).lookup x = some c
 | [], _, h => h
 | (n, k) :: r, cs, h => by
  unfold Q7
  refine B5c (l := r) ?_
  split
  ·rw [A76]
   split
   ·exact ⟨_, rfl⟩
   ·exact h
  ·exact h
theorem A8i {cells : List (Str × Addr)} {x : Str} : ∀ {l : List (Str × NameKind)} {cs : List (Str × Addr)}, (x, NameKind.free) ∈ l -> ∃ c, (Q7 cells l cs).lookup x = some c
 | (n, k) :: r, cs, h => by
  unfold Q7
  rcases K1.mp h with e | h
  ·injection e with e1 e2
   subst e1 e2
   refine B5c (l := r) ?_
   simp only [beq_self_eq_true, if_true]
   rw [A76]
   simp
  ·exact A8i (l := r) h
structure CA where
 s : Shared
 H : Hp
 C : Addr
 fp : List Addr
abbrev K9 (X : Cx) (scope : Scope) (N' : List Str) (a : CA) : Cx where
 prog := X.prog
 w := X.w
 K := X.K
 mg := X.mg
 base := X.base
 A := X.A
 N := N'
 s₀ := a.s
 H₀ := a.H
 env := compEnvC scope (Q7 X.env.cells scope.names []) a.C X.env
 outer := X.stack
 stack := X.stack
 ex := a.fp
 fn := fun _ => false
 calm := X.calm
 pn := []
 xe := fun _ _ => False
structure M3 (N N' : List Str) (osc scope : Scope) (j : Nat) (x : Str) : Prop where
 nd : N'.Nodup
 at_ : N'[j]? = some x
 sub : ∀ (i : Nat) y, i ≠ j -> N'[i]? = some y -> N[i]? = some y
 len : N'.length <= N.length + 1
 kind : scope.kind = .function
 cell : ∀ y ∈ scope.names, y.2 ≠ .cell
 names : ∀ y ∈ scope.names, y.2 = .local -> scope.names.lookup y.1 = some .local
 only : ∀ y ∈ scope.names, y.2 = .local -> y.1 = x \/ y.1 ∉ N'
 loc : scope.names.lookup x = some .local
 okind : osc.kind = .function
 free : ∀ y ∈ scope.names, y.2 = .free -> osc.names.lookup y.1 = some .cell
def B5d (N : List Str) (osc scope : Scope) (x : Str) : Bool :=
 decide (N ++ [x]).Nodup && decide (scope.kind = .function) && decide (osc.kind = .function) && (scope.names.lookup x == some .local) &&
  scope.names.all fun y => match y.2 with
   | .cell => false
   | .local => scope.names.lookup y.1 == some .local && (y.1 == x || !((N ++ [x]).contains y.1))
   | .free => osc.names.lookup y.1 == some .cell
   | _ => true
theorem M3.new {N : List Str} {osc scope : Scope} {x : Str} (h : B5d N osc scope x = true) : M3 N (N ++ [x]) osc scope N.length x := by
 unfold B5d at h
 simp only [P7, decide_eq_true_eq, o9, beq_iff_eq] at h
 obtain ⟨⟨⟨⟨h1, h2⟩, h3⟩, h4⟩, h5⟩ := h
 refine ⟨h1, by simp, fun i y ne e => ?_, by simp, h2, fun y hy e => ?_, fun y hy e => ?_, fun y hy e => ?_, h4, h3, fun y hy e => ?_⟩
 ·by_cases hi : i < N.length
  ·rw [d6 hi] at e; exact e
  ·rw [Z0 (by lia)] at e
   cases q : i - N.length with
   | zero => exact absurd (by lia) ne
   | succ k => rw [q] at e; simp at e
 ·have := h5 y hy; rw [e] at this; cases this
 ·have := h5 y hy
  rw [e] at this
  simp only [P7, beq_iff_eq] at this
  exact this.1
 ·have := h5 y hy
  rw [e] at this
  simp only [P7, Bool.or_eq_true, beq_iff_eq, B02, B9k, decide_eq_false_iff_not] at this
  exact this.2
 ·have := h5 y hy
  rw [e] at this
  simp only [beq_iff_eq] at this
  exact this
def U7 (n j : Nat) (σ : St) : St := ((σ ++ [none]).take n).set j none
theorem B5e {n j i : Nat} {σ : St} {v : V} (h : (U7 n j σ)[i]? = some (some v)) : i ≠ j /\ σ[i]? = some (some v) := by
 unfold U7 at h
 by_cases e : i = j
 ·subst e
  rw [Z2] at h
  simp only [if_true] at h
  split at h <;> cases h
 ·refine ⟨e, ?_⟩
  rw [S7 (Ne.symm e)] at h
  have h2 : (σ ++ [none])[i]? = some (some v) := by
   by_cases hi : i < n
   ·rw [List.getElem?_take_of_lt hi] at h; exact h
   ·rw [U5 (by rw [A10]; lia)] at h; cases h
  by_cases hi : i < σ.length
  ·rw [d6 hi] at h2; exact h2
  ·rw [Z0 (by lia)] at h2
   cases q : i - σ.length with
   | zero => rw [q] at h2; cases h2
   | succ k => rw [q] at h2; cases h2
theorem C1u {n j : Nat} {σ : St} (h : n <= σ.length + 1) : (U7 n j σ).length = n := by
 unfold U7
 rw [L9, A10, M7]
 simp; lia
theorem A01 {env : Env} : ∀ {names : List (Str × NameKind)} {x : Str}, ((names.map fun (n, k) => if (k == NameKind.free && env.scope.kind == .function && env.kindOf n == some .cell) then (n, NameKind.cell) else (n, k)).lookup x = some .cell \/
  (names.map fun (n, k) => if (k == NameKind.free && env.scope.kind == .function && env.kindOf n == some .cell) then (n, NameKind.cell) else (n, k)).lookup x = some .free) -> (∀ y ∈ names, y.2 ≠ .cell) -> (x, NameKind.free) ∈ names
 | [], _, h, _ => by rcases h with h | h <;> cases h
 | (n, k) :: r, x, h, hc => by
  rw [o8] at h
  dsimp only at h
  by_cases hk : (k == NameKind.free && env.scope.kind == .function && env.kindOf n == some .cell) = true
  ·rw [if_pos hk] at h
   simp only [A76] at h
   cases hx : x == n with
   | true =>
    have e := eq_of_beq hx
    subst e
    have k' : k = .free := by
     rw [P7, P7] at hk
     simpa using hk.1.1
    subst k'
    exact B4
   | false =>
    simp only [hx] at h
    exact A9 _ (A01 h fun y hy => hc y (A9 _ hy))
  ·rw [if_neg hk] at h
   simp only [A76] at h
   cases hx : x == n with
   | true =>
    have e := eq_of_beq hx
    subst e
    simp only [hx] at h
    rcases h with h | h
    ·exact absurd (Option.some.inj h) (hc (x, k) B4)
    ·have := Option.some.inj h
     subst this
     exact B4
   | false =>
    simp only [hx] at h
    exact A9 _ (A01 h fun y hy => hc y (A9 _ hy))
theorem A43 {env : Env} : ∀ {names : List (Str × NameKind)} {x : Str}, (names.map fun (n, k) => if (k == NameKind.free && env.scope.kind == .function && env.kindOf n == some .cell) then (n, NameKind.cell) else (n, k)).lookup x = some .local -> (x, NameKind.local) ∈ names
 | [], _, h => by cases h
 | (n, k) :: r, x, h => by
  rw [o8] at h
  dsimp only at h
  by_cases hk : (k == NameKind.free && env.scope.kind == .function && env.kindOf n == some .cell) = true
  ·rw [if_pos hk] at h
   simp only [A76] at h
   cases hx : x == n with
   | true => simp only [hx] at h; cases h
   | false =>
    simp only [hx] at h
    exact A9 _ (A43 h)
  ·rw [if_neg hk] at h
   simp only [A76] at h
   cases hx : x == n with
   | true =>
    have e := eq_of_beq hx
    subst e
    simp only [hx] at h
    have := Option.some.inj h
    subst this
    exact B4
   | false =>
    simp only [hx] at h
    exact A9 _ (A43 h)
section
variable {X : Cx} {pins : List (Addr × Obj)} {σ : St} {H : Hp} {s : Shared}
structure Own (X : Cx) (pins : List (Addr × Obj)) (H : Hp) (C : Addr) : Prop where
 no : H C = none
 ne : C ≠ X.env.locals
 ab : X.s₀.heap.objs.size <= C
 ce : ∀ x c, X.env.cells.lookup x = some c -> c ≠ C
 pi : ∀ p ∈ X.pn ++ pins, p.1 ≠ C
theorem Inv.own {C : Addr} {H' : Hp} (I : Inv X pins σ H s) (h : s.heap.objs.size <= C) (hn : H' C = none) : Own X pins H' C := by
 refine ⟨hn, B0y (Q5 I.lt h), Y9 I.sz h, fun x c e z => ?_, fun p hp z => ?_⟩
 ·obtain ⟨v, q⟩ := I.cell x c e
  exact absurd (Q5 q.lt (by rw [z]; exact h)) (V3 _)
 ·exact absurd (Q5 (G8 (I.pin p hp).1) (by rw [z]; exact h)) (V3 _)
theorem Inv.own_turn {C : Addr} {h' : Heap} (I : Inv X pins σ H s) (o : Own X pins H C) (hs : Heap.SameBut C s.heap h') : Inv X pins σ H { s with heap := h' } :=
 I.turned (t' := s.toks) (fun b ob hb e => (hs.2 b hb).trans e) o.no o.ne (.inr o.ab) o.ce o.pi
theorem Inv.track {D : Addr} {ys : List V} {its : List Value} {n : Nat} (I : Inv X pins σ H s) (o : Own X pins H D) (e : s.heap.get? D = some { cls := .type "list", data := .seq its.toArray n }) (r : D5 ys its) (hz : ys.length <= sizeLine) :
  Inv X pins σ (upd H D (.lst ys)) s := by
 have nD : ∀ b u, H b = some u -> b ≠ D := fun b u q z => by rw [z, o.no] at q; cases q
 have hok : HOk X.prog X.w (upd H D (.lst ys)) s.heap := fun b u q => by
  by_cases hb : b = D
  ·subst hb
   rw [K2] at q
   cases q
   exact ⟨hz, its, n, r, e⟩
  ·rw [C4 hb] at q
   exact (I.hok b u q).stay (fun _ _ _ z => z) (fun c z => by rw [C4 (nD c _ z)]; exact z) fun c xs z => by rw [C4 (nD c _ z)]; exact z
 have := I.step (H' := upd H D (.lst ys)) (h' := s.heap) (g' := s.gens) (t' := s.toks) (d' := s.drawn) (ch := [D]) (fun b hb => by
   have e' : b = D := by simpa using hb
   subst e'
   exact ⟨.inr o.ab, o.ne, o.ce, o.pi⟩) (fun b ob _ _ _ q _ => q) (fun b ob _ _ _ q _ => ⟨ob.slots, q⟩) (fun b ob hc q z => by rw [C4 (by simpa using hc)]; exact z) (fun b ob _ q => ⟨ob, q⟩)
  (fun b xs q => by rw [C4 (nD b _ q)]; exact q) (fun b ob u q => by rw [C4 (nD b _ q)]; exact q) (fun b ps q => ⟨#[], by rw [C4 (nD b _ q), q]; simp⟩) (fun m z => z) hok I.bare
 exact this
end
end L2
namespace L2
open PySem PySem.Spec PyProof.Rows
section
variable {prog : Program} {w : World} {A : Around} {R : Result -> Shared -> Prop} {s : Shared}
theorem B5f {elt target iter : Expr} {ifs : List Expr} {scope : Scope} {pos : Pos} {it acc : Value} {env : Env} (I : Nat -> Shared -> Prop)
  (turn : ∀ n s, I n s -> ∀ E : Value -> Shared -> Prop, wpAny (model prog w) A (pyNext it) (fun r s₁ => match r with
   | none => R (.ok .next) s₁
   | some v => wpAny (model prog w) A (letOwnedTupleGo target it v) (fun _ s₁' => wpAny (model prog w) A (assign target env v) (fun _ s₂ =>
     wpAny (model prog w) A (forIn ifs true fun c r => if r = true then do let ok <- isTrue c env (eval c env); pure (ForInStep.yield ok) else pure (ForInStep.yield r)) (fun ok s₃ =>
      if ok = true then wpAny (model prog w) A (eval elt env) (fun x s₄ =>
       wpAny (model prog w) A (call (.builtin "list.append") [acc, x]) (fun _ s₅ => ∃ m, m < n /\ I m s₅) E s₄) E s₃
      else ∃ m, m < n /\ I m s₃) E s₂) E s₁') E s₁) E s)
  (n : Nat) (h : I n s) :
  codeAny (model prog w) A (.compLoop (.ListComp elt [⟨target, iter, ifs, 0⟩] scope pos) 0 it acc env) R s := by
 refine codeAny_loop rfl I (fun n s hI => ?_) n h
 show wpAny _ A ((compTurn (.ListComp elt [⟨target, iter, ifs, 0⟩] scope pos) 0 it acc env).onRaise (fun x => do noteFrame x env; theTreesLotGoes x)) _ _ s
 refine wpAny_noted ?_
 rw [compTurn_list]
 refine wpAny_bind (wpAny_standAt (wpAny_bind (wpAny_mono (turn n s hI _) (fun r s₁ h₁ => ?_) fun _ _ h' => h')))
 cases r with
 | none => exact wpAny_pure h₁
 | some v =>
  refine wpAny_bind (wpAny_mono h₁ (fun _ s₁' h₁' => ?_) fun _ _ h' => h')
  refine wpAny_bind (wpAny_mono h₁' (fun _ s₂ h₂ => wpAny_bind (wpAny_mono h₂ (fun ok s₃ h₃ => ?_) fun _ _ h' => h')) fun _ _ h' => h')
  cases ok with
  | false => exact wpAny_pure ⟨rfl, h₃⟩
  | true =>
   exact wpAny_bind (wpAny_bind (wpAny_mono h₃ (fun x s₄ h₄ => wpAny_bind (wpAny_mono h₄ (fun _ s₅ h₅ => wpAny_pure (wpAny_pure ⟨rfl, h₅⟩)) fun _ _ h' => h')) fun _ _ h' => h'))
end
def PTs (X : Cx) (ifs : List Expr) (t : TT) : Prop :=
 ∀ (pins : List (Addr × Obj)) (s : Shared) (σ : St) (H : Hp) (Q : Bool -> Hp -> Prop), Inv X pins σ H s -> t σ H Q ->
  wpAny (model X.prog X.w) X.A (forIn ifs true fun c r => if r = true then do let ok <- isTrue c X.env (eval c X.env); pure (ForInStep.yield ok) else pure (ForInStep.yield r)) (TP X pins σ Q) X.xe s
def C1v : TT := fun _ H Q => Q true H
theorem C1w {X : Cx} : PTs X [] C1v := fun _ _ _ H _ I h => wpAny_tests_nil ⟨H, I, h⟩
theorem B5g {X : Cx} {c : Expr} {t : TT} (h : PT X c t) : PTs X [c] t := fun pins s σ H Q I q => wpAny_tests_one (h pins s σ H Q I q)
def B5h (σ : St) (n j : Nat) (tt : CA -> TT) (te : CA -> TE) (J : It) (H1 : Hp) (Q : List V -> Hp -> Prop) : Prop :=
 ∃ W : Nat -> Nat -> List V -> Hp -> Prop, (∃ m, W 0 m [] H1) /\ ∀ i m ys H, W i m ys H -> ys.length <= sizeLine /\
  ((J.stop i H /\ Q ys H) \/ (J.go i H /\ ∃ N : List V -> Hp -> Prop, (∀ ys' H', N ys' H' -> ∃ m', m' < m /\ W (i + 1) m' ys' H') /\
   ∀ x H', J.yld i H x H' -> ∀ a : CA, tt a ((U7 n j σ).set j (some x)) H' fun b H2 => if b = true then te a ((U7 n j σ).set j (some x)) H2 fun y H3 => N (ys ++ [y]) H3 else N ys H2))
def t7 (wi : TI) (n j : Nat) (tt : CA -> TT) (te : CA -> TE) : TE := fun σ H Q => wi σ H fun J H1 => B5h σ n j tt te J H1 fun ys H2 => ∀ p, H2 p = none -> Q (.ref p) (upd H2 p (.lst ys))
section
variable {X : Cx} {pins : List (Addr × Obj)} {σ : St} {H : Hp} {s : Shared}
theorem B5i {elt iter : Expr} {x : Str} {px pos : Pos} {ifs : List Expr} {scope : Scope} {N' : List Str} {j : Nat} {tt : CA -> TT} {te : CA -> TE} {it : Addr} {fp : List Addr} {tn : Nat -> Heap -> Prop} {J : It} {Q : List V -> Hp -> Prop}
  {RR : Value -> Addr -> Result -> Shared -> Prop} {E : Value -> Shared -> Prop}
  (S : M3 X.N N' X.env.scope scope j x) (hc : X.calm = true)
  (ht : ∀ a : CA, PTs (K9 X scope N' a) ifs (tt a)) (he : ∀ a : CA, PE (K9 X scope N' a) elt (te a))
  (I : Inv X pins σ H s) (T : A0s X.prog X.w X.K (.Name x px) J fp it tn) (st : tn 0 s.heap) (f2 : ∀ b ∈ fp, T0 X pins H b) (h : B5h σ N'.length j tt te J H Q)
  (hRR : ∀ (D C : Addr) (ys : List V) (H' : Hp) (s' : Shared) (m : Str -> Option Value), s'.heap.Ns C m -> Own X pins (upd H' D (.lst ys)) C -> Inv X pins σ (upd H' D (.lst ys)) s' -> H' D = none -> Q ys H' -> RR (.ref D) C (.ok .next) s') :
  wpAny (model X.prog X.w) X.A (newList []) (fun acc s₃ => wpAny (model X.prog X.w) X.A (newFunctionEnv scope X.env.globals (Q7 X.env.cells scope.names []) [] X.env.qual none .none (some X.env)) (fun cenv s₄ =>
   codeAny (model X.prog X.w) X.A (.compStart (.ListComp elt [⟨.Name x px, iter, ifs, 0⟩] scope pos) 0 (.ref it) acc { cenv with scope := relabel scope X.env }) (RR acc cenv.locals) s₄) E s₃) E s := by
 refine wpAny_newObj_type (wpAny_newFunctionEnv S.cell (by intro y hy; simp at hy) (fun h₁ hns₁ hsb₁ => ?_) S.kind)
 dsimp only at hns₁ hsb₁ ⊢
 generalize hH2 : s.heap.push { cls := .type "list", dict := none, data := .seq ([] : List Value).toArray } = H2 at hns₁ hsb₁ ⊢
 have hC : H2.objs.size = s.heap.objs.size + 1 := by rw [<- hH2, Heap.size_push]
 have hDC : s.heap.objs.size ≠ H2.objs.size := by rw [hC]; exact N0 (Nat.lt_succ_self _)
 have hCle : s.heap.objs.size <= H2.objs.size := by rw [hC]; exact A12 _
 have below : ∀ b, b < s.heap.objs.size -> b ≠ H2.objs.size /\ b ≠ s.heap.objs.size := fun b hb => ⟨by rw [hC]; exact N0 (Nat.lt_succ_of_lt hb), N0 hb⟩
 have old : ∀ b o, s.heap.get? b = some o -> h₁.get? b = some o := fun b o e => hsb₁.extBut b o (below b (G8 e)).1 (S1 _ (hH2 ▸ S1 _ e))
 have hacc : h₁.get? s.heap.objs.size = some { cls := .type "list", data := .seq ([] : List Value).toArray } := hsb₁.extBut _ _ hDC (S1 _ (hH2 ▸ W1 _ rfl))
 have fplt : ∀ b ∈ fp, b < s.heap.objs.size := fun b hb => let ⟨_, e, _⟩ := T.obj 0 _ st b hb; G8 e
 have hcells : ∀ y ∈ scope.names, y.2 = .free -> ∃ c, X.env.cells.lookup y.1 = some c := fun y hy e => I.ok.has y.1 (.inl (S.free y hy e))
 have sub : ∀ y c, (Q7 X.env.cells scope.names []).lookup y = some c -> X.env.cells.lookup y = some c := B1w hcells (fun y c e => by cases e)
 let a : CA := ⟨s, H, H2.objs.size, fp⟩
 have ok : (K9 X scope N' a).Ok := by
  refine ⟨I.ok.mod, S.kind, I.ok.glob, I.ok.blt, hCle, fun y z c e1 e2 => I.ok.inj y z c (sub y c e1) (sub z c e2), fun y hy => ?_, fun y c z => ?_, I.ok.hd, I.ok.frames, .inl rfl, fun b hb => ⟨(below b (fplt b hb)).1, fun y c e => (f2 b hb).2.2.2.2.1 y c (sub y c e)⟩, I.bs,
   Y9 I.ok.bsz I.sz, fun b o e hb => ?_, fun b hb z => ?_, I.stack, I.stkFree⟩
  ·exact A8i (A01 hy S.cell)
  ·cases z
  ·rcases (f2 b hb).2.2.2.1 with z | z
   ·exact I.ok.noex b o e z
   ·exact absurd (Q5 (G8 (I.ok.bs b o e).1) z) (V3 _)
  ·rcases K1.mp (I.stkSub b z) with e | e
   ·exact (f2 b hb).2.1 e
   ·exact (f2 b hb).2.2.1 e
 have look : ∀ (h' : Heap) (m' : Str -> Option Value), (∀ y c, X.env.cells.lookup y = some c -> ∀ v, s.heap.IsCell c v -> h'.IsCell c v) -> ∀ (i : Nat) (y : Str) (v : V), N'[i]? = some y -> (U7 N'.length j σ)[i]? = some (some v) ->
   Vis (relabel scope X.env) y -> ∃ u, F7 v u /\ B09 (compEnvC scope (Q7 X.env.cells scope.names []) H2.objs.size X.env) h' m' y u := by
  intro h' m' kc i y v e1 e2 e3
  obtain ⟨ne, e4⟩ := B5e e2
  have e5 := S.sub i y ne e1
  have hy : (y, NameKind.free) ∈ scope.names := by
   rcases e3 with e3 | e3 | e3
   ·rcases S.only _ (A43 e3) rfl with z | z
    ·exact absurd (A4u S.nd e1 (by rw [S.at_]; exact congrArg some z.symm)) ne
    ·exact absurd (N3 e1) z
   ·exact A01 (.inl e3) S.cell
   ·exact A01 (.inr e3) S.cell
  have kcell : X.env.scope.names.lookup y = some .cell := S.free _ hy rfl
  obtain ⟨m0, hn0, hl0⟩ := I.loc
  obtain ⟨u, r, l⟩ := hl0 i y v e5 e4 (.inr (.inl kcell))
  refine ⟨u, r, .inr ⟨?_, ?_⟩⟩
  ·rcases e3 with e3 | e3 | e3
   ·rcases S.only _ (A43 e3) rfl with z | z
    ·exact absurd (A4u S.nd e1 (by rw [S.at_]; exact congrArg some z.symm)) ne
    ·exact absurd (N3 e1) z
   ·exact .inl e3
   ·exact .inr e3
  ·rcases l with ⟨k, _⟩ | ⟨k, c, e, z⟩
   ·have k' : X.env.scope.names.lookup y = some .local := k
    rw [kcell] at k'; cases k'
   ·obtain ⟨c', e'⟩ := A8i (cells := X.env.cells) (cs := []) hy
    have e'' := sub y c' e'
    rw [e] at e''
    cases e''
    exact ⟨c, e', kc y c e _ z⟩
 have cellOld : ∀ y c, X.env.cells.lookup y = some c -> ∀ v, s.heap.IsCell c v -> h₁.IsCell c v := fun y c _ v zz232 => el2 zz232 fun o ho hd => ⟨o, old c o ho, hd⟩
 have fr0 : ∀ b, s.heap.objs.size <= b -> H b = none := fun b hb => I.hok.fresh hb
 have noPn : ∀ p, p ∉ (K9 X scope N' a).pn ++ ([] : List (Addr × Obj)) := fun p hp => by simp at hp
 have I0 : Inv (K9 X scope N' a) [] (U7 N'.length j σ) H { s with heap := h₁, toks := s.toks + ([] : List (Str × Value)).length } := by
  refine ⟨ok, rfl, I.bare, Un.kept old, ⟨_, hns₁, look h₁ _ cellOld⟩, fun y c e => ?_, fr0 _ hCle, fun y c e => I.freeC y c (sub y c e), fun p hp => absurd hp (noPn p), I.hok.kept old, C1u (by rw [I.len]; exact S.len)⟩
  obtain ⟨v, z⟩ := I.cell y c (sub y c e)
  exact ⟨v, cellOld y c (sub y c e) v z⟩
 obtain ⟨W, ⟨m0, w0⟩, turn⟩ := h
 have loop : ∀ s₃ : Shared, s₃ = { s with heap := h₁, toks := s.toks + ([] : List (Str × Value)).length } ->
   codeAny (model X.prog X.w) X.A (.compLoop (.ListComp elt [⟨.Name x px, iter, ifs, 0⟩] scope pos) 0 (.ref it) (.ref s.heap.objs.size) (compEnvC scope (Q7 X.env.cells scope.names []) H2.objs.size X.env)) (RR (.ref s.heap.objs.size) H2.objs.size) s₃ := by
  rintro s₃ rfl
  refine B5f (fun k s' => ∃ (i : Nat) (ys : List V) (its : List Value) (n : Nat) (H' : Hp), Inv (K9 X scope N' a) [] (U7 N'.length j σ) H' s' /\ s'.heap.get? s.heap.objs.size = some { cls := .type "list", data := .seq its.toArray n } /\ D5 ys its /\
   H' s.heap.objs.size = none /\ tn i s'.heap /\ (∀ b ∈ fp, H' b = none) /\ W i k ys H') ?_ m0
   ⟨0, [], [], 0, H, I0, hacc, .nil, fr0 _ (F6 _), T.keep _ _ _ st fun b hb o e => old b o e, fun b hb => (f2 b hb).1, w0⟩
  rintro k s' ⟨i, ys, its, n, H', I', hD, rv, nD', st', fr', w'⟩ E'
  obtain ⟨hz, hw⟩ := turn i k ys H' w'
  have ownD : Own (K9 X scope N' a) [] H' s.heap.objs.size := ⟨nD', hDC, F6 _, fun y c e z => by
   obtain ⟨v, q⟩ := I.cell y c (sub y c e)
   exact absurd q.lt (by rw [z]; exact V3 _), fun p hp => absurd hp (noPn p)⟩
  have fpok : ∀ (pl : List (Addr × Obj)) (H'' : Hp), (∀ b ∈ fp, H'' b = none) -> (∀ p ∈ pl, p.1 ∉ fp) -> ∀ b ∈ fp, T0 (K9 X scope N' a) pl H'' b := fun pl H'' hn hpl b hb =>
   ⟨hn b hb, (below b (fplt b hb)).1, fun z => by
    rcases K1.mp (I.stkSub b z) with e | e
    ·exact (f2 b hb).2.1 e
    ·exact (f2 b hb).2.2.1 e, .inl hb, fun y c e => (f2 b hb).2.2.2.2.1 y c (sub y c e), fun p hp z => by
    have hp' : p ∈ pl := by simpa using hp
    exact hpl p hp' (z ▸ hb)⟩
  have nDfp : s.heap.objs.size ∉ fp := fun z => absurd (fplt _ z) (V3 _)
  have pinD : ∀ p ∈ ([(s.heap.objs.size, { cls := .type "list", data := .seq its.toArray n })] : List (Addr × Obj)), s'.heap.get? p.1 = some p.2 /\ H' p.1 = none /\ p.1 ≠ (K9 X scope N' a).env.locals /\ p.1 ∉ (K9 X scope N' a).fs /\ ∀ v, p.2.data ≠ .cell v := fun p hp => by
   have e : p = (s.heap.objs.size, { cls := .type "list", data := .seq its.toArray n }) := by simpa using hp
   subst e
   refine ⟨hD, nD', hDC, fun z => ?_, fun v z => by cases z⟩
   rcases K1.mp (I.stkSub _ z) with e | e
   ·exact absurd I.lt (by rw [<- e]; exact V3 _)
   ·exact I.nofs (F6 _) e
  have Ip := I'.pins_of pinD
  have hpl : ∀ p ∈ ([(s.heap.objs.size, { cls := .type "list", data := .seq its.toArray n })] : List (Addr × Obj)), p.1 ∉ fp := fun p hp => by
   have e : p = (s.heap.objs.size, { cls := .type "list", data := .seq its.toArray n }) := by simpa using hp
   subst e
   exact nDfp
  rcases hw with ⟨stop, q⟩ | ⟨go, N, hN, step⟩
  ·refine thn (T.done (K9 X scope N' a) rfl rfl rfl hc i _ s' _ H' E' Ip (fpok _ H' fr' hpl) st' stop) fun r s4 zz233 => zz233.elim fun hr I4 => ?_
   subst hr
   have hD4 := (I4.pin (s.heap.objs.size, { cls := .type "list", data := .seq its.toArray n }) (by simp)).1
   have J4 : Inv X pins σ H' s4 := I.call' (ch := fp) I4.os I4.base I4.hok I4.bare fun b hb => ⟨(f2 b hb).2.2.2.1, (f2 b hb).2.1, (f2 b hb).2.2.2.2.1, (f2 b hb).2.2.2.2.2⟩
   obtain ⟨m4, hn4, _⟩ := I4.loc
   have hC4 : H' H2.objs.size = none := I4.free
   exact hRR _ _ ys H' s4 m4 hn4 (I.own hCle (by rw [C4 (Ne.symm hDC)]; exact hC4)) (J4.track (I.own (F6 _) nD') hD4 rv hz) nD' q
  ·refine thn (T.item (K9 X scope N' a) rfl rfl rfl hc i _ s' _ H' E' Ip (fpok _ H' fr' hpl) st' go) fun r s5 zz234 => el2 zz234 fun u hr h5 => ?_
   subst hr
   refine thn h5 fun _ s6 zz235 => zz235.elim fun xv zz236 => zz236.elim fun H6 zz237 => zz237.elim fun I6 zz238 => zz238.elim fun r6 zz239 => zz239.elim fun y6 zz240 => zz240.elim fun st6 fr6 => ?_
   have I6' := I6.pinned (fpok _ H6 fr6 hpl) (T.obj _ _ st6)
   refine wpAny_assign_Name (B1a I6' S.nd S.at_ (.inl (lookup_relabel_local S.loc)) r6 (fun s7 I7 => ?_) (.inr (lookup_relabel_local S.loc)))
   have wk : ∀ (i : Nat) v, (U7 N'.length j σ)[i]? = some (some v) -> ((U7 N'.length j σ).set j (some xv))[i]? = some (some v) := fun i v e => by
    rw [S7 (Ne.symm (B5e e).1)]; exact e
   refine wpAny_mono (ht a _ s7 _ H6 _ I7 (step xv H6 y6 a)) (fun ok s8 zz241 => el2 zz241 fun H8 I8 q8 => ?_) fun _ _ z => z.elim
   have tnk : ∀ {H9 : Hp} {s9 : Shared} {σ9 : St}, Inv (K9 X scope N' a) ([(s.heap.objs.size, { cls := .type "list", data := .seq its.toArray n })] ++ A4w fp s6.heap) σ9 H9 s9 -> tn (i + 1) s9.heap /\ (∀ b ∈ fp, H9 b = none) /\ s9.heap.get? s.heap.objs.size = some { cls := .type "list", data := .seq its.toArray n } /\ H9 s.heap.objs.size = none := fun {H9 s9 σ9} I9 => by
    refine ⟨T.keep _ _ _ st6 fun b hb o e => (I9.pin (b, o) (S8 _ (S8 _ (A4x hb e)))).1, fun b hb => ?_, ?_⟩
    ·obtain ⟨o, e, d⟩ := T.obj _ _ st6 b hb
     exact (I9.pin (b, o) (S8 _ (S8 _ (A4x hb e)))).2.1
    ·have z := I9.pin (s.heap.objs.size, { cls := .type "list", data := .seq its.toArray n }) (S8 _ (A84 _ (by simp)))
     exact ⟨z.1, z.2.1⟩
   cases ok with
   | false =>
    obtain ⟨m', hm, w8⟩ : ∃ m', m' < k /\ W (i + 1) m' ys H8 := hN _ _ (by simpa using q8)
    obtain ⟨t1, t2, t3, t4⟩ := tnk I8
    exact ⟨m', hm, i + 1, ys, its, n, H8, (I8.pins_of (pins' := []) fun p hp => nomatch hp).weak (by rw [L9]) wk, t3, rv, t4, t1, t2, w8⟩
   | true =>
    have q8' := q8
    simp only [if_true] at q8'
    refine wpAny_mono (he a _ s8 _ H8 _ I8 q8') (fun u9 s9 zz242 => el5 zz242 fun v9 H9 I9 r9 q9 => ?_) fun _ _ z => z.elim
    obtain ⟨m', hm, w9⟩ := hN _ _ q9
    obtain ⟨t1, t2, t3, t4⟩ := tnk I9
    have hl := rv.length
    refine append_at (hsz := by show its.toArray.size <= sizeLine; rw [O1, <- hl]; exact hz) t3 fun h' hs' hD' => ?_
    have J9 := ((I9.pins_of (pins' := []) fun p hp => nomatch hp).weak (σ' := U7 N'.length j σ) (by rw [L9]) wk).own_turn (C := s.heap.objs.size) ⟨t4, ownD.ne, ownD.ab, ownD.ce, ownD.pi⟩ hs'
    refine ⟨m', hm, i + 1, ys ++ [v9], its ++ [u9], n + 1, H9, J9, ?_, D5.append rv (.cons r9 .nil), t4, T.keep _ _ _ t1 fun b hb o e => (hs'.2 b fun z => nDfp (z ▸ hb)).trans e, t2, w9⟩
    rw [List.push_toArray] at hD'
    exact hD'
 exact codeAny_compStart_list (loop _ rfl) (T.self _ 0 _ _ _ (T.keep _ _ _ st fun b hb o e => old b o e) (loop _ rfl))
theorem V5 {elt iter : Expr} {x : Str} {px pos : Pos} {ifs : List Expr} {scope : Scope} {N' : List Str} {j : Nat} {wi : TI} {tt : CA -> TT} {te : CA -> TE} {osc : Scope} {N : List Str}
  (S : M3 N N' osc scope j x) (hc : X.calm = true) (hi : PI X (.Name x px) iter wi) (ht : ∀ a : CA, PTs (K9 X scope N' a) ifs (tt a)) (he : ∀ a : CA, PE (K9 X scope N' a) elt (te a))
  (ho : X.env.scope = osc := by rfl) (hN : X.N = N := by rfl) (hs : ∀ x, foldedSetIterable iter X.env x = pure x := by intro _; rfl) : PE X (.ListComp elt [⟨.Name x px, iter, ifs, 0⟩] scope pos) (t7 wi N'.length j tt te) := by
 subst ho hN
 intro pins s σ H Q I h
 rw [eval_ListComp]
 have hcells : ∀ y ∈ scope.names, y.2 = .free -> ∃ c, X.env.cells.lookup y.1 = some c := fun y hy e => I.ok.has y.1 (.inl (S.free y hy e))
 refine wpAny_comprehension_free (use := none) rfl hs (B1v hcells) S.kind S.names (wpAny_mono (hi pins s σ H _ I h) (fun xv s₁ h₁ => wpAny_mono h₁ (fun itv s₂ h₂ => ?_) fun _ _ e => e) fun _ _ e => e)
 obtain ⟨it, fp, tn, J, H2, rfl, I2, T, st2, f2, q2⟩ := h₂
 refine B5i (RR := fun acc C => compPost (model X.prog X.w) X.A X.xe none (EP X pins σ Q) acc C) S hc ht he I2 T st2 f2 q2 ?_
 intro D C ys H' s' m hn own I' hD q
 refine ⟨m, hn, fun h' hs' => ⟨.ref D, _, I'.own_turn own hs', rfl, q D hD⟩⟩
theorem A17 {elt iter : Expr} {x y : Str} {px pos py spos : Pos} {ifs : List Expr} {scope : Scope} {N' : List Str} {j i : Nat} {wi : TI} {tt : CA -> TT} {te : CA -> TE} {osc : Scope} {N : List Str}
  (nd : X.N.Nodup) (hi' : X.N[i]? = some y) (hy : Loc X.env.scope y)
  (S : M3 N N' osc scope j x) (hc : X.calm = true) (hi : PI X (.Name x px) iter wi) (ht : ∀ a : CA, PTs (K9 X scope N' a) ifs (tt a)) (he : ∀ a : CA, PE (K9 X scope N' a) elt (te a))
  (hsw : swapsWith (.ListComp elt [⟨.Name x px, iter, ifs, 0⟩] scope pos) (some (.Name y py)) spos.line X.env = pure true := by rfl)
  (hf : X.fn y = true \/ X.env.scope.names.lookup y = some .local := by first | exact .inl rfl | exact .inr rfl | assumption)
  (ho : X.env.scope = osc := by rfl) (hN : X.N = N := by rfl) (hs : ∀ x, foldedSetIterable iter X.env x = pure x := by intro _; rfl) :
  PS X (.Assign [.Name y py] (.ListComp elt [⟨.Name x px, iter, ifs, 0⟩] scope pos) spos) (fun D σ H => t7 wi N'.length j tt te σ H fun v H1 => D.nx (σ.set i (some v)) H1) := by
 subst ho hN
 intro pins s σ H D I h
 have hcells : ∀ y ∈ scope.names, y.2 = .free -> ∃ c, X.env.cells.lookup y.1 = some c := fun y hy e => I.ok.has y.1 (.inl (S.free y hy e))
 rw [exec_Assign_Name_used _ _ _ _ hsw]
 refine wpAny_bind (wpAny_standAt (wpAny_bind ?_))
 show wpAny _ X.A (do let _ <- comprehension (.ListComp elt [⟨.Name x px, iter, ifs, 0⟩] scope pos) scope X.env _ (newList []) false (eval iter X.env) (some (assign (.Name y py) X.env))) _ _ s
 refine wpAny_bind (wpAny_mono (wpAny_comprehension_free (use := some (assign (.Name y py) X.env)) (Q := fun _ s' => SP X pins D .next s') rfl hs (B1v hcells) S.kind S.names
  (wpAny_mono (hi pins s σ H _ I h) (fun xv s₁ h₁ => wpAny_mono h₁ (fun itv s₂ h₂ => ?_) fun _ _ e => e) fun _ _ e => e)) (fun _ s' hq => wpAny_pure (wpAny_pure hq)) fun _ _ e => e)
 obtain ⟨it, fp, tn, J, H2, rfl, I2, T, st2, f2, q2⟩ := h₂
 refine B5i (RR := fun acc C => compPost (model X.prog X.w) X.A X.xe (some (assign (.Name y py) X.env)) (fun _ s' => SP X pins D .next s') acc C) S hc ht he I2 T st2 f2 q2 ?_
 intro Da C ys H' s' m hn own I' hD q
 show wpAny _ X.A (assign (.Name y py) X.env (.ref Da)) _ _ _
 refine wpAny_assign_Name (B4c (v := V.ref Da) I' nd hi' hy rfl (fun s2 I2' hsb => ?_) hf)
 obtain ⟨b, hs2, hb⟩ := hsb
 have hCb : C ≠ b := by
  rcases hb with rfl | hb
  ·exact own.ne
  ·exact fun z => own.ce _ _ hb z.symm
 refine ⟨m, hn.sameBut hs2 hCb, fun h' hs' => ⟨_, _, I2'.own_turn own hs', q Da hD⟩⟩
end
end L2
namespace L2
open PySem PySem.Spec PyProof.Rows
end L2
namespace L2
open PySem PySem.Spec PyProof.Rows
section
variable {X : Cx}
def B1x (_ j : Int) : Prop := 0 < j /\ j < 100000000000000000000000000000000000000000000000000000000000000
theorem A8j : OpR X (binaryOp .FloorDiv) (rI B1x fun i j => .int (i / j)) := opI fun i j _ _ _ _ _ hc q => by
 have h1 : (0 : Int) < j := hc.1
 have h2 : j < 2 ^ 250 := Int.lt_trans hc.2 (by decide)
 refine floordiv_int (by lia) (by rw [Int.fdiv_eq_ediv_of_nonneg i (by lia)]; exact q) (.inl (PyProof.noPylong_of_log2 ?_))
 have h3 : j.natAbs < 2 ^ 250 := by
  have : ((j.natAbs : Nat) : Int) < ((2 ^ 250 : Nat) : Int) := by
   rw [Int.natAbs_of_nonneg (Int.le_of_lt h1)]
   exact h2
  exact Int.ofNat_lt.mp this
 have h4 : j.natAbs ≠ 0 := by lia
 exact Nat.lt_trans ((Nat.log2_lt h4).mpr h3) (by decide)
theorem B1y : ∀ {bs : List Bool} {us : List Value}, D5 (bs.map V.bl) us -> LSm.BoolsAre us bs
 | [], _, .nil => .nil
 | b :: bs, _, .cons r t => by
  cases (show _ = Value.bool b from r)
  exact .cons b (B1y t)
theorem A44 (hc : X.calm = true) : X6 X (.builtin "all") (fun xs H Q => ∃ (p : Addr) (bs : List Bool), xs = [.ref p] /\ SqL X.K H p (bs.map V.bl) /\ Q (.bl (bs.all id)) H) := by
 intro pins s σ H xs us Q I r h
 obtain ⟨p, bs, rfl, hq, q⟩ := h
 obtain ⟨u, rfl, rx⟩ := X8 r
 cases rx
 obtain ⟨its, rv, pl, hz⟩ := I.list hq
 have hb := B1y rv
 have hl := pl.isList
 have hlt : p < s.heap.objs.size := by obtain ⟨_, e, _⟩ := hl; exact G8 e
 refine call_all_walk (wpAny_pyIter_list hl ?_)
 refine ⟨s.heap.objs.size, [s.heap.objs.size, p], [s.heap.objs.size], its.toArray.size, _, _, fun i => (bs[i]?).getD true, rfl, Walks.list (A := X.A.in1) (I.ok.hd hc) _ p (N0 hlt) its.toArray,
  ⟨⟨_, W1 _ rfl, rfl, rfl⟩, hl.push _⟩, fun i v s' Q' E' hP hQ => ?_, fun h' tk hk => ?_⟩
 ·obtain ⟨b, e, rfl⟩ := hb.get i v (by simpa using hP)
  simp only [e, Option.getD_some] at hQ
  exact wpAny_truthy_bool hQ
 ·have e : ((P6 its.toArray.size).all fun i => (bs[i]?).getD true) = bs.all id := by
   rw [O1, hb.length]; exact LSm.range_all bs
  rw [e]
  exact ⟨.bl _, H, I.kept (t' := tk) (LSm.kept_iter hk), rfl, q⟩
end
mutual
inductive U8 (K : A4) (H : Hp) : V -> PyData -> Prop
 | non : U8 K H .non .none
 | bl (b) : U8 K H (.bl b) (.bool b)
 | int (i) : U8 K H (.int i) (.int i)
 | str (x) : U8 K H (.str x) (.str x)
 | lst {a xs ds} : SqL K H a xs -> g4 K H xs ds -> U8 K H (.ref a) (.list ds)
 | tup {a xs ds} : SqT K H a xs -> g4 K H xs ds -> U8 K H (.ref a) (.tuple ds)
inductive g4 (K : A4) (H : Hp) : List V -> List PyData -> Prop
 | nil : g4 K H [] []
 | cons {x xs d ds} : U8 K H x d -> g4 K H xs ds -> g4 K H (x :: xs) (d :: ds)
end
section
variable {X : Cx} {pins : List (Addr × Obj)} {σ : St} {H : Hp} {s : Shared}
mutual
theorem U8.reads (I : Inv X pins σ H s) : ∀ {x : V} {d : PyData} {u : Value}, U8 X.K H x d -> F7 x u -> ∃ as, Reads s.heap u d as
 | _, _, _, .non, r => by cases r; exact ⟨_, .none⟩
 | _, _, _, .bl b, r => by cases r; exact ⟨_, .bool b⟩
 | _, _, _, .int i, r => by obtain ⟨t, rfl⟩ := r; exact ⟨_, .int i t⟩
 | _, _, _, .str x, r => by obtain ⟨t, rfl⟩ := r; exact ⟨_, .str x t⟩
 | _, _, _, .lst hq hs, r => by
  cases r
  obtain ⟨its, rv, pl, hz⟩ := I.list hq
  obtain ⟨as, ra⟩ := g4.reads I hs rv
  obtain ⟨o, e, c, n, d⟩ := pl.isList
  exact ⟨_, .list e c d (by simpa using ra)⟩
 | _, _, _, .tup hq hs, r => by
  cases r
  obtain ⟨its, rv, pl, hz⟩ := I.tuple hq
  obtain ⟨as, ra⟩ := g4.reads I hs rv
  obtain ⟨o, e, c, n, d⟩ := pl
  exact ⟨_, .tuple e c d (by simpa using ra)⟩
theorem g4.reads (I : Inv X pins σ H s) : ∀ {xs : List V} {ds : List PyData} {us : List Value}, g4 X.K H xs ds -> D5 xs us -> ∃ as, ReadsAll s.heap us ds as
 | _, _, _, .nil, .nil => ⟨_, .nil⟩
 | _, _, _, .cons h t, .cons r rs => by
  obtain ⟨as, ra⟩ := U8.reads I h r
  obtain ⟨bs, rb⟩ := g4.reads I t rs
  exact ⟨_, .cons ra rb⟩
end
end
section
variable {X : Cx}
def B1z (K : A4) (neg : Bool) : R2 := fun x y H Q => ∃ da db, U8 K H x da /\ U8 K H y db /\ da.canLay0 = true /\ db.canLay0 = true /\ min da.depth db.depth <= 64 /\ Q (.bl (if neg then !PyData.eqv da db else PyData.eqv da db)) H
theorem Z5 (hu : X.A.units + 64 < cLine) : OpR X (compareOp .Eq) (B1z X.K false) := by
 intro pins s σ H x y v u Q I rx ry h
 obtain ⟨da, db, d1, d2, c1, c2, hd, q⟩ := h
 obtain ⟨as, ra⟩ := d1.reads I rx
 obtain ⟨bs, rb⟩ := d2.reads I ry
 exact SeqAt.compareEq_reads ra rb c1 c2 (by lia) ⟨.bl _, H, I, rfl, q⟩
theorem t8 (hu : X.A.units + 64 < cLine) : OpR X (compareOp .NotEq) (B1z X.K true) := by
 intro pins s σ H x y v u Q I rx ry h
 obtain ⟨da, db, d1, d2, c1, c2, hd, q⟩ := h
 obtain ⟨as, ra⟩ := d1.reads I rx
 obtain ⟨bs, rb⟩ := d2.reads I ry
 exact SeqAt.compareNe_reads ra rb c1 c2 (by lia) ⟨.bl _, H, I, rfl, q⟩
end
end L2
namespace L2
open PySem PySem.Spec PyProof.Rows
section
variable {X : Cx}
theorem B5j : B4l X (fun o i H Q => ∃ p xs j v, o = .ref p /\ i = .int j /\ 0 <= j /\ SqL X.K H p xs /\ atI xs j = some v /\ Q v H) := by
 intro pins s σ H o i ov iv Q I r1 r2 h
 obtain ⟨p, xs, j, v, rfl, rfl, h0, hq, he, q⟩ := h
 cases r1
 obtain ⟨t, rfl⟩ := r2
 obtain ⟨its, r, pl, hz⟩ := I.list hq
 obtain ⟨k, h1, h2, h3, h4, h5⟩ := A9p he
 obtain ⟨w, ew, rw'⟩ := r.get h2
 have hl := r.length
 have hn := A40
 have hj : j.toNat = k := by
  rw [seqIndex_of h0 h5] at h1
  exact Option.some.inj h1
 exact wpAny_getItem_list pl.isList h0 (by lia) (by rw [hj]; simpa using ew) ⟨v, H, I, rw', q⟩
theorem A8k {st : Stmt} {t : TS} (h : PS X st t) : PS X st (fun D σ H => ∃ M : St -> Hp -> Prop, t { D with nx := M } σ H /\ ∀ σ' H', M σ' H' -> D.nx σ' H') := by
 intro pins s σ H D I q
 obtain ⟨M, q1, q2⟩ := q
 refine thn (h pins s σ H _ I q1) fun f s' z => ?_
 cases f with
 | next => obtain ⟨σ', H', I', m⟩ := z; exact ⟨σ', H', I', q2 _ _ m⟩
 | brk => exact z
 | cont => exact z
 | ret v => exact z
end
end L2
namespace L2
open PySem PySem.Spec PyProof.Rows
theorem W6 : bootBuiltins "list" = some (.type "list") := by decide +kernel
theorem C1x : bootBuiltins "abs" = some (.builtin "abs") := by decide +kernel
theorem A02 : bootBuiltins "min" = some (.builtin "min") := by decide +kernel
theorem B5k : bootBuiltins "max" = some (.builtin "max") := by decide +kernel
theorem t9 : bootBuiltins "isinstance" = some (.builtin "isinstance") := by decide +kernel
theorem A9r : bootBuiltins "int" = some (.type "int") := by decide +kernel
theorem B10 : bootBuiltins "bool" = some (.type "bool") := by decide +kernel
theorem A45 : bootBuiltins "all" = some (.builtin "all") := by decide +kernel
theorem B5l : bootBuiltins "tuple" = some (.type "tuple") := by decide +kernel
theorem N7 : bootBuiltins "len" = some (.builtin "len") := by decide +kernel
theorem B5m : bootBuiltins "any" = some (.builtin "any") := by decide +kernel
theorem C1y : bootBuiltins "zip" = some (.type "zip") := by decide +kernel
theorem C1z : bootBuiltins "enumerate" = some (.type "enumerate") := by decide +kernel
end L2
namespace L2
open PySem PySem.Spec PyProof.Rows
section
variable {es : List Expr} {env : Env}
theorem G1 {c j p} : starEach (.Constant c j p :: es) env = (false, eval (.Constant c j p) env) :: starEach es env := by rfl
theorem A0 {c p} : starEach (.Name c p :: es) env = (false, eval (.Name c p) env) :: starEach es env := by rfl
theorem J1 {a o b p} : starEach (.BinOp a o b p :: es) env = (false, eval (.BinOp a o b p) env) :: starEach es env := by rfl
theorem B11 {o b p} : starEach (.UnaryOp o b p :: es) env = (false, eval (.UnaryOp o b p) env) :: starEach es env := by rfl
theorem A9s {a o b p} : starEach (.Compare a o b p :: es) env = (false, eval (.Compare a o b p) env) :: starEach es env := by rfl
theorem E3 {a o b p} : starEach (.Call a o b p :: es) env = (false, eval (.Call a o b p) env) :: starEach es env := by rfl
theorem C2 {a o p} : starEach (.Subscript a o p :: es) env = (false, eval (.Subscript a o p) env) :: starEach es env := by rfl
theorem B5n {a p} : starEach (.List a p :: es) env = (false, eval (.List a p) env) :: starEach es env := by rfl
theorem A18 {a k p} : starEach (.Tuple a k p :: es) env = (false, eval (.Tuple a k p) env) :: starEach es env := by rfl
theorem C10 {a k p} : starEach (.Dict a k p :: es) env = (false, eval (.Dict a k p) env) :: starEach es env := by rfl
theorem S5 {a b c p} : starEach (.ListComp a b c p :: es) env = (false, eval (.ListComp a b c p) env) :: starEach es env := by rfl
theorem A6 {pos : Pos} : (backTo pos (starEach [] env)).any (·.1) = false := by rfl
theorem A5 {pos : Pos} {e : Expr} (hs : starEach (e :: es) env = (false, eval e env) :: starEach es env) (h : (backTo pos (starEach es env)).any (·.1) = false) : (backTo pos (starEach (e :: es) env)).any (·.1) = false := by
 rw [hs]
 exact h
end
end L2
namespace L2
open PySem PySem.Spec PyProof.Rows
section
variable {X : Cx} {pos : Pos}
end
end L2
namespace L2
open PySem PySem.Spec PyProof.Rows
section
variable {X : Cx}
end
end L2
namespace L2
open PySem PySem.Spec PyProof.Rows
section
variable {X : Cx}
end
end L2
namespace L2
open PySem PySem.Spec PyProof.Rows
section
variable {X : Cx}
theorem C11 : OpR X (compareOp .IsNot) (fun x y H Q => ∃ b c : Bool, x = .bl b /\ y = .bl c /\ Q (.bl (!(b == c))) H) := by
 intro pins s σ H x y v u Q I rx ry h
 obtain ⟨b, c, rfl, rfl, q⟩ := h
 cases rx
 cases ry
 have e : (Value.bool b == Value.bool c) = (b == c) := by cases b <;> cases c <;> rfl
 exact wpAny_pure ⟨.bl _, H, I, rfl, by rw [e]; exact q⟩
end
end L2
namespace L2
open PySem PySem.Spec PyProof.Rows
section
variable {X : Cx} {pins : List (Addr × Obj)} {σ : St} {H : Hp} {s : Shared} {h' : Heap}
theorem Inv.turned2 {t' : Nat} {e it : Addr} (I : Inv X pins σ H s) (k : ∀ b o, b ≠ e -> b ≠ it -> s.heap.get? b = some o -> h'.get? b = some o) (fe : T0 X pins H e) (fi : T0 X pins H it) : Inv X pins σ H { s with heap := h', toks := t' } := by
 obtain ⟨e0, e1, e2, e3, e4, e5⟩ := fe
 obtain ⟨f0, f1, f2, f3, f4, f5⟩ := fi
 have nit : ∀ b u, H b = some u -> b ≠ it := fun b u e z => by rw [z, f0] at e; cases e
 have nie : ∀ b u, H b = some u -> b ≠ e := fun b u q z => by rw [z, e0] at q; cases q
 have kc : ∀ b o, b ∉ [e, it] -> s.heap.get? b = some o -> h'.get? b = some o := fun b o hc q => k b o (fun z => hc (by simp [z])) (fun z => hc (by simp [z])) q
 refine I.step (g' := s.gens) (d' := s.drawn) (ch := [e, it]) (fun b hb => ?_) (fun b o _ _ hc e _ => kc b o hc e) (fun b o _ _ hc e _ => ⟨o.slots, kc b o hc e⟩) (fun _ _ _ _ n => n)
  (fun b o hc e => ⟨o, kc b o hc e⟩) (fun _ _ e => e) (fun _ _ _ e => e) (fun b ps e => ⟨#[], by rw [e]; simp⟩) (fun m hm => ?_) (fun b u q => ?_) I.bare
 ·rcases K1.mp hb with z | z
  ·subst z; exact ⟨e3, e1, e4, e5⟩
  ·have z' : b = it := by simpa using z
   subst z'
   exact ⟨f3, f1, f4, f5⟩
 ·obtain ⟨o, es, ep, ho, r⟩ := hm
  exact ⟨o, es, ep, k _ o (Ne.symm e1) (Ne.symm f1) ho, r⟩
 ·refine (I.hok b u q).stay (fun c v hc z => k c v ?_ ?_ z) (fun _ z => z) fun _ _ z => z
  ·rcases hc with z | z
   ·rw [z]; exact nie b u q
   ·exact nie c _ z
  ·rcases hc with z | z
   ·rw [z]; exact nit b u q
   ·exact nit c _ z
end
def Ite (K : A4) (a : Addr) : It :=
 ⟨fun i H => ∃ xs x, SqL K H a xs /\ xs[i]? = some x, fun i H x H' => ∃ p v, x = .ref p /\ H p = none /\ H' = upd H p (.tup [.int ((i : Nat) : Int), v]) /\ ∀ xs, SqL K H a xs -> xs[i]? = some v, fun i H => ∃ xs, SqL K H a xs /\ xs.length <= i⟩
theorem C12 {P : Program} {w : World} {K : A4} {elts : List Expr} {x1} {tpos : Pos} (a e it : Addr) (hne : e ≠ it) : A0s P w K (.Tuple elts x1 tpos) (Ite K a) [e, it] e (fun i h => (∃ old, IsEnum h e it ((i : Nat) : Int) old) /\ h.IsListIter it a i) where
 mem := by simp
 obj := fun i h st b hb => by
  obtain ⟨⟨old, h1⟩, h2⟩ := st
  rcases K1.mp hb with z | z
  ·subst z
   exact ⟨_, h1, fun v z => by
    have z' : Data.fields _ = Data.cell v := z
    cases z'⟩
  ·have z' : b = it := by simpa using z
   subst z'
   obtain ⟨o, e, c, d⟩ := h2
   exact ⟨o, e, fun v z => by rw [d] at z; cases z⟩
 keep := fun i h h' st k => by
  obtain ⟨⟨old, h1⟩, h2⟩ := st
  exact ⟨⟨old, k e (by simp) _ h1⟩, h2.at fun o q => k it (by simp) o q⟩
 item := by
  intro X hP hw hK hc i pins s σ H E I hf st hg
  subst hP hw hK
  obtain ⟨⟨old, st1⟩, st2⟩ := st
  obtain ⟨xs, x, hq, hx⟩ := hg
  obtain ⟨its, rv, p, hz⟩ := I.list hq
  obtain ⟨u, hu, ru⟩ := rv.get hx
  have fe := hf e (by simp)
  have fi := hf it (by simp)
  have le : e < s.heap.objs.size := G8 st1
  have li : it < s.heap.objs.size := by obtain ⟨_, q, _⟩ := id st2; exact G8 q
  refine wpAny_pyNext_enum_item st1 st2 p.isList (x := u) (by simpa using hu) hne fun h' ho hit' hT hsz hk => ?_
  refine ⟨_, rfl, wpAny_letOwnedTupleGo_enum ho fun h2 he2 hs2 => ?_⟩
  replace hs2 : Heap.SameBut e h' h2 := hs2
  have hn : H s.heap.objs.size = none := I.hok.fresh (F6 _)
  have I1 : Inv X pins σ (upd H s.heap.objs.size (.tup [.int ((i : Nat) : Int), x])) { s with heap := s.heap.push { cls := .type "tuple", data := .seq #[.int i s.toks, u] }, toks := s.toks } :=
   I.laid (fun b o q => S1 _ q) (F6 _) ⟨by show 2 <= sizeLine; decide, [.int i s.toks, u], .cons ⟨_, rfl⟩ (.cons ru .nil), ⟨_, W1 _ rfl, rfl, _, rfl⟩⟩
  have ge : ∀ b, b < s.heap.objs.size -> T0 X pins H b -> T0 X pins (upd H s.heap.objs.size (.tup [.int ((i : Nat) : Int), x])) b := fun b hb f => ⟨by rw [C4 (N0 hb)]; exact f.1, f.2⟩
  have I2 := I1.turned2 (h' := h2) (t' := s.toks + 1) (e := e) (it := it) (fun b o n1 n2 q => by
   rw [hs2.2 b n1]
   rcases Heap.get?_push_cases q with ⟨z, z2⟩ | q
   ·subst z z2
    exact hT
   ·exact hk b o n1 n2 q) (ge e le fe) (ge it li fi)
  refine ⟨.ref s.heap.objs.size, _, I2, rfl, ⟨_, x, rfl, hn, rfl, fun ys hy => by rw [I.list_inj hy hq]; exact hx⟩, ⟨⟨u, he2⟩, hit'.at fun o q => (hs2.2 it hne.symm).trans q⟩, fun b hb => ?_⟩
  rcases K1.mp hb with z | z
  ·subst z; exact (ge b le fe).1
  ·have z' : b = it := by simpa using z
   subst z'
   exact (ge b li fi).1
 done := by
  intro X hP hw hK hc i pins s σ H E I hf st hg
  subst hP hw hK
  obtain ⟨⟨old, st1⟩, st2⟩ := st
  obtain ⟨xs, hq, hx⟩ := hg
  obtain ⟨its, rv, p, hz⟩ := I.list hq
  have hl := rv.length
  exact wpAny_pyNext_enum_end (I.ok.hd hc) st1 st2 p.isList (by simp; lia) fun h' eb => ⟨rfl, I.turned2 (t' := s.toks) (fun b o n1 n2 q => eb b o n2 q) (hf e (by simp)) (hf it (by simp))⟩
 self := fun _ _ _ _ _ st h => by
  obtain ⟨⟨old, st1⟩, _⟩ := st
  exact wpAny_pyIter_enum st1 h
section
variable {X : Cx}
def B5o (K : A4) (ta : TA) : TI := fun σ H R => ta σ H fun vs H1 => ∃ a, vs = [.ref a] /\ (∃ xs, SqL K H1 a xs) /\ R (Ite K a) H1
theorem B12 {elts : List Expr} {x1} {tpos : Pos} {a : Expr} {ta : TA} {p pos : Pos} (hg : Gl X "enumerate") (hm : X.mg "enumerate" = none) (ha : PA X [a] ta) (hs : starEach [a] X.env = [(false, eval a X.env)] := by rfl) : PI X (.Tuple elts x1 tpos) (.Call (.Name "enumerate" p) [a] [] pos) (B5o X.K ta) := by
 intro pins s σ H R I h
 refine Call_ (p9 I hg hm C1z (PyProof.Rows.callWith_type1 (thn (ha pos pins s σ H _ I h) fun us s1 zz244 => el5 zz244 fun vs H1 I1 r1 q1 => ?_) hs rfl))
 obtain ⟨a', e, ⟨xs, hq⟩, q⟩ := q1
 subst e
 obtain ⟨u, rfl, rx⟩ := X8 r1
 cases rx
 obtain ⟨its, rv, pl, hz⟩ := I1.list hq
 refine call_enumerate_list pl.isList fun h' he hit hsz hk => ?_
 refine wpAny_pyIter_enum (s := { s1 with heap := h' }) he ?_
 have I2 : Inv X pins σ H1 { s1 with heap := h' } := I1.kept (t' := s1.toks) hk
 refine ⟨_, [s1.heap.objs.size + 1, s1.heap.objs.size], _, _, H1, rfl, I2, C12 a' _ _ (B0y (Nat.lt_succ_self _)), ⟨⟨.none, he⟩, hit⟩, fun b hb => ?_, q⟩
 rcases K1.mp hb with z | z
 ·subst z; exact I1.fpOk (A12 _) (I1.hok.fresh (A12 _))
 ·have z' : b = s1.heap.objs.size := by simpa using z
  subst z'
  exact I1.fpOk (F6 _) (I1.hok.fresh (F6 _))
theorem C13 {st : Stmt} : PS X st (fun _ _ _ => False) := fun _ _ _ _ _ _ h => h.elim
end
end L2
namespace L2
open PySem PySem.Spec PyProof.Rows
structure A19 (N N' : List Str) (osc scope : Scope) (x y : Str) : Prop where
 eqN : N' = N ++ [x, y]
 nd : N'.Nodup
 kind : scope.kind = .function
 cell : ∀ z ∈ scope.names, z.2 ≠ .cell
 names : ∀ z ∈ scope.names, z.2 = .local -> scope.names.lookup z.1 = some .local
 only : ∀ z ∈ scope.names, z.2 = .local -> z.1 = x \/ z.1 = y \/ z.1 ∉ N'
 locx : scope.names.lookup x = some .local
 locy : scope.names.lookup y = some .local
 free : ∀ z ∈ scope.names, z.2 = .free -> osc.names.lookup z.1 = some .cell
def B5p (N : List Str) (osc scope : Scope) (x y : Str) : Bool :=
 decide (N ++ [x, y]).Nodup && decide (scope.kind = .function) && (scope.names.lookup x == some .local) && (scope.names.lookup y == some .local) &&
  scope.names.all fun z => match z.2 with
   | .cell => false
   | .local => scope.names.lookup z.1 == some .local && (z.1 == x || (z.1 == y || !((N ++ [x, y]).contains z.1)))
   | .free => osc.names.lookup z.1 == some .cell
   | _ => true
theorem A19.new {N : List Str} {osc scope : Scope} {x y : Str} (h : B5p N osc scope x y = true) : A19 N (N ++ [x, y]) osc scope x y := by
 unfold B5p at h
 simp only [P7, decide_eq_true_eq, o9, beq_iff_eq] at h
 obtain ⟨⟨⟨⟨h1, h2⟩, h3⟩, h4⟩, h5⟩ := h
 refine ⟨rfl, h1, h2, fun y hy e => ?_, fun y hy e => ?_, fun y hy e => ?_, h3, h4, fun y hy e => ?_⟩
 ·have := h5 y hy; rw [e] at this; cases this
 ·have := h5 y hy
  rw [e] at this
  simp only [P7, beq_iff_eq] at this
  exact this.1
 ·have := h5 y hy
  rw [e] at this
  simp only [P7, Bool.or_eq_true, beq_iff_eq, B02, B9k, decide_eq_false_iff_not] at this
  exact this.2
 ·have := h5 y hy
  rw [e] at this
  simp only [beq_iff_eq] at this
  exact this
def Y1 (σ : St) : St := σ ++ [none, none]
theorem B5q {i : Nat} {σ : St} {v : V} (h : (Y1 σ)[i]? = some (some v)) : i < σ.length /\ σ[i]? = some (some v) := by
 unfold Y1 at h
 by_cases hi : i < σ.length
 ·rw [d6 hi] at h; exact ⟨hi, h⟩
 ·rw [Z0 (by lia)] at h
  match q : i - σ.length with
  | 0 => rw [q] at h; cases h
  | 1 => rw [q] at h; cases h
  | n + 2 => rw [q] at h; simp at h
def B5r (K : A4) (σ : St) (tt : CA -> TT) (te : CA -> TE) (J : It) (H1 : Hp) (Q : List V -> Hp -> Prop) : Prop :=
 ∃ W : Nat -> Nat -> List V -> Hp -> Prop, (∃ m, W 0 m [] H1) /\ ∀ i m ys H, W i m ys H -> ys.length <= sizeLine /\
  ((J.stop i H /\ Q ys H) \/ (J.go i H /\ ∃ N : List V -> Hp -> Prop, (∀ ys' H', N ys' H' -> ∃ m', m' < m /\ W (i + 1) m' ys' H') /\
   ∀ x H', J.yld i H x H' -> ∀ a : CA, ∃ p v1 v2, x = .ref p /\ SqT K H' p [v1, v2] /\ tt a (σ ++ [some v1, some v2]) H' fun b H2 => if b = true then te a (σ ++ [some v1, some v2]) H2 fun y H3 => N (ys ++ [y]) H3 else N ys H2))
def B13 (K : A4) (wi : TI) (tt : CA -> TT) (te : CA -> TE) : TE := fun σ H Q => wi σ H fun J H1 => B5r K σ tt te J H1 fun ys H2 => ∀ p, H2 p = none -> Q (.ref p) (upd H2 p (.lst ys))
section
variable {X : Cx} {pins : List (Addr × Obj)} {σ : St} {H : Hp} {s : Shared}
theorem C14 {N' : List Str} {scope : Scope} {x y : Str} {px py pt : Pos} {kt} (S : A19 X.N N' X.env.scope scope x y) (hc : X.calm = true) (a : CA) :
  PG (K9 X scope N' a) (.Tuple [.Name x px, .Name y py] kt pt) (A8f X.K 2 (j6 (W4 X.N.length) (j6 (W4 (X.N.length + 1)) A8e))) := by
 have qx : N'[X.N.length]? = some x := by rw [S.eqN, Z0 (F6 _)]; simp
 have qy : N'[X.N.length + 1]? = some y := by rw [S.eqN, Z0 (A12 _)]; simp
 exact A0q (X := K9 X scope N' a) (n := 2) hc (S3 (K3 S.nd qx (.inl (lookup_relabel_local S.locx)) (.inr (lookup_relabel_local S.locx))) (S3 (K3 S.nd qy (.inl (lookup_relabel_local S.locy)) (.inr (lookup_relabel_local S.locy))) A0p))
theorem C15 {elt iter : Expr} {x y2 : Str} {px py pt pos : Pos} {kt} {ifs : List Expr} {scope : Scope} {N' : List Str} {tt : CA -> TT} {te : CA -> TE} {it : Addr} {fp : List Addr} {tn : Nat -> Heap -> Prop} {J : It} {Q : List V -> Hp -> Prop}
  {RR : Value -> Addr -> Result -> Shared -> Prop} {E : Value -> Shared -> Prop}
  (S : A19 X.N N' X.env.scope scope x y2) (hc : X.calm = true)
  (ht : ∀ a : CA, PTs (K9 X scope N' a) ifs (tt a)) (he : ∀ a : CA, PE (K9 X scope N' a) elt (te a))
  (I : Inv X pins σ H s) (T : A0s X.prog X.w X.K (.Tuple [.Name x px, .Name y2 py] kt pt) J fp it tn) (st : tn 0 s.heap) (f2 : ∀ b ∈ fp, T0 X pins H b) (h : B5r X.K σ tt te J H Q)
  (hRR : ∀ (D C : Addr) (ys : List V) (H' : Hp) (s' : Shared) (m : Str -> Option Value), s'.heap.Ns C m -> Own X pins (upd H' D (.lst ys)) C -> Inv X pins σ (upd H' D (.lst ys)) s' -> H' D = none -> Q ys H' -> RR (.ref D) C (.ok .next) s') :
  wpAny (model X.prog X.w) X.A (newList []) (fun acc s₃ => wpAny (model X.prog X.w) X.A (newFunctionEnv scope X.env.globals (Q7 X.env.cells scope.names []) [] X.env.qual none .none (some X.env)) (fun cenv s₄ =>
   codeAny (model X.prog X.w) X.A (.compStart (.ListComp elt [⟨.Tuple [.Name x px, .Name y2 py] kt pt, iter, ifs, 0⟩] scope pos) 0 (.ref it) acc { cenv with scope := relabel scope X.env }) (RR acc cenv.locals) s₄) E s₃) E s := by
 refine wpAny_newObj_type (wpAny_newFunctionEnv S.cell (by intro y hy; simp at hy) (fun h₁ hns₁ hsb₁ => ?_) S.kind)
 dsimp only at hns₁ hsb₁ ⊢
 generalize hH2 : s.heap.push { cls := .type "list", dict := none, data := .seq ([] : List Value).toArray } = H2 at hns₁ hsb₁ ⊢
 have hC : H2.objs.size = s.heap.objs.size + 1 := by rw [<- hH2, Heap.size_push]
 have hDC : s.heap.objs.size ≠ H2.objs.size := by rw [hC]; exact N0 (Nat.lt_succ_self _)
 have hCle : s.heap.objs.size <= H2.objs.size := by rw [hC]; exact A12 _
 have below : ∀ b, b < s.heap.objs.size -> b ≠ H2.objs.size /\ b ≠ s.heap.objs.size := fun b hb => ⟨by rw [hC]; exact N0 (Nat.lt_succ_of_lt hb), N0 hb⟩
 have old : ∀ b o, s.heap.get? b = some o -> h₁.get? b = some o := fun b o e => hsb₁.extBut b o (below b (G8 e)).1 (S1 _ (hH2 ▸ S1 _ e))
 have hacc : h₁.get? s.heap.objs.size = some { cls := .type "list", data := .seq ([] : List Value).toArray } := hsb₁.extBut _ _ hDC (S1 _ (hH2 ▸ W1 _ rfl))
 have fplt : ∀ b ∈ fp, b < s.heap.objs.size := fun b hb => let ⟨_, e, _⟩ := T.obj 0 _ st b hb; G8 e
 have hcells : ∀ y ∈ scope.names, y.2 = .free -> ∃ c, X.env.cells.lookup y.1 = some c := fun y hy e => I.ok.has y.1 (.inl (S.free y hy e))
 have sub : ∀ y c, (Q7 X.env.cells scope.names []).lookup y = some c -> X.env.cells.lookup y = some c := B1w hcells (fun y c e => by cases e)
 let a : CA := ⟨s, H, H2.objs.size, fp⟩
 have ok : (K9 X scope N' a).Ok := by
  refine ⟨I.ok.mod, S.kind, I.ok.glob, I.ok.blt, hCle, fun y z c e1 e2 => I.ok.inj y z c (sub y c e1) (sub z c e2), fun y hy => ?_, fun y c z => ?_, I.ok.hd, I.ok.frames, .inl rfl, fun b hb => ⟨(below b (fplt b hb)).1, fun y c e => (f2 b hb).2.2.2.2.1 y c (sub y c e)⟩, I.bs,
   Y9 I.ok.bsz I.sz, fun b o e hb => ?_, fun b hb z => ?_, I.stack, I.stkFree⟩
  ·exact A8i (A01 hy S.cell)
  ·cases z
  ·rcases (f2 b hb).2.2.2.1 with z | z
   ·exact I.ok.noex b o e z
   ·exact absurd (Q5 (G8 (I.ok.bs b o e).1) z) (V3 _)
  ·rcases K1.mp (I.stkSub b z) with e | e
   ·exact (f2 b hb).2.1 e
   ·exact (f2 b hb).2.2.1 e
 have look : ∀ (h' : Heap) (m' : Str -> Option Value), (∀ y c, X.env.cells.lookup y = some c -> ∀ v, s.heap.IsCell c v -> h'.IsCell c v) -> ∀ (i : Nat) (y : Str) (v : V), N'[i]? = some y -> (Y1 σ)[i]? = some (some v) ->
   Vis (relabel scope X.env) y -> ∃ u, F7 v u /\ B09 (compEnvC scope (Q7 X.env.cells scope.names []) H2.objs.size X.env) h' m' y u := by
  intro h' m' kc i y v e1 e2 e3
  obtain ⟨hlt, e4⟩ := B5q e2
  rw [I.len] at hlt
  have e5 : X.N[i]? = some y := by
   rw [S.eqN, d6 hlt] at e1
   exact e1
  have nx : y ≠ x := fun z => by
   have q : N'[X.N.length]? = some x := by rw [S.eqN, Z0 (F6 _)]; simp
   exact absurd (A4u S.nd e1 (by rw [z]; exact q)) (N0 hlt)
  have ny : y ≠ y2 := fun z => by
   have q : N'[X.N.length + 1]? = some y2 := by rw [S.eqN, Z0 (A12 _)]; simp
   exact absurd (A4u S.nd e1 (by rw [z]; exact q)) (N0 (Nat.lt_succ_of_lt hlt))
  have hy : (y, NameKind.free) ∈ scope.names := by
   rcases e3 with e3 | e3 | e3
   ·rcases S.only _ (A43 e3) rfl with z | z | z
    ·exact absurd z nx
    ·exact absurd z ny
    ·exact absurd (N3 e1) z
   ·exact A01 (.inl e3) S.cell
   ·exact A01 (.inr e3) S.cell
  have kcell : X.env.scope.names.lookup y = some .cell := S.free _ hy rfl
  obtain ⟨m0, hn0, hl0⟩ := I.loc
  obtain ⟨u, r, l⟩ := hl0 i y v e5 e4 (.inr (.inl kcell))
  refine ⟨u, r, .inr ⟨?_, ?_⟩⟩
  ·rcases e3 with e3 | e3 | e3
   ·rcases S.only _ (A43 e3) rfl with z | z | z
    ·exact absurd z nx
    ·exact absurd z ny
    ·exact absurd (N3 e1) z
   ·exact .inl e3
   ·exact .inr e3
  ·rcases l with ⟨k, _⟩ | ⟨k, c, e, z⟩
   ·have k' : X.env.scope.names.lookup y = some .local := k
    rw [kcell] at k'; cases k'
   ·obtain ⟨c', e'⟩ := A8i (cells := X.env.cells) (cs := []) hy
    have e'' := sub y c' e'
    rw [e] at e''
    cases e''
    exact ⟨c, e', kc y c e _ z⟩
 have cellOld : ∀ y c, X.env.cells.lookup y = some c -> ∀ v, s.heap.IsCell c v -> h₁.IsCell c v := fun y c _ v zz245 => el2 zz245 fun o ho hd => ⟨o, old c o ho, hd⟩
 have fr0 : ∀ b, s.heap.objs.size <= b -> H b = none := fun b hb => I.hok.fresh hb
 have noPn : ∀ p, p ∉ (K9 X scope N' a).pn ++ ([] : List (Addr × Obj)) := fun p hp => by simp at hp
 have I0 : Inv (K9 X scope N' a) [] (Y1 σ) H { s with heap := h₁, toks := s.toks + ([] : List (Str × Value)).length } := by
  refine ⟨ok, rfl, I.bare, Un.kept old, ⟨_, hns₁, look h₁ _ cellOld⟩, fun y c e => ?_, fr0 _ hCle, fun y c e => I.freeC y c (sub y c e), fun p hp => absurd hp (noPn p), I.hok.kept old, by rw [S.eqN]; unfold Y1; rw [M7, M7, I.len]; rfl⟩
  obtain ⟨v, z⟩ := I.cell y c (sub y c e)
  exact ⟨v, cellOld y c (sub y c e) v z⟩
 obtain ⟨W, ⟨m0, w0⟩, turn⟩ := h
 have loop : ∀ s₃ : Shared, s₃ = { s with heap := h₁, toks := s.toks + ([] : List (Str × Value)).length } ->
   codeAny (model X.prog X.w) X.A (.compLoop (.ListComp elt [⟨.Tuple [.Name x px, .Name y2 py] kt pt, iter, ifs, 0⟩] scope pos) 0 (.ref it) (.ref s.heap.objs.size) (compEnvC scope (Q7 X.env.cells scope.names []) H2.objs.size X.env)) (RR (.ref s.heap.objs.size) H2.objs.size) s₃ := by
  rintro s₃ rfl
  refine B5f (fun k s' => ∃ (i : Nat) (ys : List V) (its : List Value) (n : Nat) (H' : Hp), Inv (K9 X scope N' a) [] (Y1 σ) H' s' /\ s'.heap.get? s.heap.objs.size = some { cls := .type "list", data := .seq its.toArray n } /\ D5 ys its /\
   H' s.heap.objs.size = none /\ tn i s'.heap /\ (∀ b ∈ fp, H' b = none) /\ W i k ys H') ?_ m0
   ⟨0, [], [], 0, H, I0, hacc, .nil, fr0 _ (F6 _), T.keep _ _ _ st fun b hb o e => old b o e, fun b hb => (f2 b hb).1, w0⟩
  rintro k s' ⟨i, ys, its, n, H', I', hD, rv, nD', st', fr', w'⟩ E'
  obtain ⟨hz, hw⟩ := turn i k ys H' w'
  have ownD : Own (K9 X scope N' a) [] H' s.heap.objs.size := ⟨nD', hDC, F6 _, fun y c e z => by
   obtain ⟨v, q⟩ := I.cell y c (sub y c e)
   exact absurd q.lt (by rw [z]; exact V3 _), fun p hp => absurd hp (noPn p)⟩
  have fpok : ∀ (pl : List (Addr × Obj)) (H'' : Hp), (∀ b ∈ fp, H'' b = none) -> (∀ p ∈ pl, p.1 ∉ fp) -> ∀ b ∈ fp, T0 (K9 X scope N' a) pl H'' b := fun pl H'' hn hpl b hb =>
   ⟨hn b hb, (below b (fplt b hb)).1, fun z => by
    rcases K1.mp (I.stkSub b z) with e | e
    ·exact (f2 b hb).2.1 e
    ·exact (f2 b hb).2.2.1 e, .inl hb, fun y c e => (f2 b hb).2.2.2.2.1 y c (sub y c e), fun p hp z => by
    have hp' : p ∈ pl := by simpa using hp
    exact hpl p hp' (z ▸ hb)⟩
  have nDfp : s.heap.objs.size ∉ fp := fun z => absurd (fplt _ z) (V3 _)
  have pinD : ∀ p ∈ ([(s.heap.objs.size, { cls := .type "list", data := .seq its.toArray n })] : List (Addr × Obj)), s'.heap.get? p.1 = some p.2 /\ H' p.1 = none /\ p.1 ≠ (K9 X scope N' a).env.locals /\ p.1 ∉ (K9 X scope N' a).fs /\ ∀ v, p.2.data ≠ .cell v := fun p hp => by
   have e : p = (s.heap.objs.size, { cls := .type "list", data := .seq its.toArray n }) := by simpa using hp
   subst e
   refine ⟨hD, nD', hDC, fun z => ?_, fun v z => by cases z⟩
   rcases K1.mp (I.stkSub _ z) with e | e
   ·exact absurd I.lt (by rw [<- e]; exact V3 _)
   ·exact I.nofs (F6 _) e
  have Ip := I'.pins_of pinD
  have hpl : ∀ p ∈ ([(s.heap.objs.size, { cls := .type "list", data := .seq its.toArray n })] : List (Addr × Obj)), p.1 ∉ fp := fun p hp => by
   have e : p = (s.heap.objs.size, { cls := .type "list", data := .seq its.toArray n }) := by simpa using hp
   subst e
   exact nDfp
  rcases hw with ⟨stop, q⟩ | ⟨go, N, hN, step⟩
  ·refine thn (T.done (K9 X scope N' a) rfl rfl rfl hc i _ s' _ H' E' Ip (fpok _ H' fr' hpl) st' stop) fun r s4 zz246 => zz246.elim fun hr I4 => ?_
   subst hr
   have hD4 := (I4.pin (s.heap.objs.size, { cls := .type "list", data := .seq its.toArray n }) (by simp)).1
   have J4 : Inv X pins σ H' s4 := I.call' (ch := fp) I4.os I4.base I4.hok I4.bare fun b hb => ⟨(f2 b hb).2.2.2.1, (f2 b hb).2.1, (f2 b hb).2.2.2.2.1, (f2 b hb).2.2.2.2.2⟩
   obtain ⟨m4, hn4, _⟩ := I4.loc
   have hC4 : H' H2.objs.size = none := I4.free
   exact hRR _ _ ys H' s4 m4 hn4 (I.own hCle (by rw [C4 (Ne.symm hDC)]; exact hC4)) (J4.track (I.own (F6 _) nD') hD4 rv hz) nD' q
  ·refine thn (T.item (K9 X scope N' a) rfl rfl rfl hc i _ s' _ H' E' Ip (fpok _ H' fr' hpl) st' go) fun r s5 zz247 => el2 zz247 fun u hr h5 => ?_
   subst hr
   refine thn h5 fun _ s6 zz248 => zz248.elim fun xv zz249 => zz249.elim fun H6 zz250 => zz250.elim fun I6 zz251 => zz251.elim fun r6 zz252 => zz252.elim fun y6 zz253 => zz253.elim fun st6 fr6 => ?_
   have I6' := I6.pinned (fpok _ H6 fr6 hpl) (T.obj _ _ st6)
   obtain ⟨pa, v1, v2, exv, hsq, step6⟩ := step xv H6 y6 a
   have hgt : A8f X.K 2 (j6 (W4 X.N.length) (j6 (W4 (X.N.length + 1)) A8e)) xv (Y1 σ) H6 (fun σ7 H7 => σ7 = ((Y1 σ).set X.N.length (some v1)).set (X.N.length + 1) (some v2) /\ H6 = H7) := ⟨pa, [v1, v2], exv, hsq, rfl, v1, [v2], rfl, v2, [], rfl, rfl, rfl, rfl⟩
   refine wpAny_mono (C14 S hc a _ s6 _ H6 xv u _ I6' r6 hgt) (fun _ s7 zz254 => el5 zz254 fun σ7 H7 I7 e7 e7' => ?_) fun _ _ z => z.elim
   subst e7 e7'
   have wk : ∀ (i : Nat) v, (Y1 σ)[i]? = some (some v) -> (((Y1 σ).set X.N.length (some v1)).set (X.N.length + 1) (some v2))[i]? = some (some v) := fun i v e => by
    have hlt := (B5q e).1
    rw [I.len] at hlt
    rw [S7 (by lia), S7 (by lia)]; exact e
   have e8 : ((Y1 σ).set X.N.length (some v1)).set (X.N.length + 1) (some v2) = σ ++ [some v1, some v2] := by
    unfold Y1
    rw [<- I.len, B30 _ _ (F6 _), B30 _ _ (by lia)]
    simp
   rw [<- e8] at step6
   refine wpAny_mono (ht a _ s7 _ H6 _ I7 step6) (fun ok s8 zz255 => el2 zz255 fun H8 I8 q8 => ?_) fun _ _ z => z.elim
   have tnk : ∀ {H9 : Hp} {s9 : Shared} {σ9 : St}, Inv (K9 X scope N' a) ([(s.heap.objs.size, { cls := .type "list", data := .seq its.toArray n })] ++ A4w fp s6.heap) σ9 H9 s9 -> tn (i + 1) s9.heap /\ (∀ b ∈ fp, H9 b = none) /\ s9.heap.get? s.heap.objs.size = some { cls := .type "list", data := .seq its.toArray n } /\ H9 s.heap.objs.size = none := fun {H9 s9 σ9} I9 => by
    refine ⟨T.keep _ _ _ st6 fun b hb o e => (I9.pin (b, o) (S8 _ (S8 _ (A4x hb e)))).1, fun b hb => ?_, ?_⟩
    ·obtain ⟨o, e, d⟩ := T.obj _ _ st6 b hb
     exact (I9.pin (b, o) (S8 _ (S8 _ (A4x hb e)))).2.1
    ·have z := I9.pin (s.heap.objs.size, { cls := .type "list", data := .seq its.toArray n }) (S8 _ (A84 _ (by simp)))
     exact ⟨z.1, z.2.1⟩
   cases ok with
   | false =>
    obtain ⟨m', hm, w8⟩ : ∃ m', m' < k /\ W (i + 1) m' ys H8 := hN _ _ (by simpa using q8)
    obtain ⟨t1, t2, t3, t4⟩ := tnk I8
    exact ⟨m', hm, i + 1, ys, its, n, H8, (I8.pins_of (pins' := []) fun p hp => nomatch hp).weak (by rw [L9, L9]) wk, t3, rv, t4, t1, t2, w8⟩
   | true =>
    have q8' := q8
    simp only [if_true] at q8'
    refine wpAny_mono (he a _ s8 _ H8 _ I8 q8') (fun u9 s9 zz256 => el5 zz256 fun v9 H9 I9 r9 q9 => ?_) fun _ _ z => z.elim
    obtain ⟨m', hm, w9⟩ := hN _ _ q9
    obtain ⟨t1, t2, t3, t4⟩ := tnk I9
    have hl := rv.length
    refine append_at (hsz := by show its.toArray.size <= sizeLine; rw [O1, <- hl]; exact hz) t3 fun h' hs' hD' => ?_
    have J9 := ((I9.pins_of (pins' := []) fun p hp => nomatch hp).weak (σ' := Y1 σ) (by rw [L9, L9]) wk).own_turn (C := s.heap.objs.size) ⟨t4, ownD.ne, ownD.ab, ownD.ce, ownD.pi⟩ hs'
    refine ⟨m', hm, i + 1, ys ++ [v9], its ++ [u9], n + 1, H9, J9, ?_, D5.append rv (.cons r9 .nil), t4, T.keep _ _ _ t1 fun b hb o e => (hs'.2 b fun z => nDfp (z ▸ hb)).trans e, t2, w9⟩
    rw [List.push_toArray] at hD'
    exact hD'
 exact codeAny_compStart_list (loop _ rfl) (T.self _ 0 _ _ _ (T.keep _ _ _ st fun b hb o e => old b o e) (loop _ rfl))
theorem B5s {elt iter : Expr} {x y : Str} {px py pt pos : Pos} {kt} {ifs : List Expr} {scope : Scope} {N' : List Str} {wi : TI} {tt : CA -> TT} {te : CA -> TE} {osc : Scope} {N : List Str}
  (S : A19 N N' osc scope x y) (hc : X.calm = true) (hi : PI X (.Tuple [.Name x px, .Name y py] kt pt) iter wi) (ht : ∀ a : CA, PTs (K9 X scope N' a) ifs (tt a)) (he : ∀ a : CA, PE (K9 X scope N' a) elt (te a))
  (ho : X.env.scope = osc := by rfl) (hN : X.N = N := by rfl) (hs : ∀ x, foldedSetIterable iter X.env x = pure x := by intro _; rfl) : PE X (.ListComp elt [⟨.Tuple [.Name x px, .Name y py] kt pt, iter, ifs, 0⟩] scope pos) (B13 X.K wi tt te) := by
 subst ho hN
 intro pins s σ H Q I h
 rw [eval_ListComp]
 have hcells : ∀ y ∈ scope.names, y.2 = .free -> ∃ c, X.env.cells.lookup y.1 = some c := fun y hy e => I.ok.has y.1 (.inl (S.free y hy e))
 refine wpAny_comprehension_free (use := none) rfl hs (B1v hcells) S.kind S.names (wpAny_mono (hi pins s σ H _ I h) (fun xv s₁ h₁ => wpAny_mono h₁ (fun itv s₂ h₂ => ?_) fun _ _ e => e) fun _ _ e => e)
 obtain ⟨it, fp, tn, J, H2, rfl, I2, T, st2, f2, q2⟩ := h₂
 refine C15 (RR := fun acc C => compPost (model X.prog X.w) X.A X.xe none (EP X pins σ Q) acc C) S hc ht he I2 T st2 f2 q2 ?_
 intro D C ys H' s' m hn own I' hD q
 refine ⟨m, hn, fun h' hs' => ⟨.ref D, _, I'.own_turn own hs', rfl, q D hD⟩⟩
end
end L2
namespace L2
open PySem PySem.Spec PyProof.Rows
section
variable {X : Cx} {pins : List (Addr × Obj)} {σ : St} {H : Hp} {s : Shared}
end
end L2
namespace L2
open PySem PySem.Spec PyProof.Rows
section
variable {X : Cx}
theorem B5t (hc : X.calm = true) : X6 X (.builtin "any") (fun xs H Q => ∃ (p : Addr) (bs : List Bool), xs = [.ref p] /\ SqL X.K H p (bs.map V.bl) /\ Q (.bl (bs.any id)) H) := by
 intro pins s σ H xs us Q I r h
 obtain ⟨p, bs, rfl, hq, q⟩ := h
 obtain ⟨u, rfl, rx⟩ := X8 r
 cases rx
 obtain ⟨its, rv, pl, hz⟩ := I.list hq
 have hb := B1y rv
 have hl := pl.isList
 have hlt : p < s.heap.objs.size := by obtain ⟨_, e, _⟩ := hl; exact G8 e
 refine call_any_walk (wpAny_pyIter_list hl ?_)
 refine ⟨s.heap.objs.size, [s.heap.objs.size, p], [s.heap.objs.size], its.toArray.size, _, _, fun i => (bs[i]?).getD false, rfl, Walks.list (A := X.A.in1) (I.ok.hd hc) _ p (N0 hlt) its.toArray,
  ⟨⟨_, W1 _ rfl, rfl, rfl⟩, hl.push _⟩, fun i v s' Q' E' hP hQ => ?_, fun h' tk hk => ?_⟩
 ·obtain ⟨b, e, rfl⟩ := hb.get i v (by simpa using hP)
  simp only [e, Option.getD_some] at hQ
  exact wpAny_truthy_bool hQ
 ·have e : ((P6 its.toArray.size).any fun i => (bs[i]?).getD false) = bs.any id := by
   rw [O1, hb.length, A75, List.any_eq_true, List.any_eq_true]
   constructor
   ·rintro ⟨i, hi, hv⟩
    rw [X4] at hi
    rw [J5 hi] at hv
    exact ⟨bs[i], List.getElem_mem hi, hv⟩
   ·rintro ⟨b, hb1, hb2⟩
    obtain ⟨i, hi, rfl⟩ := p5.mp hb1
    exact ⟨i, X4.mpr hi, by rw [J5 hi]; exact hb2⟩
  rw [e]
  exact ⟨.bl _, H, I.kept (t' := tk) (LSm.kept_iter hk), rfl, q⟩
def B5u (K : A4) : V -> List V -> Hp -> VK -> Prop := fun x vs H Q => ∃ (l : Addr) (ns : List Int) (k : Int), x = .ref l /\ vs = [.int k] /\ SqL K H l (ns.map V.int) /\ k ∈ ns /\ ns.length <= 100000 /\ Q (.int (ns.idxOf k : Nat)) H
theorem B5v : MtM X "list.index" (B5u X.K) := by
 intro pins s σ H x vs v us Q I rx rv h
 obtain ⟨l, ns, k, rfl, rfl, hq, hk, hn, q⟩ := h
 cases rx
 obtain ⟨u, rfl, t, rfl⟩ := X8 rv
 obtain ⟨its, r, pl, hz⟩ := I.list hq
 have hi := C09 r
 obtain ⟨⟨cls, dd, data, sl⟩, ho, hc, n, hd⟩ := pl.isList
 simp only at hc hd
 subst hc hd
 have hlen := hi.length
 have hj : ns.idxOf k < ns.length := B03.mpr hk
 refine call_meets B9l ⟨_, ho, rfl⟩ PySem.F.entry_list_index (PySem.F.args_list_index_2 _ _)
  (SeqAt.list_indexAt l its.toArray n dd sl (.int k t) (isInt k) (ns.idxOf k) (by simpa [hlen] using hj) (by lia) ?_ ?_) ⟨ho, fun y hy => (eq_isInt k t hi y (by simpa using hy)).at _ _, ⟨.int _, H, I.tok _, ⟨_, rfl⟩, q⟩⟩
 ·show isInt k its[ns.idxOf k] = true
  rw [isInt_at k hi _ (by lia) hj]
  simpa using B9m hj
 ·intro j hjs hlt
  show isInt k its[j] = false
  rw [isInt_at k hi j (by simpa using hjs) (by lia)]
  exact ne_of_lt_idxOf hlt _
theorem C16 : OpR X (compareOp .Is) (fun x y H Q => ∃ b c : Bool, x = .bl b /\ y = .bl c /\ Q (.bl (b == c)) H) := by
 intro pins s σ H x y v u Q I rx ry h
 obtain ⟨b, c, rfl, rfl, q⟩ := h
 cases rx
 cases ry
 have e : (Value.bool b == Value.bool c) = (b == c) := by cases b <;> cases c <;> rfl
 exact wpAny_pure ⟨.bl _, H, I, rfl, by rw [e]; exact q⟩
end
end L2
namespace L2
open PySem PySem.Spec PyProof.Rows
inductive A8l (K : A4) (H : Hp) : V -> Value -> Prop where
 | o {x : V} {t : Value} : X9 K H x t -> A8l K H x t
 | f {a : Addr} {o : Obj} {kvs : List (List Key × V)} : H a = some (.frz o (.dT kvs)) -> A8l K H (.ref a) (.type "dict")
section
variable {X : Cx}
theorem u8 : X6 X (.builtin "isinstance") (fun xs H Q => ∃ x cv c t b, xs = [x, cv] /\ F7 cv c /\ A8l X.K H x t /\ A4n X.K t c = some b /\ Q (.bl b) H) := by
 intro pins s σ H xs us Q I r h
 obtain ⟨x, cv, c, t, b, rfl, rc, ty, k, q⟩ := h
 obtain ⟨u, w', rfl, r1, r2⟩ := B1m r
 have e : w' = c := by
  cases cv with
  | non => exact r2.trans rc.symm
  | bl y => exact r2.trans rc.symm
  | ref y => exact r2.trans rc.symm
  | ty y => exact r2.trans rc.symm
  | int y =>
   obtain ⟨t1, rfl⟩ := rc
   exfalso
   unfold A4n B31 at k
   cases ty with
   | o ty => cases ty <;> simp at k
   | f e => simp at k
  | str y =>
   obtain ⟨t1, rfl⟩ := rc
   exfalso
   unfold A4n B31 at k
   cases ty with
   | o ty => cases ty <;> simp at k
   | f e => simp at k
  | byt y =>
   obtain ⟨t1, rfl⟩ := rc
   exfalso
   unfold A4n B31 at k
   cases ty with
   | o ty => cases ty <;> simp at k
   | f e => simp at k
  | flt y =>
   obtain ⟨t1, rfl⟩ := rc
   exfalso
   unfold A4n B31 at k
   cases ty with
   | o ty => cases ty <;> simp at k
   | f e => simp at k
 subst e
 cases ty with
 | o ty => exact C00 I r1 ty k fun tk => ⟨.bl b, H, I.tok tk, rfl, q⟩
 | @f a o kvs ea =>
  cases (show u = Value.ref a from r1)
  obtain ⟨_, _, _, xs, _, o', es, ep, h1, h2, _⟩ := (show O4 X.prog X.w H s.heap a (.frz o (.dT kvs)) from I.hok a _ ea)
  exact j2 PySem.W.kitx_dict I.kIn ⟨o', h1, h2.1⟩ k (fun z => nomatch z) fun tk => ⟨.bl b, H, I.tok tk, rfl, q⟩
theorem B5w (hg : X.A.guards = some []) (hu : X.A.units + 64 < cLine) : X6 X (.builtin "repr") (fun xs H Q => ∃ (a : Addr) (ds : List PyData), xs = [.ref a] /\ U8 X.K H (.ref a) (.list ds) /\ PyData.canLay0 (.list ds) = true /\ PyData.showable (.list ds) = true /\ PyData.depth (.list ds) <= 60 /\ (PyData.shown (.list ds)).length <= sizeLine /\ Q (.str (PyData.shown (.list ds))) H) := by
 intro pins s σ H xs us Q I r h
 obtain ⟨a, ds, rfl, t, c, sh, dp, sz, q⟩ := h
 obtain ⟨u, rfl, rx⟩ := X8 r
 cases rx
 obtain ⟨as, ra⟩ := U8.reads I t rfl
 exact repr_of_reads' ra sh (PyData.noDict_hsm (PyData.hasDict_of_canLay _ c)) hg (by omega) (fun _ _ e => e) (fun h' u tk hk => ⟨.str _, H, I.kept (t' := tk) hk, ⟨_, rfl⟩, q⟩) sz
end
end L2
namespace L2
open PySem PySem.Spec PyProof.Rows
section
variable {X : Cx}
theorem D5.rev : ∀ {xs : List V} {us : List Value}, D5 xs us -> D5 xs.reverse us.reverse
 | _, _, .nil => .nil
 | _ :: xs, _ :: us, .cons r t => by
  rw [B32, B32]
  exact (D5.rev t).append (.cons r .nil)
end
end L2
namespace L2
open PySem PySem.Spec PyProof.Rows
theorem C17 : typeLookup (.type "list_reverseiterator") "__len__" = pure none := by
 rw [typeLookup_type, builtinLookup_eq_fast]; kernel_rfl
theorem C18 : typeLookup (.type "list_reverseiterator") "__length_hint__" = pure (some (.builtin "list_reverseiterator.__length_hint__")) := by
 rw [typeLookup_type, builtinLookup_eq_fast]; kernel_rfl
section
variable {prog : Program} {w : World} {A : Around} {E : Value -> Shared -> Prop} {s : Shared}
theorem C19 {r l : Addr} {i : Int} {Q : Bool -> Shared -> Prop} (hr : s.heap.IsRevIter r l i) (h : ∀ tk, Q false { s with toks := tk }) : wpAny (model prog w) A (Builtin.List.listLengthHint (.ref r)) Q E s := by
 have hT := hr.typeIs
 unfold Builtin.List.listLengthHint
 refine wpAny_bind (wpAny_specialOf hT C17 ?_)
 show wpAny _ A (specialOf (Value.ref r) (Str.ofString "__length_hint__") >>= _) _ _ _
 refine wpAny_bind (wpAny_specialOf hT C18 ?_)
 generalize hid : ("list_reverseiterator.__length_hint__" : String) = id0
 wp_delta
 rw [show splitId id0 = some ("list_reverseiterator", "__length_hint__") from by subst hid; decide +kernel]
 subst hid
 refine wpAny_bind (wpAny_isInstance (b := true) hT (by rw [isSubtype_type]; kernel_rfl) ?_)
 exact wpAny_pure (h s.toks)
theorem C2a {r l : Addr} {items : Array Value} {Q : Value -> Shared -> Prop} (hh : A.handled = none) (hr : s.heap.IsRevIter r l ((items.size : Int) - 1)) (hl : s.heap.IsList l items) (hne : l ≠ r) (hz : items.size <= sizeLine)
  (hQ : ∀ (h' : Heap) (tk : Nat) (acc : Array Value) (c : Nat), (∀ b o, b ≠ r -> s.heap.get? b = some o -> h'.get? b = some o) -> h'.get? s.heap.objs.size = some { cls := .type "list", dict := none, data := .seq acc c, slots := #[] } ->
   ItemsOf (fun i v => items[items.size - 1 - i]? = some v) acc items.size -> Q (.ref s.heap.objs.size) { s with heap := h', toks := tk }) : wpAny (model prog w) A (call (.type "list") [.ref r]) Q E s := by
 have rlt : r < s.heap.objs.size := by obtain ⟨_, q, _⟩ := hr; exact G8 q
 have llt : l < s.heap.objs.size := by obtain ⟨_, q, _⟩ := hl; exact G8 q
 refine callType_codes (Q₁ := fun obj t => obj = .ref s.heap.objs.size /\ t = { s with heap := s.heap.push { cls := .type "list", data := .seq #[] } }) F.called_list (F.typeCall_list_1 _) F.entry_list_init (code_list_new _ ⟨rfl, rfl⟩) fun obj t ht => ?_
 obtain ⟨rfl, rfl⟩ := ht
 have hS : (s.heap.push { cls := .type "list", data := .seq #[] }).get? s.heap.objs.size = some { cls := .type "list", data := .seq #[] } := W1 _ rfl
 refine ⟨⟨_, hS, rfl⟩, F.args_list_init_2 _ _, ?_⟩
 generalize hh2 : s.heap.push { cls := .type "list", data := .seq #[] } = h2 at hS
 have old : ∀ b o, s.heap.get? b = some o -> h2.get? b = some o := fun b o e => hh2 ▸ S1 _ e
 have hSr : s.heap.objs.size ≠ r := B0y rlt
 have hSl : s.heap.objs.size ≠ l := B0y llt
 show wpAny _ _ (do let was <- Builtin.List.listItems (.ref s.heap.objs.size); Builtin.List.listUpdate (.ref s.heap.objs.size) (fun _ => #[]); letGo was.toList.reverse; Builtin.List.listExtendWith (.ref s.heap.objs.size) (.ref r) .none) _ _ _
 refine wpAny_bind ?_
 unfold Builtin.List.listItems
 refine wpAny_bind (wpAny_seqItems hS rfl (wpAny_pure ?_))
 show wpAny _ _ (updateSeq s.heap.objs.size (fun _ => #[]) >>= fun _ => letGo (#[] : Array Value).toList.reverse >>= fun _ => Builtin.List.listExtendWith (.ref s.heap.objs.size) (.ref r) .none) _ _ _
 refine wpAny_bind (wpAny_updateSeq hS rfl ?_)
 have hS3 := Heap.get?_update_self (A4o (fun _ => (#[] : Array Value))) hS rfl
 refine wpAny_bind (wpAny_letGo ?_)
 have oth : ∀ b o, b ≠ s.heap.objs.size -> h2.get? b = some o -> (h2.update s.heap.objs.size (A4o (fun _ => (#[] : Array Value)))).get? b = some o := fun b o n e => (B9j _ _ (Ne.symm n)).trans e
 generalize h2.update s.heap.objs.size (A4o (fun _ => (#[] : Array Value))) = h3 at hS3 oth
 have old3 : ∀ b o, s.heap.get? b = some o -> h3.get? b = some o := fun b o e => oth b o (N0 (G8 e)) (old b o e)
 have hr3 : h3.IsRevIter r l ((items.size : Int) - 1) := hr.at fun o e => old3 r o e
 have hl3 : h3.IsList l items := hl.at fun o e => old3 l o e
 have W := (Walks.listRev (prog := prog) (w := w) (A := A.in1.in1) hh r l hne items).toS
 unfold Builtin.List.listExtendWith
 refine wpAny_bind (wpAny_typeOf (T := "list_reverseiterator") (s := { s with heap := h3 }) hr3.typeIs ?_)
 have z1 : Builtin.List.listSameRef (.ref s.heap.objs.size) (.ref r) = false := by simp [Builtin.List.listSameRef, hSr]
 rw [if_neg (by rw [z1]; decide)]
 refine wpAny_bind (wpAny_pyIter_revIter (s := { s with heap := h3 }) hr3 ?_)
 refine wpAny_bind (wpAny_holding (C19 (s := { s with heap := h3 }) hr3 fun tk => ?_))
 rw [if_neg (by decide)]
 have nf : s.heap.objs.size ∉ [r, l] := fun q => by
  rcases K1.mp q with e | e
  ·exact hSr e
  ·exact hSl (by simpa using e)
 have st0 : 0 <= items.size /\ h3.IsRevIter r l ((items.size : Int) - 1 - ((0 : Nat) : Int)) /\ h3.IsList l items := ⟨M8 _, by simpa using hr3, hl3⟩
 refine wpAny_pure ⟨plainId_quiet F.plain_extend_loop _, codeAny_extend_loopS W hz _ nf _ items.size 0 _ _ _ rfl (M8 _) st0 hS3 (ItemsOf.nil _) fun s' acc c hm hS' hacc => ?_⟩
 rw [Moved.eq_with hm]
 refine ⟨rfl, hQ s'.heap s'.toks acc c (fun b o n e => hm.heap b o (fun q => ?_) (old3 b o e)) hS' hacc⟩
 rcases K1.mp q with z | z
 ·exact N0 (G8 e) z
 ·exact n (by simpa using z)
end
theorem B5x : bootBuiltins "reversed" = some (.type "reversed") := by decide +kernel
theorem C2b {items : Array Value} {acc : Array Value} (h : ItemsOf (fun i v => items[items.size - 1 - i]? = some v) acc items.size) : acc.toList = items.toList.reverse := by
 have hl : acc.size = items.size := h.1
 apply B33
 intro i
 by_cases c : i < items.size
 ·have ha : i < acc.size := by lia
  have e := h.2 i acc[i] (Array.getElem?_eq_getElem ha)
  rw [List.getElem?_reverse (by rw [A85]; exact c), A85, Array.getElem?_toList, Array.getElem?_toList, Array.getElem?_eq_getElem ha]
  exact e.symm
 ·rw [U5 (by rw [A85]; lia), U5 (by rw [A77, A85]; lia)]
section
variable {X : Cx}
theorem C2c {e : Expr} {te : TA} {p1 p2 p3 p4 : Pos} (hg1 : Gl X "list") (hm1 : X.mg "list" = none) (hg2 : Gl X "reversed") (hm2 : X.mg "reversed" = none) (hc : X.calm = true) (he : PA X [e] te) (hs : starEach [e] X.env = [(false, eval e X.env)] := by rfl)
  (hs2 : starEach [.Call (.Name "reversed" p2) [e] [] p3] X.env = [(false, eval (.Call (.Name "reversed" p2) [e] [] p3) X.env)] := by rfl) : PE X (.Call (.Name "list" p1) [.Call (.Name "reversed" p2) [e] [] p3] [] p4)
   (fun σ H Q => te σ H fun vs H1 => ∃ a xs, vs = [.ref a] /\ SqL X.K H1 a xs /\ ∀ p, H1 p = none -> Q (.ref p) (upd H1 p (.lst xs.reverse))) := by
 intro pins s σ H Q I h
 refine Call_ (p9 I hg1 hm1 W6 (PyProof.Rows.callWith_type1 ?_ hs2 rfl))
 rw [hs2]
 show wpAny _ _ (spliced [(false, eval (.Call (.Name "reversed" p2) [e] [] p3) X.env)]) _ _ s
 refine Calls.spliced_cons ?_
 refine Call_ (p9 I hg2 hm2 B5x (PyProof.Rows.callWith_type1 (thn (he p3 pins s σ H _ I h) fun us s1 zz271 => el5 zz271 fun vs H1 I1 r1 q1 => ?_) hs rfl))
 obtain ⟨a, xs, rfl, hq, q⟩ := q1
 obtain ⟨u, rfl, rx⟩ := X8 r1
 cases rx
 obtain ⟨its, rv, pl, hz⟩ := I1.list hq
 have alt : a < s1.heap.objs.size := by obtain ⟨_, z, _⟩ := pl.isList; exact G8 z
 refine call_reversed_list pl.isList (Calls.spliced_nil ?_)
 have hr : (s1.heap.push (revObj a ((its.toArray.size : Int) - 1))).IsRevIter s1.heap.objs.size a ((its.toArray.size : Int) - 1) := ⟨_, W1 _ rfl, rfl, rfl⟩
 have hl2 : (s1.heap.push (revObj a ((its.toArray.size : Int) - 1))).IsList a its.toArray := pl.isList.push _
 have hsz : (s1.heap.push (revObj a ((its.toArray.size : Int) - 1))).objs.size = s1.heap.objs.size + 1 := Heap.size_push ..
 refine C2a (s := { s1 with heap := s1.heap.push (revObj a ((its.toArray.size : Int) - 1)) }) (I1.ok.hd hc) hr hl2 (N0 alt) (by rw [O1, <- rv.length]; exact hz) fun h' tk acc c hk hS hacc => ?_
 have eq := C2b hacc
 refine ⟨.ref _, _, I1.laid (t' := tk) (o := .lst xs.reverse) (fun b o z => hk b o (N0 (G8 z)) (S1 _ z)) (by show s1.heap.objs.size <= _; rw [hsz]; exact A12 _) (show O4 X.prog X.w _ h' _ (.lst xs.reverse) from ⟨by rw [A77]; exact hz, acc.toList, c, ?_, by simpa using hS⟩), rfl, q _ (I1.hok.fresh (by show s1.heap.objs.size <= _; rw [hsz]; exact A12 _))⟩
 rw [eq]
 exact D5.rev rv
def Itv (K : A4) (a : Addr) (n : Nat) : It :=
 ⟨fun i H => ∃ xs x, SqL K H a xs /\ xs.length = n /\ xs.reverse[i]? = some x, fun i H x H' => H' = H /\ ∀ xs, SqL K H a xs -> xs.reverse[i]? = some x, fun i _ => n <= i⟩
theorem C2d {P : Program} {w : World} {K : A4} {tg : Expr} (a it : Addr) (n : Nat) : A0s P w K tg (Itv K a n) [it] it (fun i h => i <= n /\ h.IsRevIter it a ((n : Int) - 1 - ((i : Nat) : Int))) where
 mem := by simp
 obj := fun i h st b hb => by
  have e : b = it := by simpa using hb
  subst e
  obtain ⟨_, o, e, c, d⟩ := st
  exact ⟨o, e, fun v z => by rw [d] at z; cases z⟩
 keep := fun i h h' st k => ⟨st.1, st.2.at fun o e => k it (by simp) o e⟩
 item := by
  intro X hP hw hK hc i pins s σ H E I hf st hg
  subst hP hw hK
  obtain ⟨xs, x, hq, hn, hx⟩ := hg
  obtain ⟨its, rv, p, hz⟩ := I.list hq
  have hil : i < n := by
   have := (A1z.mp hx).1
   rw [A77, hn] at this
   exact this
  have hx' : xs[n - 1 - i]? = some x := by rw [List.getElem?_reverse (by lia), hn] at hx; exact hx
  obtain ⟨u, hu, ru⟩ := rv.get hx'
  obtain ⟨f0, f1, f2, f3, f4, f5⟩ := hf it (by simp)
  have ei : (n : Int) - 1 - ((i : Nat) : Int) = ((n - 1 - i : Nat) : Int) := by lia
  refine wpAny_pyNext_rev_item (i := n - 1 - i) (by rw [<- ei]; exact st.2) p.isList (x := u) (by simpa using hu) fun h' st' sb => ?_
  have I1 : Inv X pins σ H { s with heap := h' } := I.turned (t' := s.toks) (fun b o hb e => (sb.2 b hb).trans e) f0 f1 f3 f4 f5
  obtain ⟨o, e, c, d⟩ := id st'
  have ej : ((n - 1 - i : Nat) : Int) - 1 = (n : Int) - 1 - ((i + 1 : Nat) : Int) := by lia
  exact ⟨u, rfl, B1h (s := { s with heap := h' }) e c d (by decide) ⟨x, H, I1, ru, ⟨rfl, fun ys hy => by rw [I.list_inj hy hq]; exact hx⟩, ⟨hil, by rw [<- ej]; exact st'⟩, fun b hb => (hf b hb).1⟩⟩
 done := by
  intro X hP hw hK hc i pins s σ H E I hf st hg
  subst hP hw hK
  obtain ⟨f0, f1, f2, f3, f4, f5⟩ := hf it (by simp)
  have e : i = n := Nat.le_antisymm st.1 hg
  have em : (n : Int) - 1 - ((i : Nat) : Int) = -1 := by lia
  exact wpAny_pyNext_rev_end (I.ok.hd hc) (by rw [<- em]; exact st.2) fun h' eb => ⟨rfl, I.turned (t' := s.toks) (fun b o hb e => eb b o hb e) f0 f1 f3 f4 f5⟩
 self := fun _ _ _ _ _ st h => wpAny_pyIter_revIter st.2 h
def B5y (K : A4) (ta : TA) : TI := fun σ H R => ta σ H fun vs H1 => ∃ a xs, vs = [.ref a] /\ SqL K H1 a xs /\ R (Itv K a xs.length) H1
theorem C2e {tg a : Expr} {ta : TA} {p pos : Pos} (hg : Gl X "reversed") (hm : X.mg "reversed" = none) (ha : PA X [a] ta) (hs : starEach [a] X.env = [(false, eval a X.env)] := by rfl) : PI X tg (.Call (.Name "reversed" p) [a] [] pos) (B5y X.K ta) := by
 intro pins s σ H R I h
 refine Call_ (p9 I hg hm B5x (PyProof.Rows.callWith_type1 (thn (ha pos pins s σ H _ I h) fun us s1 zz272 => el5 zz272 fun vs H1 I1 r1 q1 => ?_) hs rfl))
 obtain ⟨a', xs, rfl, hq, q⟩ := q1
 obtain ⟨u, rfl, rx⟩ := X8 r1
 cases rx
 obtain ⟨its, rv, pl, hz⟩ := I1.list hq
 have en : ((its.toArray.size : Nat) : Int) - 1 = ((xs.length : Nat) : Int) - 1 := by rw [O1, <- rv.length]
 refine call_reversed_list pl.isList ?_
 rw [en]
 have hr : (s1.heap.push (revObj a' ((xs.length : Int) - 1))).IsRevIter s1.heap.objs.size a' ((xs.length : Int) - 1) := ⟨_, W1 _ rfl, rfl, rfl⟩
 refine wpAny_pyIter_revIter (s := { s1 with heap := s1.heap.push (revObj a' ((xs.length : Int) - 1)) }) hr ?_
 refine ⟨_, [s1.heap.objs.size], _, _, H1, rfl, I1.kept (t' := s1.toks) fun b o e => S1 _ e, C2d a' _ xs.length, ⟨M8 _, by simpa using hr⟩, fun b hb => ?_, q⟩
 have e : b = s1.heap.objs.size := by simpa using hb
 subst e
 exact I1.fpOk (F6 _) (I1.hok.fresh (F6 _))
end
end L2
namespace L2
open PySem PySem.Spec PyProof.Rows
section
variable {X : Cx} {pins : List (Addr × Obj)} {σ : St} {H : Hp} {s : Shared}
end
end L2
namespace L2
open PySem PySem.Spec PyProof.Rows
section
variable {prog : Program} {w : World} {A : Around} {E : Value -> Shared -> Prop} {s : Shared}
end
section
variable {prog : Program} {w : World} {A : Around} {R : Result -> Shared -> Prop} {I : Addr} {fp wr : List Addr} {n : Nat} {P : Nat -> Value -> Prop} {St : Nat -> Heap -> Prop}
end
section
variable {X : Cx}
end
end L2
namespace L2
open PySem PySem.Spec PyProof.Rows
section
variable {X : Cx} {pins : List (Addr × Obj)} {σ : St} {H : Hp} {s : Shared} {h' : Heap}
theorem Inv.turnedN {t' : Nat} {L : List Addr} (I : Inv X pins σ H s) (k : ∀ b o, b ∉ L -> s.heap.get? b = some o -> h'.get? b = some o) (f : ∀ b ∈ L, T0 X pins H b) : Inv X pins σ H { s with heap := h', toks := t' } := by
 have nL : ∀ b u, H b = some u -> b ∉ L := fun b u e z => by rw [(f b z).1] at e; cases e
 refine I.step (g' := s.gens) (d' := s.drawn) (ch := L) (fun b hb => ?_) (fun b o _ _ hc e _ => k b o hc e) (fun b o _ _ hc e _ => ⟨o.slots, k b o hc e⟩) (fun _ _ _ _ n => n)
  (fun b o hc e => ⟨o, k b o hc e⟩) (fun _ _ e => e) (fun _ _ _ e => e) (fun b ps e => ⟨#[], by rw [e]; simp⟩) (fun m hm => ?_) (fun b u q => ?_) I.bare
 ·obtain ⟨e0, e1, e2, e3, e4, e5⟩ := f b hb
  exact ⟨e3, e1, e4, e5⟩
 ·obtain ⟨o, es, ep, ho, r⟩ := hm
  refine ⟨o, es, ep, k _ o (fun z => ?_) ho, r⟩
  obtain ⟨e0, e1, e2, e3, e4, e5⟩ := f _ z
  exact e1 rfl
 ·refine (I.hok b u q).stay (fun c v hc z => k c v ?_ z) (fun _ z => z) fun _ _ z => z
  rcases hc with z | z
  ·rw [z]; exact nL b u q
  ·exact nL c _ z
end
def Itz (K : A4) (a b : Addr) : It :=
 ⟨fun i H => ∃ xs ys x y, SqL K H a xs /\ SqL K H b ys /\ xs[i]? = some x /\ ys[i]? = some y, fun i H x H' => ∃ p u v, x = .ref p /\ H p = none /\ H' = upd H p (.tup [u, v]) /\ ∀ xs ys, SqL K H a xs -> SqL K H b ys -> xs[i]? = some u /\ ys[i]? = some v, fun i H => ∃ xs ys, SqL K H a xs /\ SqL K H b ys /\ (xs.length <= i \/ ys.length <= i)⟩
theorem C2f {P : Program} {w : World} {K : A4} {elts : List Expr} {x1} {tpos : Pos} (l1 l2 z TI TO i1 i2 : Addr) (D : ZipApart z TI TO i1 i2 l1 l2) :
  A0s P w K (.Tuple elts x1 tpos) (Itz K l1 l2) [z, TI, TO, i1, i2] z (fun i h => IsZip h z TI TO .none /\ IsPair h TI (.ref i1) (.ref i2) /\ (∃ a b, IsPair h TO a b) /\ h.IsListIter i1 l1 i /\ h.IsListIter i2 l2 i) where
 mem := by simp
 obj := fun i h st b hb => by
  obtain ⟨hz, hTI, ⟨a, b', hTO⟩, ⟨o1, e1, _, d1⟩, ⟨o2, e2, _, d2⟩⟩ := st
  simp at hb
  rcases hb with rfl | rfl | rfl | rfl | rfl
  ·exact ⟨_, hz, fun v z => by cases (show Data.fields _ = Data.cell v from z)⟩
  ·exact ⟨_, hTI, fun v z => by cases (show Data.seq _ _ = Data.cell v from z)⟩
  ·exact ⟨_, hTO, fun v z => by cases (show Data.seq _ _ = Data.cell v from z)⟩
  ·exact ⟨o1, e1, fun v z => by rw [d1] at z; cases z⟩
  ·exact ⟨o2, e2, fun v z => by rw [d2] at z; cases z⟩
 keep := fun i h h' st k => by
  obtain ⟨hz, hTI, ⟨a, b, hTO⟩, h1, h2⟩ := st
  exact ⟨k z (by simp) _ hz, k TI (by simp) _ hTI, ⟨a, b, k TO (by simp) _ hTO⟩, h1.at fun o q => k i1 (by simp) o q, h2.at fun o q => k i2 (by simp) o q⟩
 item := by
  intro X hP hw hK hc i pins s σ H E I hf st hg
  subst hP hw hK
  obtain ⟨hz, hTI, ⟨a0, b0, hTO⟩, h1, h2⟩ := st
  obtain ⟨xs, ys, x, y, hq1, hq2, hx, hy⟩ := hg
  obtain ⟨its1, rv1, p1, _⟩ := I.list hq1
  obtain ⟨its2, rv2, p2, _⟩ := I.list hq2
  obtain ⟨u, hu, ru⟩ := rv1.get hx
  obtain ⟨v, hv, rw'⟩ := rv2.get hy
  have lt : ∀ b ∈ [z, TI, TO, i1, i2], b < s.heap.objs.size := fun b hb => by
   simp at hb
   rcases hb with rfl | rfl | rfl | rfl | rfl
   ·exact G8 hz
   ·exact G8 hTI
   ·exact G8 hTO
   ·obtain ⟨_, q, _⟩ := id h1; exact G8 q
   ·obtain ⟨_, q, _⟩ := id h2; exact G8 q
  refine wpAny_pyNext_zip_item D hz hTI hTO h1 h2 p1.isList p2.isList (x := u) (y := v) (by simpa using hu) (by simpa using hv) fun h' a1 a2 a3 a4 a5 a6 hk => ?_
  refine ⟨_, rfl, wpAny_letOwnedTupleGo_zip a1 fun h2' hz2 hs2 => ?_⟩
  replace hs2 : Heap.SameBut z h' h2' := hs2
  have hn : H s.heap.objs.size = none := I.hok.fresh (F6 _)
  have I1 : Inv X pins σ (upd H s.heap.objs.size (.tup [x, y])) { s with heap := s.heap.push { cls := .type "tuple", data := .seq #[u, v] }, toks := s.toks } :=
   I.laid (fun b o q => S1 _ q) (F6 _) ⟨by show 2 <= sizeLine; decide, [u, v], .cons ru (.cons rw' .nil), ⟨_, W1 _ rfl, rfl, _, rfl⟩⟩
  have ge : ∀ b, b < s.heap.objs.size -> T0 X pins H b -> T0 X pins (upd H s.heap.objs.size (.tup [x, y])) b := fun b hb f => ⟨by rw [C4 (N0 hb)]; exact f.1, f.2⟩
  have I2 := I1.turnedN (h' := h2') (t' := s.toks) (L := [z, TI, TO, i1, i2]) (fun b o nb q => by
   simp at nb
   obtain ⟨n1, n2, n3, n4, n5⟩ := nb
   rw [hs2.2 b n1]
   rcases Heap.get?_push_cases q with ⟨e1, e2⟩ | q
   ·subst e1 e2
    exact a5
   ·exact hk b o n1 n3 n4 n5 q) (fun b hb => ge b (lt b hb) (hf b hb))
  refine ⟨.ref s.heap.objs.size, _, I2, rfl, ⟨_, x, y, rfl, hn, rfl, fun xs' ys' q1 q2 => ⟨by rw [I.list_inj q1 hq1]; exact hx, by rw [I.list_inj q2 hq2]; exact hy⟩⟩, ⟨hz2, ?_, ⟨u, v, ?_⟩, ?_, ?_⟩, fun b hb => (ge b (lt b hb) (hf b hb)).1⟩
  ·exact (hs2.2 TI D.TIz).trans (hk _ _ D.TIz D.TITO D.TIi1 D.TIi2 hTI)
  ·exact (hs2.2 TO D.TOz).trans a2
  ·exact a3.at fun o q => (hs2.2 i1 D.i1z).trans q
  ·exact a4.at fun o q => (hs2.2 i2 D.i2z).trans q
 done := by
  intro X hP hw hK hc i pins s σ H E I hf st hg
  subst hP hw hK
  obtain ⟨hz, hTI, ⟨a0, b0, hTO⟩, h1, h2⟩ := st
  obtain ⟨xs, ys, hq1, hq2, hx⟩ := hg
  obtain ⟨its1, rv1, p1, _⟩ := I.list hq1
  obtain ⟨its2, rv2, p2, _⟩ := I.list hq2
  have e1 := rv1.length
  have e2 := rv2.length
  refine wpAny_pyNext_zip_end (I.ok.hd hc) D hz hTI hTO h1 h2 p1.isList p2.isList ?_ fun h' hk => ⟨rfl, I.turnedN (t' := s.toks) (L := [z, TI, TO, i1, i2]) (fun b o nb q => ?_) hf⟩
  ·rcases hx with hx | hx
   ·exact .inl (by simp; lia)
   ·exact .inr (by simp; lia)
  ·simp at nb
   exact hk b o nb.1 nb.2.2.1 nb.2.2.2.1 nb.2.2.2.2 q
 self := fun _ _ _ _ _ st h => wpAny_pyIter_zip st.1 h
section
variable {X : Cx}
def B5z (K : A4) (ta : TA) : TI := fun σ H R => ta σ H fun vs H1 => ∃ a b, vs = [.ref a, .ref b] /\ (∃ xs, SqL K H1 a xs) /\ (∃ ys, SqL K H1 b ys) /\ R (Itz K a b) H1
theorem C2g {elts : List Expr} {x1} {tpos : Pos} {a b : Expr} {ta : TA} {p pos : Pos} (hg : Gl X "zip") (hm : X.mg "zip" = none) (ha : PA X [a, b] ta) (hs : starEach [a, b] X.env = [(false, eval a X.env), (false, eval b X.env)] := by rfl) (hs2 : starEach [b] X.env = [(false, eval b X.env)] := by rfl) : PI X (.Tuple elts x1 tpos) (.Call (.Name "zip" p) [a, b] [] pos) (B5z X.K ta) := by
 intro pins s σ H R I h
 refine Call_ (p9 I hg hm C1y (PyProof.Rows.callWith_type1 (thn (ha pos pins s σ H _ I h) fun us s1 zz285 => el5 zz285 fun vs H1 I1 r1 q1 => ?_) (by rw [hs, hs2]) (by rw [hs2]; rfl)))
 obtain ⟨a', b', e, ⟨xs, hq1⟩, ⟨ys, hq2⟩, q⟩ := q1
 subst e
 obtain ⟨u, v, rfl, ra, rb⟩ := r1.two
 cases ra
 cases rb
 obtain ⟨its1, rv1, p1, _⟩ := I1.list hq1
 obtain ⟨its2, rv2, p2, _⟩ := I1.list hq2
 have la : a' < s1.heap.objs.size := by obtain ⟨_, e, _⟩ := p1.isList; exact G8 e
 have lb : b' < s1.heap.objs.size := by obtain ⟨_, e, _⟩ := p2.isList; exact G8 e
 refine call_zip_2 p1.isList p2.isList fun h' hz hTI hTO h1 h2 hsz hk => ?_
 refine wpAny_pyIter_zip (s := { s1 with heap := h' }) hz ?_
 have I2 : Inv X pins σ H1 { s1 with heap := h' } := I1.kept (t' := s1.toks) hk
 have ne : ∀ {x y : Nat}, x < y -> x ≠ y := fun h => N0 h
 have lt : ∀ (x k : Nat), x < s1.heap.objs.size -> x ≠ s1.heap.objs.size + k := fun x k hx => N0 (Q5 hx (Nat.le_add_right _ _))
 have pn : ∀ (i j : Nat), i ≠ j -> s1.heap.objs.size + i ≠ s1.heap.objs.size + j := fun i j hij z => hij (Nat.add_left_cancel z)
 refine ⟨_, [s1.heap.objs.size + 4, s1.heap.objs.size + 2, s1.heap.objs.size + 3, s1.heap.objs.size, s1.heap.objs.size + 1], _, _, H1, rfl, I2, C2f a' b' _ _ _ _ _ ⟨pn 2 4 (by decide), pn 3 4 (by decide), pn 0 4 (by decide), pn 1 4 (by decide), pn 2 3 (by decide), pn 2 0 (by decide), pn 2 1 (by decide), pn 3 0 (by decide), pn 3 1 (by decide), pn 0 1 (by decide), lt a' 4 la, lt a' 3 la, lt a' 0 la, lt a' 1 la, lt b' 4 lb, lt b' 3 lb, lt b' 0 lb, lt b' 1 lb⟩, ⟨hz, hTI, ⟨_, _, hTO⟩, h1, h2⟩, fun b hb => ?_, q⟩
 have fp : ∀ k : Nat, T0 X pins H1 (s1.heap.objs.size + k) := fun k => I1.fpOk (Nat.le_add_right _ _) (I1.hok.fresh (Nat.le_add_right _ _))
 simp at hb
 rcases hb with rfl | rfl | rfl | rfl | rfl
 ·exact fp 4
 ·exact fp 2
 ·exact fp 3
 ·exact fp 0
 ·exact fp 1
end
end L2
namespace L2
open PySem PySem.Spec PyProof.Rows
section
variable {X : Cx} {tg : Expr}
end
end L2
namespace L2
open PySem PySem.Spec PyProof.Rows
section
variable {prog : Program} {w : World} {A : Around} {R : Result -> Shared -> Prop} {I : Addr} {fp wr : List Addr} {n : Nat} {P : Nat -> Value -> Prop} {St : Nat -> Heap -> Prop}
end
section
variable {X : Cx}
end
end L2
namespace L2
open PySem PySem.Spec PyProof.Rows
section
variable {prog : Program} {w : World} {A : Around} {R : Result -> Shared -> Prop} {I : Addr} {fp wr : List Addr} {n : Nat} {P : Nat -> Value -> Prop} {St : Nat -> Heap -> Prop}
end
section
variable {X : Cx}
end
end L2
namespace My
open PySem L2
def Hd (H : Hp) (a l : Addr) : Prop := ∃ (ns : List Int) (p b c u v : Int), H l = some (.lst (ns.map V.int)) /\ 0 <= p /\ H a = some (.lst [.ref l, .int p, .int b, .int c, .int u, .int v])
def Kp (a : Addr) (H H' : Hp) : Prop := ∀ b o, H b = some o -> b ≠ a -> H' b = some o
theorem Kp.refl (a : Addr) (H : Hp) : Kp a H H := fun _ _ e _ => e
theorem Kp.trans {a : Addr} {H H1 H2 : Hp} (x : Kp a H H1) (y : Kp a H1 H2) : Kp a H H2 := fun b o e n => y b o (x b o e n) n
theorem A9t {H : Hp} {a l : Addr} {ns : List Int} {xs : List V} (hl : H l = some (.lst (ns.map V.int))) (ha : H a = some (.lst (.ref l :: xs))) : l ≠ a := B9v hl ha (by
 intro e
 injection e with e
 cases ns with
 | nil => cases e
 | cons n r => injection e with e1; cases e1)
theorem Hd.at1 {H : Hp} {a l : Addr} (h : Hd H a l) : ∃ o, H a = some o := let ⟨_, _, _, _, _, _, _, _, e⟩ := h; ⟨_, e⟩
theorem Hd.at2 {H : Hp} {a l : Addr} (h : Hd H a l) : ∃ o, H l = some o := let ⟨_, _, _, _, _, _, e, _⟩ := h; ⟨_, e⟩
theorem Hd.ne {H : Hp} {a l p : Addr} (h : Hd H a l) (hp : H p = none) : p ≠ a /\ p ≠ l := by
 obtain ⟨o, e⟩ := h.at1
 obtain ⟨o', e'⟩ := h.at2
 exact ⟨(Z3 e hp).symm, (Z3 e' hp).symm⟩
theorem Hd.wr {H : Hp} {a l p : Addr} {o : HO} (h : Hd H a l) (n1 : p ≠ a) (n2 : p ≠ l) : Hd (upd H p o) a l := by
 obtain ⟨ns, q, b, c, u, v, h1, h2, h3⟩ := h
 exact ⟨ns, q, b, c, u, v, by rw [C4 n2.symm]; exact h1, h2, by rw [C4 n1.symm]; exact h3⟩
theorem Hd.lay {H : Hp} {a l p : Addr} {o : HO} (h : Hd H a l) (hp : H p = none) : Hd (upd H p o) a l := h.wr (h.ne hp).1 (h.ne hp).2
theorem _root_.L2.Same.lay {p : Addr} {H H1 : Hp} {o : HO} (x : Same H H1) (h : H1 p = none) : Same H (upd H1 p o) := fun b u e => by
 have e1 := x b u e
 rw [C4 (Z3 e1 h)]; exact e1
theorem C2h {ns : List Int} {p : Int} (h0 : 0 <= p) (h1 : p < (ns.length : Int)) : ∃ z, atI (ns.map V.int) p = some (.int z) := by
 obtain ⟨n, rfl⟩ := Int.eq_ofNat_of_zero_le h0
 have hp : n < ns.length := by lia
 exact ⟨ns[n], W5 (by rw [N1, J5 hp]; rfl)⟩
def B50 (K : A4) : Sp := fun vs H Q _ => ∃ (a : Addr) (ns : List Int), vs = [.ref a] /\ SqL K H a (ns.map V.int) /\ ∀ (p l : Addr) (H' : Hp), H p = none -> H l = none -> Hd H' p l -> Same H H' -> Q (.ref p) H'
def B14 : Sp := fun vs H Q _ => ∃ a l, vs = [.ref a] /\ Hd H a l /\ ∀ (r : Int) (H' : Hp), Hd H' a l -> Kp a H H' -> Q (.int r) H'
def B51 : Sp := fun vs H Q _ => ∃ a l, vs = [.ref a] /\ Hd H a l /\ ∀ (H' : Hp), Hd H' a l -> Kp a H H' -> Q .non H'
def C2i : Sp := fun vs H Q _ => ∃ a l m, vs = [.ref a, .int m] /\ Hd H a l /\ 0 < m /\ m < 100000000000000000000000000000000000000000000000000000000000000 /\ ∀ (r : Int) (H' : Hp), 0 <= r -> r < m -> Hd H' a l -> Kp a H H' -> Q (.int r) H'
end My
namespace My
open PySem L2
def dEn (ks : List (List Int)) : List (List Key × V) := ks.map fun k => (k.map Sum.inl, V.bl true)
def dEm (ks : List (List Int × Int)) : List (List Key × V) := ks.map fun p => (p.1.map Sum.inl, V.int p.2)
def C2j (k : List Int) : PyData := .tuple (k.map PyData.int)
inductive DiU : HO -> List (PyData × PyData) -> Prop
 | t : DiU (.dT []) []
 | k (i j : Int) : DiU (.dK [(Sum.inl i, V.int j)]) [(.int i, .int j)]
 | f (o : Obj) (ks : List (List Int)) : DiU (.frz o (.dT (dEn ks))) ((.none, .none) :: ks.map fun k => (C2j k, .bool true))
mutual
inductive ThV (F : Addr -> Prop) (H : Hp) : V -> PyData -> Prop
 | non : ThV F H .non .none
 | bl (b) : ThV F H (.bl b) (.bool b)
 | int (i) : ThV F H (.int i) (.int i)
 | str (x) : ThV F H (.str x) (.str x)
 | lst {a xs ds} : F a -> H a = some (.lst xs) -> B0 F H xs ds -> ThV F H (.ref a) (.list ds)
 | tup {a xs ds} : F a -> H a = some (.tup xs) -> B0 F H xs ds -> ThV F H (.ref a) (.tuple ds)
 | dic {a u kvs} : F a -> H a = some u -> DiU u kvs -> ThV F H (.ref a) (.dict kvs)
inductive B0 (F : Addr -> Prop) (H : Hp) : List V -> List PyData -> Prop
 | nil : B0 F H [] []
 | cons {x xs d ds} : ThV F H x d -> B0 F H xs ds -> B0 F H (x :: xs) (d :: ds)
end
mutual
theorem ThV.mv {F G : Addr -> Prop} {H H' : Hp} (f : ∀ b o, F b -> H b = some o -> G b /\ H' b = some o) : ∀ {v : V} {d : PyData}, ThV F H v d -> ThV G H' v d
 | _, _, .non => .non
 | _, _, .bl b => .bl b
 | _, _, .int i => .int i
 | _, _, .str x => .str x
 | _, _, .lst n e t => .lst (f _ _ n e).1 (f _ _ n e).2 (B0.mv f t)
 | _, _, .tup n e t => .tup (f _ _ n e).1 (f _ _ n e).2 (B0.mv f t)
 | _, _, .dic n e t => .dic (f _ _ n e).1 (f _ _ n e).2 t
theorem B0.mv {F G : Addr -> Prop} {H H' : Hp} (f : ∀ b o, F b -> H b = some o -> G b /\ H' b = some o) : ∀ {vs : List V} {ds : List PyData}, B0 F H vs ds -> B0 G H' vs ds
 | _, _, .nil => .nil
 | _, _, .cons x t => .cons (ThV.mv f x) (B0.mv f t)
end
theorem B0.same {F : Addr -> Prop} {H H' : Hp} {v : List V} {d : List PyData} (t : B0 F H v d) (s : Same H H') : B0 F H' v d := t.mv fun b o z e => ⟨z, s b o e⟩
theorem B0.append {F : Addr -> Prop} {H : Hp} {xs : List V} {ds : List PyData} {ys : List V} {es : List PyData} (t : B0 F H xs ds) (y : B0 F H ys es) : B0 F H (xs ++ ys) (ds ++ es) := by
 induction xs generalizing ds with
 | nil => cases t; exact y
 | cons v xs ih =>
  cases t with
  | cons x t => exact .cons x (ih t)
theorem B0.len {F : Addr -> Prop} {H : Hp} {xs : List V} {ds : List PyData} (t : B0 F H xs ds) : xs.length = ds.length := by
 induction xs generalizing ds with
 | nil => cases t; rfl
 | cons v xs ih =>
  cases t with
  | cons x t => rw [M1, M1, ih t]
theorem B0.get {F : Addr -> Prop} {H : Hp} : ∀ {xs : List V} {ds : List PyData} {i : Nat} {v : V}, B0 F H xs ds -> xs[i]? = some v -> ∃ d, ds[i]? = some d /\ ThV F H v d
 | _, _, _, _, .nil, e => by simp at e
 | _, _, 0, v, .cons (d := d) x _, e => by
  have e' := Option.some.inj e
  subst e'
  exact ⟨d, rfl, x⟩
 | _, _, i + 1, v, .cons _ t, e => B0.get (i := i) t e
theorem B0.at {F : Addr -> Prop} {H : Hp} : ∀ {xs : List V} {ds : List PyData} {i : Nat} {d : PyData}, B0 F H xs ds -> ds[i]? = some d -> ∃ v, xs[i]? = some v /\ ThV F H v d
 | _, _, _, _, .nil, e => by simp at e
 | _, _, 0, d, .cons (x := v) x _, e => by
  have e' := Option.some.inj e
  subst e'
  exact ⟨v, rfl, x⟩
 | _, _, i + 1, v, .cons _ t, e => B0.at (i := i) t e
mutual
theorem ThV.dat {K : A4} {F : Addr -> Prop} {H : Hp} : ∀ {v : V} {d : PyData}, ThV F H v d -> d.canLay0 = true -> U8 K H v d
 | _, _, .non, _ => .non
 | _, _, .bl b, _ => .bl b
 | _, _, .int i, _ => .int i
 | _, _, .str x, _ => .str x
 | _, _, .lst _ e t, h => .lst (SqL.of e) (B0.dat t (by rw [PyData.canLay0] at h; exact h))
 | _, _, .tup _ e t, h => .tup (SqT.of e) (B0.dat t (by rw [PyData.canLay0] at h; exact h))
 | _, _, .dic _ _ _, h => by rw [PyData.canLay0] at h; cases h
theorem B0.dat {K : A4} {F : Addr -> Prop} {H : Hp} : ∀ {vs : List V} {ds : List PyData}, B0 F H vs ds -> PyData.canLayAll0 ds = true -> g4 K H vs ds
 | _, _, .nil, _ => .nil
 | _, _, .cons x t, h => by
  rw [PyData.canLayAll0, P7] at h
  exact .cons (ThV.dat x h.1) (B0.dat t h.2)
end
end My
namespace My
open PySem L2
structure DC where
 F : Addr -> Prop
 hand : Option (Addr × Addr)
 H0 : Hp
def Kq (h : Option (Addr × Addr)) (H H' : Hp) : Prop := ∀ b o, H b = some o -> (∀ q, h = some q -> b ≠ q.1) -> H' b = some o
def Hq (h : Option (Addr × Addr)) (H : Hp) : Prop := ∀ q, h = some q -> Hd H q.1 q.2
section
variable {h : Option (Addr × Addr)} {H H1 H2 H' : Hp} {p : Addr} {o : HO}
theorem Kq.refl : Kq h H H := fun _ _ e _ => e
theorem Kq.trans (a : Kq h H H1) (b : Kq h H1 H2) : Kq h H H2 := fun c o e n => b c o (a c o e n) n
theorem Kq.same (s : Same H H') : Kq h H H' := fun b o e _ => s b o e
theorem Kq.fr {b : Addr} (k : Kq h H H') (q : Hq h H') (e : H' b = none) : H b = none := by
 cases z : H b with
 | none => rfl
 | some o =>
  by_cases c : ∀ p, h = some p -> b ≠ p.1
  ·rw [k b o z c] at e; cases e
  ·refine absurd (fun p hp hb => ?_) c
   obtain ⟨o', e'⟩ := (q p hp).at1
   rw [hb, e'] at e; cases e
theorem Kq.lay (hp : H p = none) : Kq h H (upd H p o) := Kq.same ((Same.refl H).lay hp)
theorem Hq.lay (q : Hq h H) (hp : H p = none) : Hq h (upd H p o) := fun z hz => (q z hz).lay hp
end
inductive Rws (G F : Addr -> Prop) (H : Hp) : List Addr -> List (List PyData) -> Prop
 | nil : Rws G F H [] []
 | cons {b vs as ds dss} : G b -> H b = some (.lst vs) -> B0 F H vs ds -> Rws G F H as dss -> Rws G F H (b :: as) (ds :: dss)
theorem Rws.mv {G F G' F' : Addr -> Prop} {H H' : Hp} {as : List Addr} {dss : List (List PyData)} (t : Rws G F H as dss) (f : ∀ b o, F b -> H b = some o -> F' b /\ H' b = some o) (g : ∀ b o, G b -> H b = some o -> G' b /\ H' b = some o) : Rws G' F' H' as dss := by
 induction t with
 | nil => exact .nil
 | cons x e y _ ih => exact .cons (g _ _ x e).1 (g _ _ x e).2 (y.mv f) ih
theorem Rws.mvl {G F G' F' : Addr -> Prop} {H H' : Hp} {as : List Addr} {dss : List (List PyData)} (t : Rws G F H as dss) (f : ∀ b o, F b -> H b = some o -> F' b /\ H' b = some o) (g : ∀ b ys, G b -> H b = some (.lst ys) -> G' b /\ H' b = some (.lst ys)) : Rws G' F' H' as dss := by
 induction t with
 | nil => exact .nil
 | cons x e y _ ih => exact .cons (g _ _ x e).1 (g _ _ x e).2 (y.mv f) ih
theorem Rws.len {G F : Addr -> Prop} {H : Hp} {as : List Addr} {dss : List (List PyData)} (t : Rws G F H as dss) : as.length = dss.length := by
 induction t with
 | nil => rfl
 | cons _ _ _ _ ih => rw [M1, M1, ih]
theorem Rws.at {G F : Addr -> Prop} {H : Hp} {as : List Addr} {dss : List (List PyData)} (t : Rws G F H as dss) {k : Nat} {ds : List PyData} (h : dss[k]? = some ds) : ∃ b vs, as[k]? = some b /\ G b /\ H b = some (.lst vs) /\ B0 F H vs ds := by
 induction t generalizing k with
 | nil => simp at h
 | @cons b vs as ds' dss x e y _ ih =>
  cases k with
  | zero =>
   have h' : some ds' = some ds := h
   cases h'
   exact ⟨b, vs, rfl, x, e, y⟩
  | succ k => exact ih h
theorem Rws.mem {G F : Addr -> Prop} {H : Hp} {as : List Addr} {dss : List (List PyData)} (t : Rws G F H as dss) {b : Addr} (h : b ∈ as) : G b /\ ∃ vs, H b = some (.lst vs) := by
 induction t with
 | nil => cases h
 | cons x e y _ ih =>
  rcases K1.mp h with rfl | h
  ·exact ⟨x, _, e⟩
  ·exact ih h
theorem Rws.snoc {G F : Addr -> Prop} {H : Hp} {as : List Addr} {dss : List (List PyData)} {b : Addr} {vs : List V} {ds : List PyData} (t : Rws G F H as dss) (x : G b) (e : H b = some (.lst vs)) (y : B0 F H vs ds) : Rws G F H (as ++ [b]) (dss ++ [ds]) := by
 induction t with
 | nil => exact .cons x e y .nil
 | cons x' e' y' _ ih => exact .cons x' e' y' ih
def A46 (H : Hp) (a : Addr) (ks : List (List Int)) : Bool -> Prop
 | false => H a = some (.dT (dEn ks))
 | true => ∃ o, H a = some (.frz o (.dT (dEn ks)))
theorem A46.mv {H H' : Hp} {a : Addr} {ks : List (List Int)} {f : Bool} (h : A46 H a ks f) (k : ∀ o, H a = some o -> H' a = some o) : A46 H' a ks f := by
 cases f with
 | false => exact k _ h
 | true => obtain ⟨o, h⟩ := h; exact ⟨o, k _ h⟩
theorem A46.ne {H : Hp} {a : Addr} {ks : List (List Int)} {f : Bool} (h : A46 H a ks f) : H a ≠ none := by
 cases f with
 | false => exact fun q => by rw [show H a = _ from h] at q; cases q
 | true => obtain ⟨o, h⟩ := h; exact fun q => by rw [h] at q; cases q
def A47 (H : Hp) (a : Addr) (ks : List (List Int × Int)) : Bool -> Prop
 | false => H a = some (.dT (dEm ks))
 | true => ∃ o, H a = some (.frz o (.dT (dEm ks)))
theorem A47.mv {H H' : Hp} {a : Addr} {ks : List (List Int × Int)} {f : Bool} (h : A47 H a ks f) (k : ∀ o, H a = some o -> H' a = some o) : A47 H' a ks f := by
 cases f with
 | false => exact k _ h
 | true => obtain ⟨o, h⟩ := h; exact ⟨o, k _ h⟩
theorem A47.ne {H : Hp} {a : Addr} {ks : List (List Int × Int)} {f : Bool} (h : A47 H a ks f) : H a ≠ none := by
 cases f with
 | false => exact fun q => by rw [show H a = _ from h] at q; cases q
 | true => obtain ⟨o, h⟩ := h; exact fun q => by rw [h] at q; cases q
inductive Sl where
 | no
 | sh (d : PyData)
 | ow (ds : List PyData)
 | bo (ds : List PyData)
 | hd
 | o2 (dss : List (List PyData))
 | b2 (dss : List (List PyData))
 | di (f : Bool) (ks : List (List Int))
 | dm (f : Bool) (kvs : List (List Int × Int))
 | bd (d : PyData)
 | ot (d : PyData)
abbrev Z (col : Addr -> Nat) : Addr -> Prop := fun b => col b = 0
abbrev Le (C : DC) : Addr -> Prop := fun b => C.H0 b ≠ none /\ ∀ q, C.hand = some q -> b ≠ q.1
abbrev Ow (C : DC) (col : Addr -> Nat) (H : Hp) (i : Nat) : Addr -> Prop := fun b => (col b = 2 * i + 3 /\ C.H0 b = none) \/ (col b = 0 /\ ∃ xs, H b = some (.tup xs))
def SlR (C : DC) (col : Addr -> Nat) (H : Hp) (i : Nat) (o : Option V) : Sl -> Prop
 | .no => True
 | .sh d => ∃ v, o = some v /\ ThV (Z col) H v d
 | .ow ds => ∃ a vs, o = some (.ref a) /\ col a = 2 * i + 3 /\ C.H0 a = none /\ H a = some (.lst vs) /\ B0 (Z col) H vs ds
 | .bo ds => ∃ a vs, o = some (.ref a) /\ col a <= 1 /\ (∀ q, C.hand = some q -> a ≠ q.1) /\ H a = some (.lst vs) /\ B0 (Z col) H vs ds
 | .hd => ∃ q, C.hand = some q /\ o = some (.ref q.1)
 | .o2 dss => ∃ a as, o = some (.ref a) /\ (col a = 2 * i + 3 /\ C.H0 a = none) /\ H a = some (.lst (as.map V.ref)) /\ (a :: as).Nodup /\ Rws (fun b => col b = 2 * i + 3 /\ C.H0 b = none) (Z col) H as dss
 | .b2 dss => ∃ a as, o = some (.ref a) /\ (col a <= 1 /\ ∀ q, C.hand = some q -> a ≠ q.1) /\ H a = some (.lst (as.map V.ref)) /\ Rws (fun b => col b <= 1 /\ ∀ q, C.hand = some q -> b ≠ q.1) (Z col) H as dss
 | .di f ks => ∃ a, o = some (.ref a) /\ col a = 2 * i + 3 /\ C.H0 a = none /\ A46 H a ks f
 | .dm f ks => ∃ a, o = some (.ref a) /\ col a = 2 * i + 3 /\ C.H0 a = none /\ A47 H a ks f
 | .bd d => ∃ v, o = some v /\ ThV (Le C) C.H0 v d
 | .ot d => ∃ v, o = some v /\ ThV (Ow C col H i) H v d
inductive Pe where
 | v (v : V) (d : PyData)
 | n (a : Addr) (o : HO)
 | s (vs : List V) (ds : List PyData)
 | o (c : Nat) (as : List Addr) (dss : List (List PyData))
 | w (v : V) (d : PyData)
def PeR (C : DC) (col : Addr -> Nat) (H : Hp) : Pe -> Prop
 | .v v d => ThV (Z col) H v d
 | .n a o => col a <= 1 /\ (∀ q, C.hand = some q -> a ≠ q.1) /\ H a = some o
 | .s vs ds => B0 (Z col) H vs ds
 | .o c as dss => as.Nodup /\ Rws (fun b => col b = 2 * c + 2 /\ C.H0 b = none) (Z col) H as dss
 | .w v d => ThV (Le C) C.H0 v d
structure B8 (C : DC) (col : Addr -> Nat) (ρ : List Sl) (σ : St) (P : List Pe) (H : Hp) : Prop where
 fresh : ∀ b, H b = none -> col b = 0
 inF : ∀ b, col b = 0 -> C.F b
 hnd : ∀ q, C.hand = some q -> col q.1 = 1
 sl : ∀ i s, ρ[i]? = some s -> SlR C col H i (σ[i]?).join s
 pd : ∀ p ∈ P, PeR C col H p
 kq : Kq C.hand C.H0 H
 hq : Hq C.hand H
 hq0 : Hq C.hand C.H0
 nf : (∀ b, C.H0 b = none -> C.F b) /\ ∀ b xs, C.H0 b = some (.tup xs) -> C.F b
 len : ρ.length = σ.length
def Rel (C : DC) (ρ : List Sl) (σ : St) (P : List Pe) (H : Hp) : Prop := ∃ col, B8 C col ρ σ P H
section
variable {C : DC} {col col' : Addr -> Nat} {ρ : List Sl} {σ : St} {P P' : List Pe} {H H' : Hp} {v : V} {d : PyData} {o : HO} {p : Addr}
theorem B8.notH (r : B8 C col ρ σ P H) {b : Addr} (hb : col b ≠ 1) : ∀ q, C.hand = some q -> b ≠ q.1 := fun q hq e => hb (e ▸ r.hnd q hq)
theorem B8.mv (r : B8 C col ρ σ P H) (k : Kq C.hand H H') (q : Hq C.hand H') : B8 C col ρ σ P H' := by
 have mv0 : ∀ b o, Z col b -> H b = some o -> Z col b /\ H' b = some o := fun b o z e => ⟨z, k b o e (r.notH (by rw [show col b = 0 from z]; decide))⟩
 refine ⟨fun b e => r.fresh b (k.fr q e), r.inF, r.hnd, fun i s e => ?_, fun p hp => ?_, r.kq.trans k, q, r.hq0, r.nf, r.len⟩
 ·have h := r.sl i s e
  cases s with
  | no => trivial
  | sh d => obtain ⟨v, e1, t⟩ := h; exact ⟨v, e1, t.mv mv0⟩
  | ow ds => obtain ⟨a, vs, e1, c, n, e2, t⟩ := h; exact ⟨a, vs, e1, c, n, k a _ e2 (r.notH (by lia)), t.mv mv0⟩
  | bo ds => obtain ⟨a, vs, e1, c, n, e2, t⟩ := h; exact ⟨a, vs, e1, c, n, k a _ e2 n, t.mv mv0⟩
  | hd => exact h
  | o2 dss => obtain ⟨a, as, e1, c, e2, nd, t⟩ := h; exact ⟨a, as, e1, c, k a _ e2 (r.notH (by lia)), nd, t.mv mv0 fun b o g e => ⟨g, k b o e (r.notH (by have := g.1; lia))⟩⟩
  | b2 dss => obtain ⟨a, as, e1, c, e2, t⟩ := h; exact ⟨a, as, e1, c, k a _ e2 c.2, t.mv mv0 fun b o g e => ⟨g, k b o e g.2⟩⟩
  | di f ks => obtain ⟨a, e1, c, n, e2⟩ := h; exact ⟨a, e1, c, n, e2.mv fun o e => k a o e (r.notH (by lia))⟩
  | dm f ks => obtain ⟨a, e1, c, n, e2⟩ := h; exact ⟨a, e1, c, n, e2.mv fun o e => k a o e (r.notH (by lia))⟩
  | bd d => exact h
  | ot d =>
   obtain ⟨v, e1, t⟩ := h
   refine ⟨v, e1, t.mv fun b o g e => ?_⟩
   have e' : H' b = some o := k b o e (r.notH (by rcases g with g | g <;> (have := g.1; lia)))
   exact ⟨g.imp id fun ⟨c, xs, z⟩ => ⟨c, xs, by rw [e] at z; rw [e']; exact z⟩, e'⟩
 ·have h := r.pd p hp
  cases p with
  | v v d => exact ThV.mv mv0 h
  | n a o => exact ⟨h.1, h.2.1, k a o h.2.2 h.2.1⟩
  | s vs ds => exact B0.mv mv0 h
  | o c as dss => exact ⟨h.1, h.2.mv mv0 fun b o g e => ⟨g, k b o e (r.notH (by have := g.1; lia))⟩⟩
  | w v d => exact h
theorem B8.lay (r : B8 C col ρ σ P H) (hp : H p = none) : B8 C col ρ σ P (upd H p o) := r.mv (Kq.lay hp) (r.hq.lay hp)
theorem B8.add (r : B8 C col ρ σ P H) {x : Pe} (t : PeR C col H x) : B8 C col ρ σ (x :: P) H :=
 { r with pd := fun p hp => (K1.mp hp).elim (fun e => e ▸ t) (r.pd p) }
theorem B8.push (r : B8 C col ρ σ P H) (t : ThV (Z col) H v d) : B8 C col ρ σ (.v v d :: P) H := r.add t
theorem B8.sub (r : B8 C col ρ σ P H) (h : ∀ p ∈ P', p ∈ P) : B8 C col ρ σ P' H := { r with pd := fun p hp => r.pd p (h p hp) }
theorem Rel.sub (r : Rel C ρ σ P H) (h : ∀ p ∈ P', p ∈ P) : Rel C ρ σ P' H := let ⟨c, r⟩ := r; ⟨c, r.sub h⟩
theorem Rel.pop {x : Pe} (r : Rel C ρ σ (x :: P) H) : Rel C ρ σ P H := r.sub fun _ h => A9 _ h
theorem B8.tup {vs : List V} {ds : List PyData} (r : B8 C col ρ σ P H) (t : B0 (Z col) H vs ds) (hp : H p = none) : B8 C col ρ σ (.v (.ref p) (.tuple ds) :: P) (upd H p (.tup vs)) :=
 (r.lay hp).push (.tup (r.fresh p hp) K2 (t.same ((Same.refl H).lay hp)))
theorem B8.lst {vs : List V} {ds : List PyData} (r : B8 C col ρ σ P H) (t : B0 (Z col) H vs ds) (hp : H p = none) : B8 C col ρ σ (.v (.ref p) (.list ds) :: P) (upd H p (.lst vs)) :=
 (r.lay hp).push (.lst (r.fresh p hp) K2 (t.same ((Same.refl H).lay hp)))
theorem B8.recol (r : B8 C col ρ σ P H) {ρ' : List Sl} {σ' : St} (hl : ρ'.length = σ'.length) (f : ∀ b, H b = none -> col' b = 0) (i : ∀ b, col' b = 0 -> C.F b) (n : ∀ q, C.hand = some q -> col' q.1 = 1) (z : ∀ b, col b = 0 -> H b ≠ none -> col' b = 0)
  (lo : ∀ b, col b <= 1 -> H b ≠ none -> col' b <= 1) (c2 : ∀ b c, col b = 2 * c + 2 -> col' b = 2 * c + 2) (s : ∀ i s, ρ'[i]? = some s -> SlR C col' H i (σ'[i]?).join s) : B8 C col' ρ' σ' P H := by
 have mv0 : ∀ b o, Z col b -> H b = some o -> Z col' b /\ H b = some o := fun b o zz e => ⟨z b zz (by rw [e]; exact fun q => nomatch q), e⟩
 refine ⟨f, i, n, s, fun p hp => ?_, r.kq, r.hq, r.hq0, r.nf, hl⟩
 have h := r.pd p hp
 cases p with
 | v v d => exact ThV.mv mv0 h
 | n a o => exact ⟨lo a h.1 (by rw [h.2.2]; exact fun q => nomatch q), h.2⟩
 | s vs ds => exact B0.mv mv0 h
 | o c as dss => exact ⟨h.1, h.2.mv mv0 fun b o g e => ⟨⟨c2 b c g.1, g.2⟩, e⟩⟩
 | w v d => exact h
theorem B8.freeze {i : Nat} {ds : List PyData} (r : B8 C col ρ σ P H) (e : ρ[i]? = some (.ow ds)) :
  ∃ a, (σ[i]?).join = some (.ref a) /\ Rel C (ρ.set i (.sh (.list ds))) σ (.v (.ref a) (.list ds) :: P) H := by
 obtain ⟨a, vs, e1, c, n, e2, t⟩ := r.sl i _ e
 let col' : Addr -> Nat := fun b => if b = a then 0 else col b
 have ca : col' a = 0 := if_pos rfl
 have cn : ∀ b, b ≠ a -> col' b = col b := fun b hb => if_neg hb
 have z : ∀ b, col b = 0 -> col' b = 0 := fun b hb => by
  by_cases q : b = a
  ·rw [q]; exact ca
  ·rw [cn b q]; exact hb
 have mv0 : ∀ b o, Z col b -> H b = some o -> Z col' b /\ H b = some o := fun b o zz e => ⟨z b zz, e⟩
 have T : ThV (Z col') H (.ref a) (.list ds) := .lst ca e2 (t.mv mv0)
 have R : B8 C col' (ρ.set i (.sh (.list ds))) σ P H := by
  refine r.recol (by rw [L9]; exact r.len) (fun b hb => z b (r.fresh b hb)) (fun b hb => ?_) (fun q hq => ?_) (fun b hb _ => z b hb) (fun b hb _ => ?_) (fun b c2 hb => by rw [cn b (fun q => by rw [q] at hb; lia)]; exact hb) fun j s es => ?_
  ·by_cases q : b = a
   ·rw [q]; exact r.nf.1 a n
   ·rw [cn b q] at hb; exact r.inF b hb
  ·rw [cn _ fun q' => by have := r.hnd q hq; rw [q'] at this; lia]; exact r.hnd q hq
  ·by_cases q : b = a
   ·rw [q, ca]; lia
   ·rw [cn b q]; exact hb
  ·by_cases hj : j = i
   ·subst hj
    rw [Z2] at es
    simp only [if_true] at es
    split at es
    ·cases es; exact ⟨_, e1, T⟩
    ·cases es
   ·rw [S7 (Ne.symm hj)] at es
    have h := r.sl j s es
    cases s with
    | no => trivial
    | sh d => obtain ⟨v, e1, t⟩ := h; exact ⟨v, e1, t.mv mv0⟩
    | ow ds => obtain ⟨a', vs', e1', c', n', e2', t'⟩ := h; exact ⟨a', vs', e1', by rw [cn a' (fun q => by rw [q] at c'; lia)]; exact c', n', e2', t'.mv mv0⟩
    | bo ds => obtain ⟨a', vs', e1', c', n', e2', t'⟩ := h; exact ⟨a', vs', e1', by by_cases q : a' = a; { rw [q, ca]; lia }; { rw [cn a' q]; exact c' }, n', e2', t'.mv mv0⟩
    | hd => exact h
    | o2 dss => obtain ⟨a', as', e1', c', e2', nd', t'⟩ := h; exact ⟨a', as', e1', ⟨by rw [cn a' (fun q => by rw [q] at c'; lia)]; exact c'.1, c'.2⟩, e2', nd', t'.mv mv0 fun b o g e => ⟨⟨by rw [cn b (fun q => by have := g.1; rw [q] at this; lia)]; exact g.1, g.2⟩, e⟩⟩
    | b2 dss => obtain ⟨a', as', e1', c', e2', t'⟩ := h; exact ⟨a', as', e1', ⟨by by_cases q : a' = a; { rw [q, ca]; lia }; { rw [cn a' q]; exact c'.1 }, c'.2⟩, e2', t'.mv mv0 fun b o g e => ⟨⟨by by_cases q : b = a; { rw [q, ca]; lia }; { rw [cn b q]; exact g.1 }, g.2⟩, e⟩⟩
    | di f ks => obtain ⟨a', e1', c', n', e2'⟩ := h; exact ⟨a', e1', by rw [cn a' (fun q => by rw [q] at c'; lia)]; exact c', n', e2'⟩
    | dm f ks => obtain ⟨a', e1', c', n', e2'⟩ := h; exact ⟨a', e1', by rw [cn a' (fun q => by rw [q] at c'; lia)]; exact c', n', e2'⟩
    | bd d => exact h
    | ot d => obtain ⟨v, e1', t'⟩ := h; exact ⟨v, e1', t'.mv fun b o g e => ⟨g.imp (fun g => ⟨by rw [cn b (fun q => by rw [q] at g; have := g.1; lia)]; exact g.1, g.2⟩) fun g => ⟨z b g.1, g.2⟩, e⟩⟩
 exact ⟨a, e1, col', R.push T⟩
theorem B8.store {i : Nat} (r : B8 C col ρ σ P H) (t : ThV (Z col) H v d) : B8 C col (ρ.set i (.sh d)) (σ.set i (some v)) P H := by
 refine { r with sl := fun j s es => ?_, len := by rw [L9, L9]; exact r.len }
 by_cases hj : j = i
 ·subst hj
  rw [Z2] at es
  simp only [if_true] at es
  split at es
  ·rename_i hl
   cases es
   refine ⟨v, ?_, t⟩
   rw [Z2, if_pos rfl, if_pos (by rw [<- r.len]; exact hl)]; rfl
  ·cases es
 ·rw [S7 (Ne.symm hj)] at es
  rw [S7 (Ne.symm hj)]
  exact r.sl j s es
theorem B8.own {i : Nat} {vs : List V} {ds : List PyData} (r : B8 C col ρ σ P H) (t : B0 (Z col) H vs ds) (hp : H p = none) : Rel C (ρ.set i (.ow ds)) (σ.set i (some (.ref p))) P (upd H p (.lst vs)) := by
 let col' : Addr -> Nat := fun b => if b = p then 2 * i + 3 else col b
 have ca : col' p = 2 * i + 3 := if_pos rfl
 have cn : ∀ b, b ≠ p -> col' b = col b := fun b hb => if_neg hb
 have ne : ∀ b, H b ≠ none -> b ≠ p := fun b hb q => hb (q ▸ hp)
 have mv0 : ∀ b o, Z col b -> H b = some o -> Z col' b /\ upd H p (.lst vs) b = some o := fun b o zz e => by
  have q := ne b (by rw [e]; exact fun q => nomatch q)
  exact ⟨(cn b q).trans zz, by rw [C4 q]; exact e⟩
 have r1 := r.lay (o := .lst vs) hp
 have c0 : C.H0 p = none := r.kq.fr r.hq hp
 refine ⟨col', fun b hb => ?_, fun b hb => ?_, fun q hq => ?_, fun j s es => ?_, fun x hx => ?_, r1.kq, r1.hq, r.hq0, r.nf, by rw [L9, L9]; exact r.len⟩
 ·have q : b ≠ p := fun q => by rw [q, K2] at hb; cases hb
  rw [cn b q]; exact r1.fresh b hb
 ·have q : b ≠ p := fun q => by rw [q, ca] at hb; cases hb
  rw [cn b q] at hb; exact r.inF b hb
 ·obtain ⟨o', e'⟩ := (r.hq q hq).at1
  rw [cn _ (ne _ (by rw [e']; exact fun q => nomatch q))]; exact r.hnd q hq
 ·by_cases hj : j = i
  ·subst hj
   rw [Z2] at es
   simp only [if_true] at es
   split at es
   ·rename_i hl
    cases es
    exact ⟨p, vs, by rw [Z2, if_pos rfl, if_pos (by rw [<- r.len]; exact hl)]; rfl, ca, c0, K2, t.mv mv0⟩
   ·cases es
  ·rw [S7 (Ne.symm hj)] at es
   rw [S7 (Ne.symm hj)]
   have h := r.sl j s es
   cases s with
   | no => trivial
   | sh d => obtain ⟨v, e1, t⟩ := h; exact ⟨v, e1, t.mv mv0⟩
   | ow ds =>
    obtain ⟨a', vs', e1', c', n', e2', t'⟩ := h
    have q := ne a' (by rw [e2']; exact fun q => nomatch q)
    exact ⟨a', vs', e1', by rw [cn a' q]; exact c', n', by rw [C4 q]; exact e2', t'.mv mv0⟩
   | bo ds =>
    obtain ⟨a', vs', e1', c', n', e2', t'⟩ := h
    have q := ne a' (by rw [e2']; exact fun q => nomatch q)
    exact ⟨a', vs', e1', by rw [cn a' q]; exact c', n', by rw [C4 q]; exact e2', t'.mv mv0⟩
   | hd => exact h
   | o2 dss =>
    obtain ⟨a', as', e1', c', e2', nd', t'⟩ := h
    have q := ne a' (by rw [e2']; exact fun q => nomatch q)
    exact ⟨a', as', e1', ⟨by rw [cn a' q]; exact c'.1, c'.2⟩, by rw [C4 q]; exact e2', nd', t'.mv mv0 fun b o g e => by
     have q := ne b (by rw [e]; exact fun q => nomatch q)
     exact ⟨⟨by rw [cn b q]; exact g.1, g.2⟩, by rw [C4 q]; exact e⟩⟩
   | b2 dss =>
    obtain ⟨a', as', e1', c', e2', t'⟩ := h
    have q := ne a' (by rw [e2']; exact fun q => nomatch q)
    exact ⟨a', as', e1', ⟨by rw [cn a' q]; exact c'.1, c'.2⟩, by rw [C4 q]; exact e2', t'.mv mv0 fun b o g e => by
     have q := ne b (by rw [e]; exact fun q => nomatch q)
     exact ⟨⟨by rw [cn b q]; exact g.1, g.2⟩, by rw [C4 q]; exact e⟩⟩
   | di f ks =>
    obtain ⟨a', e1', c', n', e2'⟩ := h
    have q := ne a' e2'.ne
    exact ⟨a', e1', by rw [cn a' q]; exact c', n', e2'.mv fun o e => by rw [C4 q]; exact e⟩
   | dm f ks =>
    obtain ⟨a', e1', c', n', e2'⟩ := h
    have q := ne a' e2'.ne
    exact ⟨a', e1', by rw [cn a' q]; exact c', n', e2'.mv fun o e => by rw [C4 q]; exact e⟩
   | bd d => exact h
   | ot d =>
    obtain ⟨v, e1', t'⟩ := h
    exact ⟨v, e1', t'.mv fun b o g e => by
     have q := ne b (by rw [e]; exact fun q => nomatch q)
     exact ⟨g.imp (fun g => ⟨by rw [cn b q]; exact g.1, g.2⟩) fun g => ⟨by rw [cn b q]; exact g.1, by rw [C4 q]; exact g.2⟩, by rw [C4 q]; exact e⟩⟩
 ·have h := r.pd x hx
  cases x with
  | v v d => exact ThV.mv mv0 h
  | n a o =>
   have q := ne a (by rw [h.2.2]; exact fun q => nomatch q)
   exact ⟨by rw [cn a q]; exact h.1, h.2.1, by rw [C4 q]; exact h.2.2⟩
  | s vs ds => exact B0.mv mv0 h
  | o c as dss => exact ⟨h.1, h.2.mv mv0 fun b o g e => by
    have q := ne b (by rw [e]; exact fun q => nomatch q)
    exact ⟨⟨by rw [cn b q]; exact g.1, g.2⟩, by rw [C4 q]; exact e⟩⟩
  | w v d => exact h
theorem B8.write {i : Nat} {a : Addr} {ws : List V} {ds es : List PyData} (r : B8 C col ρ σ P H) (e : ρ[i]? = some (.ow ds)) (ea : (σ[i]?).join = some (.ref a)) (t : B0 (Z col) H ws es) :
  B8 C col (ρ.set i (.ow es)) σ P (upd H a (.lst ws)) := by
 obtain ⟨a', vs', e1, c, n, e2, _⟩ := r.sl i _ e
 rw [e1] at ea
 cases ea
 have ne : ∀ b, col b ≠ 2 * i + 3 -> b ≠ a := fun b hb q => hb (q ▸ c)
 have mv0 : ∀ b o, Z col b -> H b = some o -> Z col b /\ upd H a (.lst ws) b = some o := fun b o zz e => ⟨zz, by rw [C4 (ne b (by rw [show col b = 0 from zz]; lia))]; exact e⟩
 refine ⟨fun b hb => ?_, r.inF, r.hnd, fun j s es' => ?_, fun x hx => ?_, fun b o e q => ?_, fun q hq => ?_, r.hq0, r.nf, by rw [L9]; exact r.len⟩
 ·by_cases q : b = a
  ·rw [q, K2] at hb; cases hb
  ·rw [C4 q] at hb; exact r.fresh b hb
 ·by_cases hj : j = i
  ·subst hj
   rw [Z2] at es'
   simp only [if_true] at es'
   split at es'
   ·cases es'
    exact ⟨a, ws, e1, c, n, K2, t.mv mv0⟩
   ·cases es'
  ·rw [S7 (Ne.symm hj)] at es'
   have h := r.sl j s es'
   cases s with
   | no => trivial
   | sh d => obtain ⟨v, e1, t⟩ := h; exact ⟨v, e1, t.mv mv0⟩
   | ow ds =>
    obtain ⟨a', vs', e1', c', n', e2', t'⟩ := h
    exact ⟨a', vs', e1', c', n', by rw [C4 (ne a' (by lia))]; exact e2', t'.mv mv0⟩
   | bo ds =>
    obtain ⟨a', vs', e1', c', n', e2', t'⟩ := h
    exact ⟨a', vs', e1', c', n', by rw [C4 (ne a' (by lia))]; exact e2', t'.mv mv0⟩
   | hd => exact h
   | o2 dss =>
    obtain ⟨a', as', e1', c', e2', nd', t'⟩ := h
    exact ⟨a', as', e1', c', by rw [C4 (ne a' (by lia))]; exact e2', nd', t'.mv mv0 fun b o g e => ⟨g, by rw [C4 (ne b (by have := g.1; lia))]; exact e⟩⟩
   | b2 dss =>
    obtain ⟨a', as', e1', c', e2', t'⟩ := h
    exact ⟨a', as', e1', c', by rw [C4 (ne a' (by have := c'.1; lia))]; exact e2', t'.mv mv0 fun b o g e => ⟨g, by rw [C4 (ne b (by have := g.1; lia))]; exact e⟩⟩
   | di f ks =>
    obtain ⟨a', e1', c', n', e2'⟩ := h
    exact ⟨a', e1', c', n', e2'.mv fun o e => by rw [C4 (ne a' (by lia))]; exact e⟩
   | dm f ks =>
    obtain ⟨a', e1', c', n', e2'⟩ := h
    exact ⟨a', e1', c', n', e2'.mv fun o e => by rw [C4 (ne a' (by lia))]; exact e⟩
   | bd d => exact h
   | ot d =>
    obtain ⟨v, e1', t'⟩ := h
    exact ⟨v, e1', t'.mv fun b o g e => by
     have q := ne b (by rcases g with g | g <;> (have := g.1; lia))
     exact ⟨g.imp id fun g => ⟨g.1, by rw [C4 q]; exact g.2⟩, by rw [C4 q]; exact e⟩⟩
 ·have h := r.pd x hx
  cases x with
  | v v d => exact ThV.mv mv0 h
  | n b o => exact ⟨h.1, h.2.1, by rw [C4 (ne b (by have := h.1; lia))]; exact h.2.2⟩
  | s vs ds => exact B0.mv mv0 h
  | o c as dss => exact ⟨h.1, h.2.mv mv0 fun b o g e => ⟨g, by rw [C4 (ne b (by have := g.1; lia))]; exact e⟩⟩
  | w v d => exact h
 ·have z := r.kq b o e q
  have q' : b ≠ a := fun q' => by rw [q', n] at e; cases e
  rw [C4 q']; exact z
 ·obtain ⟨o1, h1⟩ := (r.hq0 q hq).at1
  obtain ⟨o2, h2⟩ := (r.hq0 q hq).at2
  exact (r.hq q hq).wr (fun z => by rw [<- z, n] at h1; cases h1) (fun z => by rw [<- z, n] at h2; cases h2)
end
open Classical in
theorem B8.norm {C : DC} {col : Addr -> Nat} {ρ : List Sl} {σ : St} {P : List Pe} {H : Hp} (r : B8 C col ρ σ P H) : ∃ col', B8 C col' ρ σ P H /\ ∀ b xs, H b = some (.tup xs) -> col' b = 0 := by
 let col' : Addr -> Nat := fun b => if ∃ xs, H b = some (.tup xs) then 0 else col b
 have ct : ∀ b xs, H b = some (.tup xs) -> col' b = 0 := fun b xs e => if_pos ⟨xs, e⟩
 have cn : ∀ b, (∀ xs, H b ≠ some (.tup xs)) -> col' b = col b := fun b h => if_neg fun ⟨xs, e⟩ => h xs e
 have hl : ∀ b ys, H b = some (.lst ys) -> col' b = col b := fun b ys e => cn b fun xs z => by rw [e] at z; cases z
 have hd : ∀ q, C.hand = some q -> ∀ xs, H q.1 ≠ some (.tup xs) := fun q hq xs z => by
  obtain ⟨_, _, _, _, _, _, _, _, e⟩ := r.hq q hq
  rw [e] at z; cases z
 have z0 : ∀ b, col b = 0 -> col' b = 0 := fun b hb => by
  by_cases h : ∃ xs, H b = some (.tup xs)
  ·exact if_pos h
  ·exact (if_neg h).trans hb
 have lo : ∀ b, col b <= 1 -> col' b <= 1 := fun b hb => by
  by_cases h : ∃ xs, H b = some (.tup xs)
  ·rw [show col' b = 0 from if_pos h]; lia
  ·rw [show col' b = col b from if_neg h]; exact hb
 have mv0 : ∀ b o, Z col b -> H b = some o -> Z col' b /\ H b = some o := fun b o zz e => ⟨z0 b zz, e⟩
 refine ⟨col', ⟨fun b e => z0 b (r.fresh b e), fun b hb => ?_, fun q hq => (cn _ (hd q hq)).trans (r.hnd q hq), fun i s e => ?_, fun p hp => ?_, r.kq, r.hq, r.hq0, r.nf, r.len⟩, ct⟩
 ·by_cases h : ∃ xs, H b = some (.tup xs)
  ·obtain ⟨xs, h⟩ := h
   cases q : C.H0 b with
   | none => exact r.nf.1 b q
   | some o =>
    have := r.kq b o q fun p hp e => hd p hp xs (e ▸ h)
    rw [this] at h
    cases h
    exact r.nf.2 b xs q
  ·rw [show col' b = col b from if_neg h] at hb; exact r.inF b hb
 ·have h := r.sl i s e
  cases s with
  | no => trivial
  | sh d => obtain ⟨v, e1, t⟩ := h; exact ⟨v, e1, t.mv mv0⟩
  | ow ds => obtain ⟨a, vs, e1, c, n, e2, t⟩ := h; exact ⟨a, vs, e1, (hl a _ e2).trans c, n, e2, t.mv mv0⟩
  | bo ds => obtain ⟨a, vs, e1, c, n, e2, t⟩ := h; exact ⟨a, vs, e1, lo a c, n, e2, t.mv mv0⟩
  | hd => exact h
  | o2 dss => obtain ⟨a, as, e1, c, e2, nd, t⟩ := h; exact ⟨a, as, e1, ⟨(hl a _ e2).trans c.1, c.2⟩, e2, nd, t.mvl mv0 fun b ys g e => ⟨⟨(hl b _ e).trans g.1, g.2⟩, e⟩⟩
  | b2 dss => obtain ⟨a, as, e1, c, e2, t⟩ := h; exact ⟨a, as, e1, ⟨lo a c.1, c.2⟩, e2, t.mvl mv0 fun b ys g e => ⟨⟨lo b g.1, g.2⟩, e⟩⟩
  | di f ks =>
   obtain ⟨a, e1, c, n, e2⟩ := h
   refine ⟨a, e1, (cn a fun xs z => ?_).trans c, n, e2⟩
   cases f with
   | false => rw [show H a = _ from e2] at z; cases z
   | true => obtain ⟨o, e2⟩ := e2; rw [e2] at z; cases z
  | dm f ks =>
   obtain ⟨a, e1, c, n, e2⟩ := h
   refine ⟨a, e1, (cn a fun xs z => ?_).trans c, n, e2⟩
   cases f with
   | false => rw [show H a = _ from e2] at z; cases z
   | true => obtain ⟨o, e2⟩ := e2; rw [e2] at z; cases z
  | bd d => exact h
  | ot d =>
   obtain ⟨v, e1, t⟩ := h
   refine ⟨v, e1, t.mv fun b o g e => ⟨?_, e⟩⟩
   by_cases q : ∃ xs, H b = some (.tup xs)
   ·obtain ⟨xs, q⟩ := q
    exact .inr ⟨ct b xs q, xs, q⟩
   ·rcases g with g | g
    ·exact .inl ⟨(if_neg q).trans g.1, g.2⟩
    ·exact absurd g.2 q
 ·have h := r.pd p hp
  cases p with
  | v v d => exact ThV.mv mv0 h
  | n a o => exact ⟨lo a h.1, h.2⟩
  | s vs ds => exact B0.mv mv0 h
  | o c as dss => exact ⟨h.1, h.2.mvl mv0 fun b ys g e => ⟨⟨(hl b _ e).trans g.1, g.2⟩, e⟩⟩
  | w v d => exact h
inductive Pds (P : List Pe) : List V -> List PyData -> Prop
 | nil : Pds P [] []
 | cons {v d vs ds} : Pe.v v d ∈ P -> Pds P vs ds -> Pds P (v :: vs) (d :: ds)
theorem Pds.th {C : DC} {col : Addr -> Nat} {ρ : List Sl} {σ : St} {P : List Pe} {H : Hp} (r : B8 C col ρ σ P H) : ∀ {vs : List V} {ds : List PyData}, Pds P vs ds -> B0 (Z col) H vs ds
 | _, _, .nil => .nil
 | _, _, .cons h t => .cons (r.pd _ h) (Pds.th r t)
end My
namespace My
open PySem L2
abbrev DE := List Sl -> (PyData -> List Sl -> Prop) -> Prop
abbrev DT := List Sl -> (Bool -> List Sl -> Prop) -> Prop
abbrev DF := List Sl -> (List PyData -> List Sl -> Prop) -> Prop
def eOf (C : DC) (t : DE) : TE := fun σ H Q => ∃ ρ P Qd, Rel C ρ σ P H /\ t ρ Qd /\ ∀ v d ρ' H', Rel C ρ' σ (.v v d :: P) H' -> Qd d ρ' -> Q v H'
def cOf (C : DC) (t : DT) : TT := fun σ H Q => ∃ ρ P Qd, Rel C ρ σ P H /\ t ρ Qd /\ ∀ b ρ' H', Rel C ρ' σ P H' -> Qd b ρ' -> Q b H'
def fOf (C : DC) (t : DF) : TE := fun σ H Q => ∃ ρ P Qd, Rel C ρ σ P H /\ t ρ Qd /\ ∀ p vs ds ρ' H1, (∃ col, B8 C col ρ' σ P H1 /\ B0 (Z col) H1 vs ds) -> H1 p = none -> Qd ds ρ' -> Q (.ref p) (upd H1 p (.lst vs))
def vOf (C : DC) (t : DF) : TA := fun σ H Q => ∃ ρ P Qd, Rel C ρ σ P H /\ t ρ Qd /\ ∀ vs ds ρ' P' H', Rel C ρ' σ P' H' -> (∀ p ∈ P, p ∈ P') -> Pds P' vs ds -> Qd ds ρ' -> Q vs H'
def bnd {α : Type} (o : Option α) (Q : α -> Prop) : Prop := match o with
 | some a => Q a
 | none => False
theorem G9 {α : Type} {o : Option α} {Q : α -> Prop} (h : bnd o Q) : ∃ a, o = some a /\ Q a := by
 cases o with
 | none => exact h.elim
 | some a => exact ⟨a, rfl, h⟩
section
variable {X : Cx} {C : DC}
theorem PE.wk {e : Expr} {t t' : TE} (h : PE X e t) (f : ∀ σ H Q, t' σ H Q -> t σ H Q) : PE X e t' := fun pins s σ H Q I q => h pins s σ H Q I (f σ H Q q)
theorem PT.wk {e : Expr} {t t' : TT} (h : PT X e t) (f : ∀ σ H Q, t' σ H Q -> t σ H Q) : PT X e t' := fun pins s σ H Q I q => h pins s σ H Q I (f σ H Q q)
theorem PW.wk {e : Expr} {t t' : TT} (h : PW X e t) (f : ∀ σ H Q, t' σ H Q -> t σ H Q) : PW X e t' := fun wh pins s σ H Q I q => h wh pins s σ H Q I (f σ H Q q)
theorem PA.wk {es : List Expr} {t t' : TA} (h : PA X es t) (f : ∀ σ H Q, t' σ H Q -> t σ H Q) : PA X es t' := fun pos pins s σ H Q I q => h pos pins s σ H Q I (f σ H Q q)
theorem PO.wk {e : Option Expr} {t t' : TO} (h : PO X e t) (f : ∀ σ H Q, t' σ H Q -> t σ H Q) : PO X e t' := fun pins s σ H Q I q => h pins s σ H Q I (f σ H Q q)
def dC (d : PyData)  (ρ : List Sl) (Q : PyData -> List Sl -> Prop) : Prop := Q d ρ
theorem A8m {e : Expr} {v : V} {d : PyData} (h : PE X e (tC v)) (t : ∀ F H, ThV F H v d) : PE X e (eOf C (dC d)) := PE.wk h fun _ _ _ zz1 => el3 zz1 fun _ _ _ zz2 ht k => zz2.elim fun col r => k _ _ _ _ ⟨col, r.push (t _ _)⟩ ht
theorem B1 {i j pos} : PE X (.Constant (.int i) j pos) (eOf C (dC (.int i))) := A8m G0 fun _ _ => .int i
theorem O6 {b j pos} : PE X (.Constant (.bool b) j pos) (eOf C (dC (.bool b))) := A8m B1b fun _ _ => .bl b
theorem J6 {j pos} : PE X (.Constant .none j pos) (eOf C (dC .none)) := A8m A9k fun _ _ => .non
theorem B52 {x j pos} : PE X (.Constant (.str x) j pos) (eOf C (dC (.str x))) := A8m B91 fun _ _ => .str x
theorem E9 {e : Expr} {i : Int} (h : PE X e (tC (.int i))) : PE X e (eOf C (dC (.int i))) := A8m h fun _ _ => .int i
theorem L0 {α : Type} {o : Option (Option α)} {v : α} (h : o.join = some v) : o = some (some v) := by
 cases o with
 | none => cases h
 | some q => exact congrArg some h
def A03 (i : Nat)  (ρ : List Sl) (Q : PyData -> List Sl -> Prop) : Prop := match ρ[i]? with
 | some (.sh d) => Q d ρ
 | some (.ow ds) => Q (.list ds) (ρ.set i (.sh (.list ds)))
 | _ => False
theorem A1 {e : Expr} {i : Nat} (h : PE X e (N5 i)) : PE X e (eOf C (A03 i)) := PE.wk h fun σ H Q zz3 => el3 zz3 fun ρ P Qd zz4 ht k => zz4.elim fun col r => by
 unfold A03 at ht
 split at ht
 ·rename_i d e
  obtain ⟨v, e1, t⟩ := r.sl i _ e
  exact ⟨v, L0 e1, k _ _ _ _ ⟨col, r.push t⟩ ht⟩
 ·rename_i ds e
  obtain ⟨a, e1, R⟩ := r.freeze e
  exact ⟨_, L0 e1, k _ _ _ _ R ht⟩
 ·exact ht.elim
def O3 (ρ : List Sl) (i : Nat) : Option PyData := match ρ[i]? with
 | some (.sh d) => some d
 | some (.ow ds) => some (.list ds)
 | some (.bo ds) => some (.list ds)
 | _ => none
inductive Red (col : Addr -> Nat) (H : Hp) : V -> PyData -> Prop
 | th {v d} : ThV (Z col) H v d -> Red col H v d
 | ls {a vs ds} : H a = some (.lst vs) -> B0 (Z col) H vs ds -> Red col H (.ref a) (.list ds)
theorem B8.slot {col : Addr -> Nat} {ρ : List Sl} {σ : St} {P : List Pe} {H : Hp} (r : B8 C col ρ σ P H) {i : Nat} {d : PyData} (h : O3 ρ i = some d) : ∃ v, σ[i]? = some (some v) /\ Red col H v d := by
 unfold O3 at h
 split at h
 ·rename_i d' e
  cases h
  obtain ⟨v, e1, t⟩ := r.sl i _ e
  exact ⟨v, L0 e1, .th t⟩
 ·rename_i ds e
  cases h
  obtain ⟨a, vs, e1, _, _, e2, t⟩ := r.sl i _ e
  exact ⟨_, L0 e1, .ls e2 t⟩
 ·rename_i ds e
  cases h
  obtain ⟨a, vs, e1, _, _, e2, t⟩ := r.sl i _ e
  exact ⟨_, L0 e1, .ls e2 t⟩
 ·cases h
theorem Red.lst {col : Addr -> Nat} {H : Hp} {v : V} {ds : List PyData} (h : Red col H v (.list ds)) : ∃ a vs, v = .ref a /\ H a = some (.lst vs) /\ B0 (Z col) H vs ds := by
 cases h with
 | th t => cases t with
  | lst _ e t => exact ⟨_, _, rfl, e, t⟩
 | ls e t => exact ⟨_, _, rfl, e, t⟩
theorem Red.tup {col : Addr -> Nat} {H : Hp} {v : V} {ds : List PyData} (h : Red col H v (.tuple ds)) : ∃ a vs, v = .ref a /\ H a = some (.tup vs) /\ B0 (Z col) H vs ds := by
 cases h with
 | th t => cases t with
  | tup _ e t => exact ⟨_, _, rfl, e, t⟩
abbrev G2 := PyData -> PyData -> (PyData -> Prop) -> Prop
def N8 (C : DC) (r : R2) (g : G2) : Prop :=
 ∀ {ρ : List Sl} {σ : St} {P : List Pe} {H : Hp} {v w : V} {a b : PyData} {Qd : PyData -> Prop} {Q : VK}, Rel C ρ σ (.v w b :: .v v a :: P) H -> g a b Qd -> (∀ u d H', Rel C ρ σ (.v u d :: P) H' -> Qd d -> Q u H') -> r v w H Q
def dOp (g : G2) (ta tb : DE)  (ρ : List Sl) (Q : PyData -> List Sl -> Prop) : Prop := ta ρ fun a ρ1 => tb ρ1 fun b ρ2 => g a b fun d => Q d ρ2
theorem B15 {r : R2} {g : G2} {ta tb : DE} (hg : N8 C r g) {σ : St} {H : Hp} {Q : VK} (h : eOf C (dOp g ta tb) σ H Q) : tOp r (eOf C ta) (eOf C tb) σ H Q := by
 obtain ⟨ρ, P, Qd, R, ht, k⟩ := h
 exact ⟨ρ, P, _, R, ht, fun v a ρ1 H1 R1 h1 => ⟨ρ1, _, _, R1, h1, fun w b ρ2 H2 R2 h2 => hg R2 h2 fun u d H' R' q => k u d ρ2 H' R' q⟩⟩
variable {a b : Expr} {ta tb : DE} {pos : Pos}
theorem F2 {op : Operator} {r : R2} {g : G2} (ho : OpR X (binaryOp op) r) (hg : N8 C r g) (ha : PE X a (eOf C ta)) (hb : PE X b (eOf C tb)) : PE X (.BinOp a op b pos) (eOf C (dOp g ta tb)) := PE.wk (O2 ho ha hb) fun _ _ _ h => B15 hg h
theorem Z6 {op : CmpOp} {r : R2} {g : G2} (ho : OpR X (compareOp op) r) (hg : N8 C r g) (ha : PE X a (eOf C ta)) (hb : PE X b (eOf C tb)) (hm : behindInMarks op b = false) : PE X (.Compare a [op] [b] pos) (eOf C (dOp g ta tb)) := PE.wk (A9n ho ha hb hm) fun _ _ _ h => B15 hg h
def dT (t : DE)  (ρ : List Sl) (Q : Bool -> List Sl -> Prop) : Prop := t ρ fun d ρ' => match d with
 | .bool b => Q b ρ'
 | _ => False
theorem B16 {t : DE} {σ : St} {H : Hp} {Q : Bool -> Hp -> Prop} (h : cOf C (dT t) σ H Q) : eOf C t σ H fun x H' => ∃ k, x = .bl k /\ Q k H' := by
 obtain ⟨ρ, P, Qd, R, ht, k⟩ := h
 refine ⟨ρ, P, _, R, ht, fun v d ρ' H' R' q => ?_⟩
 split at q
 ·obtain ⟨col, r⟩ := R'
  have t := r.pd _ B4
  cases (show ThV (Z col) H' v (.bool _) from t)
  exact ⟨_, rfl, k _ _ _ (Rel.pop ⟨col, r⟩) q⟩
 ·exact q.elim
theorem U9 {e : Expr} {t : DE} (h : PE X e (eOf C t)) (he : ∀ whole, isTrue e X.env whole = (do let v <- whole; standAt e.pos; holding [v] (truthy v)) := by intro _; rfl) : PT X e (cOf C (dT t)) := PT.wk (B4e h he) fun _ _ _ h => B16 h
theorem F8 {op : CmpOp} {r : R2} {g : G2} (ho : OpR X (compareOp op) r) (hg : N8 C r g) (ha : PE X a (eOf C ta)) (hb : PE X b (eOf C tb)) (hm : behindInMarks op b = false) : PT X (.Compare a [op] [b] pos) (cOf C (dT (dOp g ta tb))) :=
 PT.wk (A0y ho ha hb hm) fun σ H Q h => B15 hg (B16 h)
def A2a (t : DT)  (ρ : List Sl) (Q : Bool -> List Sl -> Prop) : Prop := t ρ fun b ρ' => Q (!b) ρ'
theorem g5 {t : DT} (h : PT X a (cOf C t)) : PT X (.UnaryOp .Not a pos) (cOf C (A2a t)) := PT.wk (B4f h) fun _ _ _ zz5 => el3 zz5 fun ρ P _ R ht k => ⟨ρ, P, _, R, ht, fun b ρ' H' R' q => k _ _ _ R' q⟩
def A2b (t u : DT)  (ρ : List Sl) (Q : Bool -> List Sl -> Prop) : Prop := t ρ fun b ρ' => if b = true then u ρ' Q else Q false ρ'
def dOr (t u : DT)  (ρ : List Sl) (Q : Bool -> List Sl -> Prop) : Prop := t ρ fun b ρ' => if b = true then Q true ρ' else u ρ' Q
variable {t u : DT} {P9 : List Expr}
theorem A48 (h : PT X a (cOf C t)) : PW X (.BoolOp .And [a] pos) (cOf C t) := B1c h
theorem Y2 (h : PT X a (cOf C t)) : PW X (.BoolOp .Or [a] pos) (cOf C t) := B94 h
theorem A49 (ha : PT X a (cOf C t)) (hb : PW X (.BoolOp .And (b :: P9) pos) (cOf C u)) : PW X (.BoolOp .And (a :: b :: P9) pos) (cOf C (A2b t u)) := PW.wk (B1d ha hb) fun _ _ _ zz6 => el3 zz6 fun ρ P Qd R ht k =>
 ⟨ρ, P, _, R, ht, fun b ρ' H' R' q => by
  cases b with
  | true => exact ⟨ρ', P, Qd, R', by simpa using q, k⟩
  | false => exact k _ _ _ R' (by simpa using q)⟩
theorem W7 (ha : PT X a (cOf C t)) (hb : PW X (.BoolOp .Or (b :: P9) pos) (cOf C u)) : PW X (.BoolOp .Or (a :: b :: P9) pos) (cOf C (dOr t u)) := PW.wk (B95 ha hb) fun _ _ _ zz7 => el3 zz7 fun ρ P Qd R ht k =>
 ⟨ρ, P, _, R, ht, fun b ρ' H' R' q => by
  cases b with
  | true => exact k _ _ _ R' (by simpa using q)
  | false => exact ⟨ρ', P, Qd, R', by simpa using q, k⟩⟩
def dBV (t : DE) (f : Bool -> List Sl -> Prop)  (ρ : List Sl) : Prop := t ρ fun d ρ' => match d with
 | .bool b => f b ρ'
 | _ => False
def A2c (ta tb : DE)  (ρ : List Sl) (Q : PyData -> List Sl -> Prop) : Prop := dBV ta (fun b ρ' => if b = true then tb ρ' Q else Q (.bool false) ρ') ρ
def A2d (ta tb : DE)  (ρ : List Sl) (Q : PyData -> List Sl -> Prop) : Prop := dBV ta (fun b ρ' => if b = true then Q (.bool true) ρ' else tb ρ' Q) ρ
def A2e (ta : DE)  (ρ : List Sl) (Q : PyData -> List Sl -> Prop) : Prop := dBV ta (fun b ρ' => Q (.bool (!b)) ρ') ρ
theorem B17 {f : Bool -> List Sl -> Prop} {ρ : List Sl} {σ : St} {P : List Pe} {H : Hp} {Q : VK} (R : Rel C ρ σ P H) (ht : dBV ta f ρ) (k : ∀ c ρ' H', Rel C ρ' σ P H' -> f c ρ' -> Q (.bl c) H') : eOf C ta σ H Q := by
 refine ⟨ρ, P, _, R, ht, fun v d ρ' H' R' q => ?_⟩
 split at q
 ·obtain ⟨col, r⟩ := R'
  have t := r.pd _ B4
  cases (show ThV (Z col) H' v (.bool _) from t)
  exact k _ _ _ (Rel.pop ⟨col, r⟩) q
 ·exact q.elim
theorem Z7 {op} (h : PE X a (eOf C ta)) : PE X (.BoolOp op [a] pos) (eOf C ta) := B1e h
theorem A04 (ha : PE X a (eOf C ta)) (hb : PE X (.BoolOp .And (b :: P9) pos) (eOf C tb)) : PE X (.BoolOp .And (a :: b :: P9) pos) (eOf C (A2c ta tb)) := PE.wk (B4g ha hb) fun _ _ _ zz8 => el3 zz8 fun _ P Qd R ht k =>
 B17 R ht fun c ρ' H' R' q => ⟨c, rfl, by
  cases c with
  | true => exact M2 ⟨ρ', P, Qd, R', by simpa using q, k⟩
  | false =>
   obtain ⟨col, r⟩ := R'
   exact L4 (k _ _ _ _ ⟨col, r.push (.bl false)⟩ (by simpa using q))⟩
theorem A9u (ha : PE X a (eOf C ta)) (hb : PE X (.BoolOp .Or (b :: P9) pos) (eOf C tb)) : PE X (.BoolOp .Or (a :: b :: P9) pos) (eOf C (A2d ta tb)) := PE.wk (B4h ha hb) fun _ _ _ zz9 => el3 zz9 fun _ P Qd R ht k =>
 B17 R ht fun c ρ' H' R' q => ⟨c, rfl, by
  cases c with
  | true =>
   obtain ⟨col, r⟩ := R'
   exact M2 (k _ _ _ _ ⟨col, r.push (.bl true)⟩ (by simpa using q))
  | false => exact L4 ⟨ρ', P, Qd, R', by simpa using q, k⟩⟩
theorem A9v (ha : PE X a (eOf C ta)) : PE X (.UnaryOp .Not a pos) (eOf C (A2e ta)) := PE.wk (B99 ha) fun _ _ _ zz10 => el3 zz10 fun _ _ _ R ht k =>
 B17 R ht fun c ρ' H' zz11 q => zz11.elim fun col r => ⟨c, rfl, k _ _ _ _ ⟨col, r.push (.bl _)⟩ q⟩
def A2f (ta : DE)  (ρ : List Sl) (Q : PyData -> List Sl -> Prop) : Prop := ta ρ fun d ρ' => match d with
 | .int i => Q (.int (-i)) ρ'
 | _ => False
theorem j9 (ha : PE X a (eOf C ta)) : PE X (.UnaryOp .USub a pos) (eOf C (A2f ta)) := PE.wk (C0n C0p ha) fun _ _ _ zz12 => el3 zz12 fun ρ P _ R ht k => ⟨ρ, P, _, R, ht, fun v d ρ' H' R' q => by
 split at q
 ·obtain ⟨col, r⟩ := R'
  have t := r.pd _ B4
  cases (show ThV (Z col) H' v (.int _) from t)
  exact ⟨_, rfl, k _ _ _ _ ⟨col, (r.sub fun _ h => A9 _ h).push (.int _)⟩ q⟩
 ·exact q.elim⟩
def dIf (c : DT) (ta tb : DE)  (ρ : List Sl) (Q : PyData -> List Sl -> Prop) : Prop := c ρ fun b ρ' => if b = true then ta ρ' Q else tb ρ' Q
theorem B18 {c : Expr} (hc : PT X c (cOf C t)) (ha : PE X a (eOf C ta)) (hb : PE X b (eOf C tb)) : PE X (.IfExp c a b pos) (eOf C (dIf t ta tb)) := PE.wk (C0a hc ha hb) fun _ _ _ zz13 => el3 zz13 fun ρ P Qd R ht k =>
 ⟨ρ, P, _, R, ht, fun b ρ' H' R' q => by
  cases b with
  | true => exact M2 ⟨ρ', P, Qd, R', by simpa using q, k⟩
  | false => exact L4 ⟨ρ', P, Qd, R', by simpa using q, k⟩⟩
def v3 (g g' : G2) (ta tb tc : DE)  (ρ : List Sl) (Q : PyData -> List Sl -> Prop) : Prop := ta ρ fun a ρ1 => tb ρ1 fun b ρ2 => g a b fun z => match z with
 | .bool k => if k = true then tc ρ2 fun c ρ3 => g' b c fun d => Q d ρ3 else Q (.bool false) ρ2
 | _ => False
end
def gI (c : Int -> Int -> Prop) (f : Int -> Int -> PyData)  (a b : PyData) (Q : PyData -> Prop) : Prop := match a, b with
 | .int i, .int j => c i j /\ Q (f i j)
 | _, _ => False
def gI0 (f : Int -> Int -> PyData)  (a b : PyData) (Q : PyData -> Prop) : Prop := match a, b with
 | .int i, .int j => Q (f i j)
 | _, _ => False
section
variable {C : DC} {X : Cx}
theorem th2 {ρ : List Sl} {σ : St} {P : List Pe} {H : Hp} {v w : V} {a b : PyData} (r : Rel C ρ σ (.v w b :: .v v a :: P) H) : ∃ col, B8 C col ρ σ P H /\ ThV (Z col) H v a /\ ThV (Z col) H w b := by
 obtain ⟨col, r⟩ := r
 exact ⟨col, r.sub fun _ h => A9 _ (A9 _ h), r.pd _ (A9 _ B4), r.pd _ B4⟩
theorem A2g {f : Int -> Int -> V} {g : Int -> Int -> PyData} (h : ∀ i j F H, ThV F H (f i j) (g i j)) : N8 C (rI0 f) (gI0 g) := by
 intro ρ σ P H v w a b Qd Q R hg k
 unfold gI0 at hg
 split at hg
 ·obtain ⟨col, r, t1, t2⟩ := th2 R
  cases t1; cases t2
  exact ⟨_, _, rfl, rfl, k _ _ _ ⟨col, r.push (h _ _ _ _)⟩ hg⟩
 ·exact hg.elim
theorem A8n {c : Int -> Int -> Prop} {f : Int -> Int -> V} {g : Int -> Int -> PyData} (h : ∀ i j F H, ThV F H (f i j) (g i j)) : N8 C (rI c f) (gI c g) := by
 intro ρ σ P H v w a b Qd Q R hg k
 unfold gI at hg
 split at hg
 ·obtain ⟨col, r, t1, t2⟩ := th2 R
  cases t1; cases t2
  exact ⟨_, _, rfl, rfl, hg.1, k _ _ _ ⟨col, r.push (h _ _ _ _)⟩ hg.2⟩
 ·exact hg.elim
def A2h : G2 := gI0 fun i j => .int (i + j)
def A2i : G2 := gI0 fun i j => .int (i - j)
def A2j : G2 := gI A8h fun i j => .int (i * j)
def A2k : G2 := gI (fun _ j => 0 < j) fun i j => .int (i % j)
def A2l : G2 := gI B1x fun i j => .int (i / j)
def A2m : G2 := gI A4y fun i j => .int (i ^ j.toNat)
def gLt : G2 := gI0 fun i j => .bool (decide (i < j))
def gLe : G2 := gI0 fun i j => .bool (decide (i <= j))
def gGt : G2 := gI0 fun i j => .bool (decide (j < i))
def gGe : G2 := gI0 fun i j => .bool (decide (j <= i))
theorem M4 : N8 C (rI0 (fun i j => .int (i + j))) A2h := A2g (f := fun i j => .int (i + j)) fun _ _ _ _ => .int _
theorem A05 : N8 C (rI0 (fun i j => .int (i - j))) A2i := A2g (f := fun i j => .int (i - j)) fun _ _ _ _ => .int _
theorem B19 : N8 C (rI A8h (fun i j => .int (i * j))) A2j := A8n (f := fun i j => .int (i * j)) fun _ _ _ _ => .int _
theorem B2a : N8 C (rI (fun _ j => 0 < j) (fun i j => .int (i % j))) A2k := A8n (f := fun i j => .int (i % j)) fun _ _ _ _ => .int _
theorem A9w : N8 C (rI B1x (fun i j => .int (i / j))) A2l := A8n (f := fun i j => .int (i / j)) fun _ _ _ _ => .int _
theorem A2n : N8 C (rI A4y (fun i j => .int (i ^ j.toNat))) A2m := A8n (f := fun i j => .int (i ^ j.toNat)) fun _ _ _ _ => .int _
theorem m5 : N8 C (rI0 (fun i j => .bl (decide (i < j)))) gLt := A2g (f := fun i j => .bl (decide (i < j))) fun _ _ _ _ => .bl _
theorem C2k : N8 C (rI0 (fun i j => .bl (decide (i <= j)))) gLe := A2g (f := fun i j => .bl (decide (i <= j))) fun _ _ _ _ => .bl _
theorem A2o : N8 C (rI0 (fun i j => .bl (decide (j < i)))) gGt := A2g (f := fun i j => .bl (decide (j < i))) fun _ _ _ _ => .bl _
theorem C2l : N8 C (rI0 (fun i j => .bl (decide (j <= i)))) gGe := A2g (f := fun i j => .bl (decide (j <= i))) fun _ _ _ _ => .bl _
def gEq (neg : Bool)  (a b : PyData) (Q : PyData -> Prop) : Prop := a.canLay0 = true /\ b.canLay0 = true /\ min a.depth b.depth <= 64 /\ Q (.bool (if neg then !PyData.eqv a b else PyData.eqv a b))
theorem Q0 {K : A4} {neg : Bool} : N8 C (B1z K neg) (gEq neg) := by
 intro ρ σ P H v w a b Qd Q R hg k
 obtain ⟨col, r, t1, t2⟩ := th2 R
 exact ⟨a, b, t1.dat hg.1, t2.dat hg.2.1, hg.1, hg.2.1, hg.2.2.1, k _ _ _ ⟨col, r.push (.bl _)⟩ hg.2.2.2⟩
def isN : PyData -> Bool
 | .none => true
 | _ => false
def m6 (neg : Bool)  (a b : PyData) (Q : PyData -> Prop) : Prop := match b with
 | .none => Q (.bool (if neg then !isN a else isN a))
 | _ => False
theorem B53 {F : Addr -> Prop} {H : Hp} {v : V} {a : PyData} (t : ThV F H v a) : decide (v = V.non) = isN a := by
 cases t <;> simp [isN]
theorem V0 : N8 C (fun x y H Q => y = .non /\ Q (.bl (decide (x = .non))) H) (m6 false) := by
 intro ρ σ P H v w a b Qd Q R hg k
 unfold m6 at hg
 split at hg
 ·obtain ⟨col, r, t1, t2⟩ := th2 R
  cases t2
  refine ⟨rfl, k _ _ _ ⟨col, r.push (d := .bool (isN a)) ?_⟩ hg⟩
  rw [B53 t1]; exact .bl _
 ·exact hg.elim
theorem v4 : N8 C (fun x y H Q => y = .non /\ Q (.bl (!decide (x = .non))) H) (m6 true) := by
 intro ρ σ P H v w a b Qd Q R hg k
 unfold m6 at hg
 split at hg
 ·obtain ⟨col, r, t1, t2⟩ := th2 R
  cases t2
  refine ⟨rfl, k _ _ _ ⟨col, r.push (d := .bool (!isN a)) ?_⟩ hg⟩
  rw [B53 t1]; exact .bl _
 ·exact hg.elim
end
section
variable {X : Cx} {C : DC} {a b c : Expr} {ta tb tc : DE} {pos : Pos}
theorem B54 {f f' : Int -> Int -> Bool} {σ : St} {H : Hp} {Q : VK} (h : eOf C (v3 (gI0 fun i j => .bool (f i j)) (gI0 fun i j => .bool (f' i j)) ta tb tc) σ H Q) :
  B1l (rI0 fun i j => .bl (f i j)) (rI0 fun i j => .bl (f' i j)) (eOf C ta) (eOf C tb) (eOf C tc) σ H Q := by
 obtain ⟨ρ, P, Qd, R, ht, k⟩ := h
 exact ⟨ρ, P, _, R, ht, fun v x ρ1 H1 R1 h1 => ⟨ρ1, _, _, R1, h1, fun w y ρ2 H2 R2 h2 => by
  obtain ⟨col, r, t1, t2⟩ := th2 R2
  cases x with
  | int i =>
   cases y with
   | int j =>
    cases t1; cases t2
    refine ⟨i, j, rfl, rfl, f i j, rfl, ?_⟩
    have h2' : if f i j = true then tc ρ2 (fun c ρ3 => gI0 (fun i j => .bool (f' i j)) (.int j) c fun d => Qd d ρ3) else Qd (.bool false) ρ2 := h2
    cases e : f i j with
    | true =>
     rw [e] at h2'
     refine M2 ⟨ρ2, P, _, ⟨col, r⟩, by simpa using h2', fun u z ρ3 H3 R3 h3 => ?_⟩
     obtain ⟨col3, r3⟩ := R3
     have t3 := r3.pd _ B4
     cases z with
     | int l =>
      cases (show ThV (Z col3) H3 u (.int l) from t3)
      exact ⟨j, l, rfl, rfl, k _ _ _ _ ⟨col3, (r3.sub fun _ h => A9 _ h).push (.bl _)⟩ h3⟩
     | _ => exact h3.elim
    | false =>
     rw [e] at h2'
     exact L4 (k _ _ _ _ ⟨col, r.push (.bl false)⟩ (by simpa using h2'))
   | _ => exact h2.elim
  | _ => exact h2.elim⟩⟩
theorem B2b {op op' : CmpOp} {f f' : Int -> Int -> Bool} (ho : OpR X (compareOp op) (rI0 fun i j => .bl (f i j))) (ho' : OpR X (compareOp op') (rI0 fun i j => .bl (f' i j))) (ha : PE X a (eOf C ta)) (hb : PE X b (eOf C tb)) (hc : PE X c (eOf C tc))
  (hm : lastMarks [op, op'] [b, c] = false := by with_unfolding_all rfl) : PE X (.Compare a [op, op'] [b, c] pos) (eOf C (v3 (gI0 fun i j => .bool (f i j)) (gI0 fun i j => .bool (f' i j)) ta tb tc)) := PE.wk (C0v ho ho' ha hb hc hm) fun _ _ _ h => B54 h
theorem C2m {op op' : CmpOp} {f f' : Int -> Int -> Bool} (ho : OpR X (compareOp op) (rI0 fun i j => .bl (f i j))) (ho' : OpR X (compareOp op') (rI0 fun i j => .bl (f' i j))) (ha : PE X a (eOf C ta)) (hb : PE X b (eOf C tb)) (hc : PE X c (eOf C tc))
  (hm : lastMarks [op, op'] [b, c] = false := by with_unfolding_all rfl) : PT X (.Compare a [op, op'] [b, c] pos) (cOf C (dT (v3 (gI0 fun i j => .bool (f i j)) (gI0 fun i j => .bool (f' i j)) ta tb tc))) := PT.wk (C0w ho ho' ha hb hc hm) fun _ _ _ h => B54 (B16 h)
end
end My
namespace My
open PySem L2
section
variable {X : Cx} {C : DC} {e a b : Expr} {es : List Expr} {t ta tb : DE} {u : DF} {pos : Pos}
theorem B55 {P P' : List Pe} {x : Pe} (h : ∀ p ∈ P, p ∈ P') : ∀ p ∈ x :: P, p ∈ x :: P' := fun p hp => (K1.mp hp).elim (fun e => e ▸ B4) fun hp => A9 _ (h p hp)
def A2p  (ρ : List Sl) (Q : List PyData -> List Sl -> Prop) : Prop := Q [] ρ
def A2q (t : DE) (u : DF)  (ρ : List Sl) (Q : List PyData -> List Sl -> Prop) : Prop := t ρ fun d ρ1 => u ρ1 fun ds ρ2 => Q (d :: ds) ρ2
theorem C5 : PA X [] (vOf C A2p) := PA.wk D6 fun _ _ _ zz1 => el3 zz1 fun _ _ _ R ht k => k [] [] _ _ _ R (fun _ h => h) .nil ht
theorem A8 (ha : PE X e (eOf C t)) (hr : PA X es (vOf C u)) (hs : starEach (e :: es) X.env = (false, eval e X.env) :: starEach es X.env := by rfl) : PA X (e :: es) (vOf C (A2q t u)) := PA.wk (C3 ha hr hs) fun _ _ _ zz2 => el3 zz2 fun ρ P _ R ht k =>
 ⟨ρ, P, _, R, ht, fun _ _ ρ1 _ R1 h1 => ⟨ρ1, _, _, R1, h1, fun _ _ _ _ _ R2 s2 p2 h2 => k _ _ _ _ _ R2 (fun p hp => s2 p (A9 _ hp)) (.cons (s2 _ B4) p2) h2⟩⟩
def A2r (t : DF)  (ρ : List Sl) (Q : PyData -> List Sl -> Prop) : Prop := t ρ fun ds ρ' => ds.length <= 1000 /\ Q (.tuple ds) ρ'
theorem Q8 {x1} (h : PA X es (vOf C u)) : PE X (.Tuple es x1 pos) (eOf C (A2r u)) := PE.wk (C03 h) fun _ _ _ zz3 => el3 zz3 fun ρ P _ R ht k => ⟨ρ, P, _, R, ht, fun vs ds ρ' P' H' zz4 s p q => zz4.elim fun col r =>
 ⟨by rw [(p.th r).len]; exact A0j (A16 q.1), fun b hb => k _ _ _ _ ⟨col, (r.tup (p.th r) hb).sub (B55 s)⟩ q.2⟩⟩
def A2s (t : DF)  (ρ : List Sl) (Q : List PyData -> List Sl -> Prop) : Prop := t ρ fun ds ρ' => ds.length <= 1000 /\ Q ds ρ'
theorem L6 (h : PA X es (vOf C u)) : PE X (.List es pos) (fOf C (A2s u)) := PE.wk (B4u h) fun _ _ _ zz5 => el3 zz5 fun ρ P _ R ht k => ⟨ρ, P, _, R, ht, fun vs ds ρ' P' H' zz6 s p q => zz6.elim fun col r =>
 ⟨by rw [(p.th r).len]; exact A0j (A16 q.1), fun b hb => k _ _ _ _ _ ⟨col, r.sub s, p.th r⟩ hb q.2⟩⟩
def dF (t : DF)  (ρ : List Sl) (Q : PyData -> List Sl -> Prop) : Prop := t ρ fun ds ρ' => Q (.list ds) ρ'
theorem D9 (h : PE X e (fOf C u)) : PE X e (eOf C (dF u)) := PE.wk h fun _ _ _ zz7 => el3 zz7 fun ρ P _ R ht k => ⟨ρ, P, _, R, ht, fun _ _ _ _ _ zz8 hp q => el2 zz8 fun col r t => k _ _ _ _ ⟨col, r.lst t hp⟩ q⟩
def ixD (a b : PyData) : Option PyData := match a, b with
 | .list xs, .int i => atI xs i
 | .tuple xs, .int i => atI xs i
 | _, _ => none
theorem A8o {F : Addr -> Prop} {H : Hp} {vs : List V} {ds : List PyData} {i : Int} {d : PyData} (t : B0 F H vs ds) (h : atI ds i = some d) : ∃ v, atI vs i = some v /\ ThV F H v d := by
 unfold atI at h ⊢
 rw [t.len]
 cases q : ixN ds.length i with
 | none => rw [q] at h; cases h
 | some j =>
  rw [q] at h
  exact t.at h
theorem B56 {K : A4} {col : Addr -> Nat} {H : Hp} {v w : V} {a b d : PyData} (t1 : Red col H v a) (t2 : ThV (Z col) H w b) (h : ixD a b = some d) : ∃ u, ThV (Z col) H u d /\ ∀ Q : VK, Q u H -> rIx K v w H Q := by
 unfold ixD at h
 split at h
 ·cases t2
  obtain ⟨p, vs, rfl, e, t⟩ := t1.lst
  obtain ⟨u, hu, tu⟩ := A8o t h
  exact ⟨u, tu, fun Q q => .inl ⟨p, vs, _, u, rfl, rfl, SqL.of e, hu, q⟩⟩
 ·cases t2
  obtain ⟨p, vs, rfl, e, t⟩ := t1.tup
  obtain ⟨u, hu, tu⟩ := A8o t h
  exact ⟨u, tu, fun Q q => .inr (.inl ⟨p, vs, _, u, rfl, rfl, SqT.of e, hu, q⟩)⟩
 ·cases h
def dIx (ta tb : DE)  (ρ : List Sl) (Q : PyData -> List Sl -> Prop) : Prop := ta ρ fun a ρ1 => tb ρ1 fun b ρ2 => bnd (ixD a b) fun d => Q d ρ2
theorem K7 (ha : PE X a (eOf C ta)) (hb : PE X b (eOf C tb)) (hs : A41 b) : PE X (.Subscript a b pos) (eOf C (dIx ta tb)) := PE.wk (M9 j7 ha hb hs) fun _ _ _ zz9 => el3 zz9 fun ρ P _ R ht k => ⟨ρ, P, _, R, ht, fun v _ ρ1 H1 R1 h1 => ⟨ρ1, _, _, R1, h1, fun w _ ρ2 H2 R2 h2 => by
 obtain ⟨d, hd, q⟩ := G9 h2
 obtain ⟨col, r, t1, t2⟩ := th2 R2
 obtain ⟨u, tu, f⟩ := B56 (K := X.K) (.th t1) t2 hd
 exact f _ (k _ _ _ _ ⟨col, r.push tu⟩ q)⟩⟩
def A2t (i : Nat) (tb : DE)  (ρ : List Sl) (Q : PyData -> List Sl -> Prop) : Prop := bnd (O3 ρ i) fun _ => tb ρ fun b ρ2 => bnd (O3 ρ2 i) fun a => bnd (ixD a b) fun d => Q d ρ2
theorem B9 {i : Nat} (ha : PE X a (N5 i)) (hb : PE X b (eOf C tb)) (hs : A41 b) : PE X (.Subscript a b pos) (eOf C (A2t i tb)) := PE.wk (M9 j7 ha hb hs) fun σ H Q zz10 => el3 zz10 fun ρ P Qd zz11 ht k => zz11.elim fun col0 r0 => by
 obtain ⟨_, h0, ht⟩ := G9 ht
 obtain ⟨v, ev, _⟩ := r0.slot h0
 refine ⟨v, ev, ρ, P, _, ⟨col0, r0⟩, ht, fun w b ρ2 H2 R2 h2 => ?_⟩
 obtain ⟨a, ha, h2⟩ := G9 h2
 obtain ⟨d, hd, q⟩ := G9 h2
 obtain ⟨col, r⟩ := R2
 obtain ⟨v', ev', t1⟩ := r.slot ha
 rw [ev] at ev'
 cases ev'
 obtain ⟨u, tu, f⟩ := B56 (K := X.K) t1 (r.pd _ B4) hd
 exact f _ (k _ _ _ _ ⟨col, (r.sub fun _ h => A9 _ h).push tu⟩ q)
def v5 (C : DC) (r : List V -> Hp -> VK -> Prop) (g : List PyData -> (PyData -> Prop) -> Prop) : Prop :=
 ∀ {ρ : List Sl} {σ : St} {P : List Pe} {col : Addr -> Nat} {H : Hp} {vs : List V} {ds : List PyData} {Qd : PyData -> Prop} {Q : VK}, B8 C col ρ σ P H -> B0 (Z col) H vs ds -> g ds Qd -> (∀ u d H', Rel C ρ σ (.v u d :: P) H' -> Qd d -> Q u H') -> r vs H Q
def dCb (g : List PyData -> (PyData -> Prop) -> Prop) (u : DF)  (ρ : List Sl) (Q : PyData -> List Sl -> Prop) : Prop := u ρ fun ds ρ' => g ds fun d => Q d ρ'
theorem P2 {r : List V -> Hp -> VK -> Prop} {g : List PyData -> (PyData -> Prop) -> Prop} (hr : v5 C r g) (h : PE X e (tCB r (vOf C u))) : PE X e (eOf C (dCb g u)) := PE.wk h fun _ _ _ zz12 => el3 zz12 fun ρ P _ R ht k => ⟨ρ, P, _, R, ht, fun vs ds ρ' P' H' zz13 s p q => zz13.elim fun col r =>
 hr (r.sub s) (p.th r) q fun u d H2 R2 q2 => k _ _ _ _ R2 q2⟩
theorem A5a {F : Addr -> Prop} {H : Hp} {vs : List V} {d : PyData} (t : B0 F H vs [d]) : ∃ v, vs = [v] /\ ThV F H v d := by
 cases t with
 | cons x y => cases y; exact ⟨_, rfl, x⟩
theorem A9x {F : Addr -> Prop} {H : Hp} {vs : List V} {d d' : PyData} (t : B0 F H vs [d, d']) : ∃ v w, vs = [v, w] /\ ThV F H v d /\ ThV F H w d' := by
 cases t with
 | cons x y =>
  obtain ⟨w, rfl, z⟩ := A5a y
  exact ⟨_, w, rfl, x, z⟩
def lenD : PyData -> Option Nat
 | .list xs => some xs.length
 | .tuple xs => some xs.length
 | _ => none
def A06  (ds : List PyData) (Q : PyData -> Prop) : Prop := match ds with
 | [d] => bnd (lenD d) fun n => Q (.int n)
 | _ => False
abbrev A8p (K : A4) : List V -> Hp -> VK -> Prop := fun xs H Q => ∃ p ys, xs = [.ref p] /\ (SqL K H p ys \/ SqT K H p ys) /\ Q (.int ys.length) H
theorem B57 {K : A4} {col : Addr -> Nat} {H : Hp} {v : V} {a : PyData} {n : Nat} {Q : VK} (t : Red col H v a) (h : lenD a = some n) (q : Q (.int n) H) : A8p K [v] H Q := by
 cases a with
 | list ds =>
  cases h
  obtain ⟨p, vs, rfl, e, t⟩ := t.lst
  exact ⟨p, vs, rfl, .inl (SqL.of e), by rw [t.len]; exact q⟩
 | tuple ds =>
  cases h
  obtain ⟨p, vs, rfl, e, t⟩ := t.tup
  exact ⟨p, vs, rfl, .inr (SqT.of e), by rw [t.len]; exact q⟩
 | _ => cases h
theorem B58 {K : A4} : v5 C (A8p K) A06 := by
 intro ρ σ P col H vs ds Qd Q r t g k
 unfold A06 at g
 split at g
 ·obtain ⟨v, rfl, t1⟩ := A5a t
  obtain ⟨n, hn, q⟩ := G9 g
  exact B57 (.th t1) hn (k _ _ _ ⟨col, r.push (.int _)⟩ q)
 ·exact g.elim
def A2u (i : Nat)  (ρ : List Sl) (Q : PyData -> List Sl -> Prop) : Prop := bnd (O3 ρ i) fun a => bnd (lenD a) fun n => Q (.int n) ρ
theorem S6 {i : Nat} {K : A4} (h : PE X e (tCB (A8p K) (Q6 (N5 i) U6))) : PE X e (eOf C (A2u i)) := PE.wk h fun _ _ _ zz14 => el3 zz14 fun ρ P _ zz15 ht k => zz15.elim fun col r => by
 obtain ⟨a, ha, ht⟩ := G9 ht
 obtain ⟨n, hn, q⟩ := G9 ht
 obtain ⟨v, ev, t⟩ := r.slot ha
 exact ⟨v, ev, B57 t hn (k _ _ _ _ ⟨col, r.push (.int _)⟩ q)⟩
def gI2 (f : Int -> Int -> Int)  (ds : List PyData) (Q : PyData -> Prop) : Prop := match ds with
 | [.int i, .int j] => Q (.int (f i j))
 | _ => False
theorem B59 {f : Int -> Int -> Int} : v5 C (fun xs H Q => ∃ i j, xs = [.int i, .int j] /\ Q (.int (f i j)) H) (gI2 f) := by
 intro ρ σ P col H vs ds Qd Q r t g k
 unfold gI2 at g
 split at g
 ·obtain ⟨v, w, rfl, t1, t2⟩ := A9x t
  cases t1; cases t2
  exact ⟨_, _, rfl, k _ _ _ ⟨col, r.push (.int _)⟩ g⟩
 ·exact g.elim
def A2v := gI2 fun i j => if j < i then j else i
def A2w := gI2 fun i j => if j > i then j else i
theorem A07 : v5 C (fun xs H Q => ∃ i j, xs = [.int i, .int j] /\ Q (.int (if j < i then j else i)) H) A2v := B59 (f := fun i j => if j < i then j else i)
theorem B6a : v5 C (fun xs H Q => ∃ i j, xs = [.int i, .int j] /\ Q (.int (if j > i then j else i)) H) A2w := B59 (f := fun i j => if j > i then j else i)
def A5b  (ds : List PyData) (Q : PyData -> Prop) : Prop := match ds with
 | [.int i] => Q (.int (if i < 0 then -i else i))
 | _ => False
def A08  (ds : List PyData) (Q : PyData -> Prop) : Prop := match ds with
 | [.int i] => Q (.int i)
 | [.bool b] => Q (.int (if b then 1 else 0))
 | _ => False
theorem B6b : v5 C (fun xs H Q => (∃ i, xs = [.int i] /\ Q (.int i) H) \/ ∃ k, xs = [.bl k] /\ Q (.int (if k then 1 else 0)) H) A08 := by
 intro ρ σ P col H vs ds Qd Q r t g k
 unfold A08 at g
 split at g
 ·obtain ⟨v, rfl, t1⟩ := A5a t
  cases t1
  exact .inl ⟨_, rfl, k _ _ _ ⟨col, r.push (.int _)⟩ g⟩
 ·obtain ⟨v, rfl, t1⟩ := A5a t
  cases t1
  exact .inr ⟨_, rfl, k _ _ _ ⟨col, r.push (.int _)⟩ g⟩
 ·exact g.elim
def A2x : List PyData -> Option (List Bool)
 | [] => some []
 | .bool b :: r => (A2x r).map (b :: ·)
 | _ :: _ => none
theorem C2n {F : Addr -> Prop} {H : Hp} {ds : List PyData} {vs : List V} {bs : List Bool} (t : B0 F H vs ds) (h : A2x ds = some bs) : vs = bs.map V.bl := by
 induction ds generalizing vs bs with
 | nil => cases t; cases h; rfl
 | cons d r ih =>
  cases t with
  | cons x y =>
   cases x with
   | bl b =>
    have h' : (A2x r).map (b :: ·) = some bs := h
    cases q : A2x r with
    | none => rw [q] at h'; cases h'
    | some cs =>
     rw [q] at h'
     cases h'
     rw [ih y q]; rfl
   | _ => cases h
def gBs (f : List Bool -> Bool)  (ds : List PyData) (Q : PyData -> Prop) : Prop := match ds with
 | [.list xs] => bnd (A2x xs) fun bs => Q (.bool (f bs))
 | _ => False
theorem B6c {K : A4} {f : List Bool -> Bool} : v5 C (fun xs H Q => ∃ (p : Addr) (bs : List Bool), xs = [.ref p] /\ SqL K H p (bs.map V.bl) /\ Q (.bl (f bs)) H) (gBs f) := by
 intro ρ σ P col H vs ds Qd Q r t g k
 unfold gBs at g
 split at g
 ·obtain ⟨bs, hb, q⟩ := G9 g
  obtain ⟨v, rfl, t1⟩ := A5a t
  cases t1 with
  | lst _ e t2 =>
   have z := C2n t2 hb
   subst z
   exact ⟨_, bs, rfl, SqL.of e, k _ _ _ ⟨col, r.push (.bl _)⟩ q⟩
 ·exact g.elim
def A2y := gBs fun bs => bs.all id
def A2z := gBs fun bs => bs.any id
theorem A5c {K : A4} : v5 C (fun xs H Q => ∃ (p : Addr) (bs : List Bool), xs = [.ref p] /\ SqL K H p (bs.map V.bl) /\ Q (.bl (bs.all id)) H) A2y := B6c
theorem B6d {K : A4} : v5 C (fun xs H Q => ∃ (p : Addr) (bs : List Bool), xs = [.ref p] /\ SqL K H p (bs.map V.bl) /\ Q (.bl (bs.any id)) H) A2z := B6c
abbrev C2o (K : A4) : List V -> Hp -> VK -> Prop := fun xs H Q => ∃ p ys, xs = [.ref p] /\ (SqL K H p ys \/ SqT K H p ys) /\ ∀ l, H l = none -> Q (.ref l) (upd H l (.lst ys))
def m7 : PyData -> Option (List PyData)
 | .list xs => some xs
 | .tuple xs => some xs
 | _ => none
theorem C2p {col : Addr -> Nat} {H : Hp} {v : V} {a : PyData} {ds : List PyData} (t : Red col H v a) (h : m7 a = some ds) : ∃ p vs, v = .ref p /\ (H p = some (.lst vs) \/ H p = some (.tup vs)) /\ B0 (Z col) H vs ds := by
 cases a with
 | list ds =>
  cases h
  obtain ⟨p, vs, rfl, e, t⟩ := t.lst
  exact ⟨p, vs, rfl, .inl e, t⟩
 | tuple ds =>
  cases h
  obtain ⟨p, vs, rfl, e, t⟩ := t.tup
  exact ⟨p, vs, rfl, .inr e, t⟩
 | _ => cases h
def A20 (i : Nat)  (ρ : List Sl) (Q : List PyData -> List Sl -> Prop) : Prop := bnd (O3 ρ i) fun a => bnd (m7 a) fun ds => Q ds ρ
theorem A09 {i : Nat} {K : A4} (h : PE X e (tCB (C2o K) (Q6 (N5 i) U6))) : PE X e (fOf C (A20 i)) := PE.wk h fun _ _ _ zz16 => el3 zz16 fun ρ P _ zz17 ht k => zz17.elim fun col r => by
 obtain ⟨a, ha, ht⟩ := G9 ht
 obtain ⟨ds, hn, q⟩ := G9 ht
 obtain ⟨v, ev, t⟩ := r.slot ha
 obtain ⟨p, vs, rfl, e, t⟩ := C2p t hn
 exact ⟨_, ev, p, vs, rfl, e.elim (fun e => .inl (SqL.of e)) (fun e => .inr (SqT.of e)), fun l hl => k _ _ _ _ _ ⟨col, r, t⟩ hl q⟩
def A5d (ta : DE)  (ρ : List Sl) (Q : List PyData -> List Sl -> Prop) : Prop := ta ρ fun a ρ' => bnd (m7 a) fun ds => Q ds ρ'
abbrev DO := List Sl -> (Option Int -> List Sl -> Prop) -> Prop
def oOf (C : DC) (t : DO) : TO := fun σ H Q => ∃ ρ P Qd, Rel C ρ σ P H /\ t ρ Qd /\ ∀ o ρ' H', Rel C ρ' σ P H' -> Qd o ρ' -> Q o H'
def oN  (ρ : List Sl) (Q : Option Int -> List Sl -> Prop) : Prop := Q none ρ
def oS (t : DE)  (ρ : List Sl) (Q : Option Int -> List Sl -> Prop) : Prop := t ρ fun d ρ' => match d with
 | .int i => Q (some i) ρ'
 | _ => False
theorem A1a : PO X none (oOf C oN) := PO.wk B40 fun _ _ _ zz20 => el3 zz20 fun _ _ _ R ht k => k _ _ _ R ht
theorem Z8 (h : PE X e (eOf C t)) : PO X (some e) (oOf C (oS t)) := PO.wk (B41 h) fun _ _ _ zz21 => el3 zz21 fun ρ P _ R ht k => ⟨ρ, P, _, R, ht, fun v d ρ' H' R' q => by
 split at q
 ·obtain ⟨col, r⟩ := R'
  have t := r.pd _ B4
  cases (show ThV (Z col) H' v (.int _) from t)
  exact ⟨_, rfl, k _ _ _ (Rel.pop ⟨col, r⟩) q⟩
 ·exact q.elim⟩
def V1 (xs : List PyData) (lo hi : Option Int) : List PyData := (xs.drop (HT.sIx xs.length 0 lo)).take (HT.sIx xs.length xs.length hi - HT.sIx xs.length 0 lo)
theorem B0.drop {F : Addr -> Prop} {H : Hp} : ∀ {vs : List V} {ds : List PyData} (n : Nat), B0 F H vs ds -> B0 F H (vs.drop n) (ds.drop n)
 | _, _, 0, h => h
 | _, _, _ + 1, .nil => .nil
 | _, _, n + 1, .cons _ t => B0.drop n t
theorem B0.take {F : Addr -> Prop} {H : Hp} : ∀ {vs : List V} {ds : List PyData} (n : Nat), B0 F H vs ds -> B0 F H (vs.take n) (ds.take n)
 | _, _, 0, _ => .nil
 | _, _, _ + 1, .nil => .nil
 | _, _, n + 1, .cons x t => .cons x (B0.take n t)
theorem B6e {F : Addr -> Prop} {H : Hp} {vs : List V} {ds : List PyData} (t : B0 F H vs ds) (lo hi : Option Int) : B0 F H (A15 vs lo hi) (V1 ds lo hi) := by
 unfold A15 V1
 rw [t.len]
 exact (t.drop _).take _
def M5 : PyData -> Option (List PyData)
 | .list xs => some xs
 | _ => none
def A21 (i : Nat) (tl th : DO)  (ρ : List Sl) (Q : List PyData -> List Sl -> Prop) : Prop := bnd (O3 ρ i) fun _ => tl ρ fun lo ρ1 => th ρ1 fun hi ρ2 => bnd (O3 ρ2 i) fun a => bnd (M5 a) fun xs => Q (V1 xs lo hi) ρ2
theorem A22 {i : Nat} {lo hi : Option Expr} {p2 : Pos} {tl th : DO} (ha : PE X a (N5 i)) (hl : PO X lo (oOf C tl)) (hh : PO X hi (oOf C th)) : PE X (.Subscript a (.Slice lo hi none p2) pos) (fOf C (A21 i tl th)) := PE.wk (B1q B1r ha hl hh) fun σ H Q zz22 => el3 zz22 fun ρ P Qd zz23 ht k => zz23.elim fun col0 r0 => by
 obtain ⟨_, h0, ht⟩ := G9 ht
 obtain ⟨v, ev, _⟩ := r0.slot h0
 refine ⟨v, ev, ρ, P, _, ⟨col0, r0⟩, ht, fun lo ρ1 H1 R1 h1 => ⟨ρ1, P, _, R1, h1, fun hi ρ2 H2 R2 h2 => ?_⟩⟩
 obtain ⟨a, ha, h2⟩ := G9 h2
 obtain ⟨xs, hx, q⟩ := G9 h2
 obtain ⟨col, r⟩ := R2
 obtain ⟨v', ev', t1⟩ := r.slot ha
 rw [ev] at ev'
 cases ev'
 cases a with
 | list ds =>
  cases hx
  obtain ⟨p, vs, rfl, e, t⟩ := t1.lst
  exact ⟨p, vs, rfl, SqL.of e, fun b hb => k _ _ _ _ _ ⟨col, r, B6e t lo hi⟩ hb q⟩
 | _ => cases hx
def dSl (ta : DE) (tl th : DO)  (ρ : List Sl) (Q : List PyData -> List Sl -> Prop) : Prop := ta ρ fun a ρ0 => tl ρ0 fun lo ρ1 => th ρ1 fun hi ρ2 => bnd (M5 a) fun xs => Q (V1 xs lo hi) ρ2
theorem B2c {lo hi : Option Expr} {p2 : Pos} {tl th : DO} (ha : PE X a (eOf C ta)) (hl : PO X lo (oOf C tl)) (hh : PO X hi (oOf C th)) : PE X (.Subscript a (.Slice lo hi none p2) pos) (fOf C (dSl ta tl th)) := PE.wk (B1q B1r ha hl hh) fun σ H Q zz24 => el3 zz24 fun ρ P Qd R ht k =>
 ⟨ρ, P, _, R, ht, fun v a ρ0 H0 R0 h0 => ⟨ρ0, _, _, R0, h0, fun lo ρ1 H1 R1 h1 => ⟨ρ1, _, _, R1, h1, fun hi ρ2 H2 R2 h2 => by
  obtain ⟨xs, hx, q⟩ := G9 h2
  obtain ⟨col, r⟩ := R2
  cases a with
  | list ds =>
   cases hx
   obtain ⟨p, vs, rfl, e, t⟩ := Red.lst (.th (r.pd _ B4))
   exact ⟨p, vs, rfl, SqL.of e, fun b hb => k _ _ _ _ _ ⟨col, r.sub fun _ h => A9 _ h, B6e t lo hi⟩ hb q⟩
  | _ => cases hx⟩⟩⟩
def A23 (ta tb : DE)  (ρ : List Sl) (Q : List PyData -> List Sl -> Prop) : Prop := ta ρ fun a ρ1 => tb ρ1 fun b ρ2 => bnd (M5 a) fun xs => bnd (M5 b) fun ys => xs.length + ys.length <= 100000 /\ Q (xs ++ ys) ρ2
theorem Z9 (ha : PE X a (eOf C ta)) (hb : PE X b (eOf C tb)) : PE X (.BinOp a .Add b pos) (fOf C (A23 ta tb)) := PE.wk (O2 C1m ha hb) fun σ H Q zz25 => el3 zz25 fun ρ P Qd R ht k =>
 ⟨ρ, P, _, R, ht, fun v a ρ1 H1 R1 h1 => ⟨ρ1, _, _, R1, h1, fun w b ρ2 H2 R2 h2 => by
  obtain ⟨xs, hx, h2⟩ := G9 h2
  obtain ⟨ys, hy, h3, q⟩ := G9 h2
  obtain ⟨col, r, t1, t2⟩ := th2 R2
  cases a with
  | list ds =>
   cases b with
   | list es =>
    cases hx; cases hy
    obtain ⟨p, vs, rfl, e, t⟩ := Red.lst (.th t1)
    obtain ⟨p', vs', rfl, e', t'⟩ := Red.lst (.th t2)
    exact ⟨p, p', vs, vs', rfl, rfl, e, e', by rw [t.len, t'.len, sizeLine_eq]; lia, fun b hb => k _ _ _ _ _ ⟨col, r, t.append t'⟩ hb q⟩
   | _ => cases hy
  | _ => cases hx⟩⟩
def A24 (xs : List PyData) (n : Nat) : List PyData := (D8 n xs).flatten
theorem B6f {F : Addr -> Prop} {H : Hp} {vs : List V} {ds : List PyData} (t : B0 F H vs ds) : ∀ n : Nat, B0 F H (D8 n vs).flatten (A24 ds n)
 | 0 => .nil
 | n + 1 => by
  unfold A24
  rw [j3, j3, A4p, A4p]
  exact t.append (B6f t n)
def A25 (ta tb : DE)  (ρ : List Sl) (Q : List PyData -> List Sl -> Prop) : Prop := ta ρ fun a ρ1 => tb ρ1 fun b ρ2 => match b with
 | .int k => bnd (M5 a) fun xs => (-1000 <= k /\ k <= 1000 /\ xs.length <= 100) /\ Q (A24 xs k.toNat) ρ2
 | _ => False
theorem B2d (ha : PE X a (eOf C ta)) (hb : PE X b (eOf C tb)) : PE X (.BinOp a .Mult b pos) (fOf C (A25 ta tb)) := PE.wk (O2 C1p ha hb) fun σ H Q zz26 => el3 zz26 fun ρ P Qd R ht k =>
 ⟨ρ, P, _, R, ht, fun v a ρ1 H1 R1 h1 => ⟨ρ1, _, _, R1, h1, fun w b ρ2 H2 R2 h2 => by
  split at h2
  ·obtain ⟨xs, hx, ⟨h3, h4, h5⟩, q⟩ := G9 h2
   obtain ⟨col, r, t1, t2⟩ := th2 R2
   cases t2
   cases a with
   | list ds =>
    cases hx
    obtain ⟨p, vs, rfl, e, t⟩ := Red.lst (.th t1)
    rename_i kk
    refine ⟨p, kk, vs, rfl, rfl, e, by lia, by lia, ?_, fun b hb => k _ _ _ _ _ ⟨col, r, B6f t _⟩ hb q⟩
    have hl := t.len
    rw [<- hl] at h5
    have : vs.length * kk.toNat <= 100 * 1000 := Nat.mul_le_mul h5 (by lia)
    rw [sizeLine_eq]
    lia
   | _ => cases hx
  ·exact h2.elim⟩⟩
def tyD : PyData -> Option String
 | .none => some "NoneType"
 | .bool _ => some "bool"
 | .int _ => some "int"
 | .str _ => some "str"
 | .list _ => some "list"
 | .tuple _ => some "tuple"
 | .dict _ => some "dict"
theorem C2q {K : A4} {col : Addr -> Nat} {H : Hp} {v : V} {a : PyData} (t : Red col H v a) : ∃ T, tyD a = some T /\ A8l K H v (.type T) := by
 cases t with
 | th t => cases t with
  | non => exact ⟨_, rfl, .o .non⟩
  | bl b => exact ⟨_, rfl, .o (.bl b)⟩
  | int i => exact ⟨_, rfl, .o (.int i)⟩
  | str x => exact ⟨_, rfl, .o (.str x)⟩
  | lst _ e _ => exact ⟨_, rfl, .o (.lst e)⟩
  | tup _ e _ => exact ⟨_, rfl, .o (.tup e)⟩
  | dic _ e u => cases u with
   | t => exact ⟨_, rfl, .o (.dT e)⟩
   | k i j => exact ⟨_, rfl, .o (.dK e)⟩
   | f o ks => exact ⟨_, rfl, .f e⟩
 | ls e _ => exact ⟨_, rfl, .o (.lst e)⟩
def V6 (T : String) (d : PyData) : Bool := match tyD d with
 | some t => t == T || (T == "int" && t == "bool")
 | none => false
def A9y (K : A4) (T : String) : Prop := ∀ d t, tyD d = some t -> A4n K (.type t) (.type T) = some (V6 T d)
abbrev C2r (K : A4) : List V -> Hp -> VK -> Prop := fun xs H Q => ∃ x cv c t b, xs = [x, cv] /\ F7 cv c /\ A8l K H x t /\ A4n K t c = some b /\ Q (.bl b) H
def A26 (i : Nat) (T : String)  (ρ : List Sl) (Q : PyData -> List Sl -> Prop) : Prop := bnd (O3 ρ i) fun a => Q (.bool (V6 T a)) ρ
theorem v6 {i : Nat} {K : A4} {T : String} (hT : A9y K T) (h : PE X e (tCB (C2r K) (Q6 (N5 i) (Q6 (tC (.ty T)) U6)))) : PE X e (eOf C (A26 i T)) := PE.wk h fun _ _ _ zz27 => el3 zz27 fun ρ P _ zz28 ht k => zz28.elim fun col r => by
 obtain ⟨a, ha, q⟩ := G9 ht
 obtain ⟨v, ev, t⟩ := r.slot ha
 obtain ⟨t', e1, e2⟩ := C2q (K := K) t
 exact ⟨v, ev, v, .ty T, .type T, _, _, rfl, rfl, e2, hT a t' e1, k _ _ _ _ ⟨col, r.push (.bl _)⟩ q⟩
def A5e (ta : DE) (T : String)  (ρ : List Sl) (Q : PyData -> List Sl -> Prop) : Prop := ta ρ fun a ρ' => Q (.bool (V6 T a)) ρ'
theorem B6g {K : A4} : A9y K "int" := fun d t h => by cases d <;> cases h <;> with_unfolding_all rfl
theorem B2e {K : A4} : A9y K "bool" := fun d t h => by cases d <;> cases h <;> with_unfolding_all rfl
theorem A9z {K : A4} : A9y K "list" := fun d t h => by cases d <;> cases h <;> with_unfolding_all rfl
end
inductive Md where
 | sh
 | bo
 | hd
 | b2
 | bd
def A1b : List PyData -> Option (List (List PyData))
 | [] => some []
 | .list ds :: r => (A1b r).map (ds :: ·)
 | _ => none
def B2f : PyData -> Option (List (List PyData))
 | .list xs => A1b xs
 | _ => none
abbrev lls (dss : List (List PyData)) : List PyData := dss.map PyData.list
theorem C2s {xs : List PyData} {dss : List (List PyData)} (h : A1b xs = some dss) : xs = lls dss := by
 induction xs generalizing dss with
 | nil => cases h; rfl
 | cons x r ih =>
  cases x with
  | list ds =>
   have h' : (A1b r).map (ds :: ·) = some dss := h
   cases q : A1b r with
   | none => rw [q] at h'; cases h'
   | some ess =>
    rw [q] at h'
    cases h'
    rw [ih q]; rfl
  | _ => cases h
theorem C2t {d : PyData} {dss : List (List PyData)} (h : B2f d = some dss) : d = .list (lls dss) := by
 cases d with
 | list xs => rw [C2s h]
 | _ => cases h
theorem C2u {F : Addr -> Prop} {H : Hp} {dss : List (List PyData)} {vs : List V} (t : B0 F H vs (lls dss)) : ∃ as : List Addr, vs = as.map V.ref /\ Rws F F H as dss := by
 induction dss generalizing vs with
 | nil => cases t; exact ⟨[], rfl, .nil⟩
 | cons ds dss ih =>
  cases t with
  | cons x y =>
   obtain ⟨as, rfl, r⟩ := ih y
   cases x with
   | lst n e z => exact ⟨_ :: as, rfl, .cons n e z r⟩
def slot2 (ρ : List Sl) (i : Nat) : Option (List (List PyData)) := match ρ[i]? with
 | some (.o2 dss) => some dss
 | some (.b2 dss) => some dss
 | some (.sh d) => B2f d
 | _ => none
def B6h (F : Addr -> Prop) (hand : Option (Addr × Addr)) (H : Hp) (v : V) (d : PyData) : Md -> Prop
 | .sh => ThV F H v d
 | .bo => ∃ a vs ds, v = .ref a /\ d = .list ds /\ (∀ q, hand = some q -> a ≠ q.1) /\ H a = some (.lst vs) /\ B0 F H vs ds
 | .hd => ∃ q, hand = some q /\ v = .ref q.1
 | .b2 => ∃ a as dss, v = .ref a /\ d = .list (lls dss) /\ (∀ q, hand = some q -> a ≠ q.1) /\ H a = some (.lst (as.map V.ref)) /\ Rws (fun b => ∀ q, hand = some q -> b ≠ q.1) F H as dss
 | .bd => ThV (fun b => ∀ q, hand = some q -> b ≠ q.1) H v d
inductive g6 (F : Addr -> Prop) (hand : Option (Addr × Addr)) (H : Hp) : List Md -> List V -> List PyData -> Prop
 | nil : g6 F hand H [] [] []
 | cons {m v d ms vs ds} : B6h F hand H v d m -> g6 F hand H ms vs ds -> g6 F hand H (m :: ms) (v :: vs) (d :: ds)
theorem g6.len {F : Addr -> Prop} {hand : Option (Addr × Addr)} {H : Hp} {ms : List Md} {vs : List V} {ds : List PyData} (t : g6 F hand H ms vs ds) : vs.length = ms.length /\ ds.length = ms.length := by
 induction t with
 | nil => exact ⟨rfl, rfl⟩
 | cons _ t ih => exact ⟨congrArg (· + 1) ih.1, congrArg (· + 1) ih.2⟩
abbrev DSp := List PyData -> (PyData -> Prop) -> Prop
def spD (ms : List Md) (sp : DSp) : Sp := fun vs H Q _ => ∃ F hand ds Qd, ((∀ b, H b = none -> F b) /\ ∀ b xs, H b = some (.tup xs) -> F b) /\ (∀ q, hand = some q -> ¬ F q.1) /\ Hq hand H /\ g6 F hand H ms vs ds /\ sp ds Qd /\ ∀ d v H', Qd d -> ThV F H' v d -> Kq hand H H' -> Hq hand H' -> Q v H'
inductive Ar where
 | v (d : PyData)
 | s (i : Nat)
 | w (d : PyData)
inductive ArV (σ : St) (P : List Pe) : List V -> List Ar -> Prop
 | nil : ArV σ P [] []
 | v {v d vs as} : Pe.v v d ∈ P -> ArV σ P vs as -> ArV σ P (v :: vs) (.v d :: as)
 | s {i v vs as} : σ[i]? = some (some v) -> ArV σ P vs as -> ArV σ P (v :: vs) (.s i :: as)
 | w {v d vs as} : Pe.w v d ∈ P -> ArV σ P vs as -> ArV σ P (v :: vs) (.w d :: as)
abbrev DA := List Sl -> (List Ar -> List Sl -> Prop) -> Prop
def aOf (C : DC) (t : DA) : TA := fun σ H Q => ∃ ρ P Qd, Rel C ρ σ P H /\ t ρ Qd /\ ∀ vs as ρ' P' H', Rel C ρ' σ P' H' -> (∀ p ∈ P, p ∈ P') -> ArV σ P' vs as -> Qd as ρ' -> Q vs H'
def v7 (ρ : List Sl) (i : Nat) : Bool := match ρ[i]? with
 | some .no => false
 | none => false
 | _ => true
section
variable {X : Cx} {C : DC} {e : Expr} {es : List Expr} {t : DE} {u : DA}
def A27  (ρ : List Sl) (Q : List Ar -> List Sl -> Prop) : Prop := Q [] ρ
def aV (t : DE) (u : DA)  (ρ : List Sl) (Q : List Ar -> List Sl -> Prop) : Prop := t ρ fun d ρ1 => u ρ1 fun as ρ2 => Q (.v d :: as) ρ2
def aS (i : Nat) (u : DA)  (ρ : List Sl) (Q : List Ar -> List Sl -> Prop) : Prop := v7 ρ i = true /\ u ρ fun as ρ2 => Q (.s i :: as) ρ2
theorem C0 : PA X [] (aOf C A27) := PA.wk D6 fun _ _ _ zz31 => el3 zz31 fun _ _ _ R ht k => k [] [] _ _ _ R (fun _ h => h) .nil ht
theorem A2 (ha : PE X e (eOf C t)) (hr : PA X es (aOf C u)) (hs : starEach (e :: es) X.env = (false, eval e X.env) :: starEach es X.env := by rfl) : PA X (e :: es) (aOf C (aV t u)) := PA.wk (C3 ha hr hs) fun _ _ _ zz32 => el3 zz32 fun ρ P _ R ht k =>
 ⟨ρ, P, _, R, ht, fun _ _ ρ1 _ R1 h1 => ⟨ρ1, _, _, R1, h1, fun _ _ _ _ _ R2 s2 p2 h2 => k _ _ _ _ _ R2 (fun p hp => s2 p (A9 _ hp)) (.v (s2 _ B4) p2) h2⟩⟩
theorem C2v {col : Addr -> Nat} {ρ : List Sl} {σ : St} {P : List Pe} {H : Hp} {i : Nat} (r : B8 C col ρ σ P H) (h : v7 ρ i = true) : ∃ v, σ[i]? = some (some v) := by
 unfold v7 at h
 split at h
 ·cases h
 ·cases h
 ·rename_i s n1 n2
  cases q : ρ[i]? with
  | none => exact absurd q n2
  | some s =>
   have z := r.sl i s q
   cases s with
   | no => exact absurd q n1
   | sh d => obtain ⟨v, e, _⟩ := z; exact ⟨v, L0 e⟩
   | ow d => obtain ⟨a, _, e, _⟩ := z; exact ⟨_, L0 e⟩
   | bo d => obtain ⟨a, _, e, _⟩ := z; exact ⟨_, L0 e⟩
   | hd => obtain ⟨q, _, e⟩ := z; exact ⟨_, L0 e⟩
   | o2 d => obtain ⟨a, _, e, _⟩ := z; exact ⟨_, L0 e⟩
   | b2 d => obtain ⟨a, _, e, _⟩ := z; exact ⟨_, L0 e⟩
   | di f ks => obtain ⟨a, e, _⟩ := z; exact ⟨_, L0 e⟩
   | dm f ks => obtain ⟨a, e, _⟩ := z; exact ⟨_, L0 e⟩
   | bd d => obtain ⟨v, e, _⟩ := z; exact ⟨v, L0 e⟩
   | ot d => obtain ⟨v, e, _⟩ := z; exact ⟨v, L0 e⟩
def v8 (ρ : List Sl) (i : Nat) : Option PyData := match ρ[i]? with
 | some (.bd d) => some d
 | _ => none
theorem B8.lent {col : Addr -> Nat} {ρ : List Sl} {σ : St} {P : List Pe} {H : Hp} (r : B8 C col ρ σ P H) {i : Nat} {d : PyData} (h : v8 ρ i = some d) : ∃ v, σ[i]? = some (some v) /\ ThV (Le C) C.H0 v d := by
 unfold v8 at h
 split at h
 ·rename_i d' e
  cases h
  obtain ⟨v, e1, t⟩ := r.sl i _ e
  exact ⟨v, L0 e1, t⟩
 ·cases h
theorem B8.le {col : Addr -> Nat} {ρ : List Sl} {σ : St} {P : List Pe} {H : Hp} (r : B8 C col ρ σ P H) {v : V} {d : PyData} (t : ThV (Le C) C.H0 v d) : ThV (Le C) H v d := t.mv fun b o g e => ⟨g, r.kq b o e g.2⟩
theorem B8.slot2 {col : Addr -> Nat} {ρ : List Sl} {σ : St} {P : List Pe} {H : Hp} (r : B8 C col ρ σ P H) {i : Nat} {dss : List (List PyData)} (h : slot2 ρ i = some dss) : ∃ a as, σ[i]? = some (some (.ref a)) /\ (∀ q, C.hand = some q -> a ≠ q.1) /\ H a = some (.lst (as.map V.ref)) /\ Rws (fun b => ∀ q, C.hand = some q -> b ≠ q.1) (Z col) H as dss := by
 unfold My.slot2 at h
 split at h
 ·rename_i dss' e
  cases h
  obtain ⟨a, as, e1, c, e2, nd, t⟩ := r.sl i _ e
  exact ⟨a, as, L0 e1, r.notH (by have := c.1; lia), e2, t.mv (fun b o z e => ⟨z, e⟩) fun b o g e => ⟨r.notH (by have := g.1; lia), e⟩⟩
 ·rename_i dss' e
  cases h
  obtain ⟨a, as, e1, c, e2, t⟩ := r.sl i _ e
  exact ⟨a, as, L0 e1, c.2, e2, t.mv (fun b o z e => ⟨z, e⟩) fun b o g e => ⟨g.2, e⟩⟩
 ·rename_i d e
  cases C2t h
  obtain ⟨v, e1, t⟩ := r.sl i _ e
  cases t with
  | lst n e2 t =>
   obtain ⟨as, rfl, t2⟩ := C2u t
   exact ⟨_, as, L0 e1, r.notH (by rw [show col _ = 0 from n]; decide), e2, t2.mv (fun b o z e => ⟨z, e⟩) fun b o g e => ⟨r.notH (by rw [show col b = 0 from g]; decide), e⟩⟩
 ·cases h
theorem J7 {i : Nat} (ha : PE X e (N5 i)) (hr : PA X es (aOf C u)) (hs : starEach (e :: es) X.env = (false, eval e X.env) :: starEach es X.env := by rfl) : PA X (e :: es) (aOf C (aS i u)) := PA.wk (C3 ha hr hs) fun σ H Q zz33 => el3 zz33 fun ρ P Qd zz34 ht k => zz34.elim fun col r => by
 obtain ⟨v, ev⟩ := C2v r ht.1
 exact ⟨v, ev, ρ, P, _, ⟨col, r⟩, ht.2, fun _ _ _ _ _ R2 s2 p2 h2 => k _ _ _ _ _ R2 s2 (.s ev p2) h2⟩
def arD (ρ : List Sl) (m : Md) (a : Ar) : Option PyData := match m, a with
 | .sh, .v d => some d
 | .bo, .v (.list ds) => some (.list ds)
 | .bo, .s i => (O3 ρ i).bind fun d => (M5 d).map PyData.list
 | .hd, .s i => match ρ[i]? with
  | some .hd => some .none
  | _ => none
 | .b2, .s i => (slot2 ρ i).map fun dss => .list (lls dss)
 | .bd, .v d => some d
 | .bd, .w d => some d
 | .bd, .s i => match ρ[i]? with
  | some (.bd d) => some d
  | some (.sh d) => some d
  | _ => none
 | _, _ => none
def Q9 (ρ : List Sl) : List Md -> List Ar -> Option (List PyData)
 | [], [] => some []
 | m :: ms, a :: as => (arD ρ m a).bind fun d => (Q9 ρ ms as).map (d :: ·)
 | _, _ => none
theorem g7 {d : PyData} {xs : List PyData} (h : M5 d = some xs) : d = .list xs := by
 cases d <;> cases h
 rfl
theorem B2g {col : Addr -> Nat} {ρ : List Sl} {σ : St} {P : List Pe} {H : Hp} (r : B8 C col ρ σ P H) {m : Md} {v : V} {d : PyData} {a : Ar} (ha : match a with | .v d => Pe.v v d ∈ P | .s i => σ[i]? = some (some v) | .w d => Pe.w v d ∈ P) (h : arD ρ m a = some d) : B6h (Z col) C.hand H v d m := by
 unfold arD at h
 split at h
 ·cases h; exact r.pd _ ha
 ·cases h
  have z : ThV (Z col) H v (.list _) := r.pd _ ha
  cases z with
  | lst za e t => exact ⟨_, _, _, rfl, rfl, r.notH (by rw [show col _ = 0 from za]; decide), e, t⟩
 ·rename_i i
  have ha' : σ[i]? = some (some v) := ha
  cases q : O3 ρ i with
  | none => rw [q] at h; cases h
  | some d' =>
   rw [q] at h
   cases q2 : M5 d' with
   | none =>
    have h' : (M5 d').map PyData.list = some d := h
    rw [q2] at h'; cases h'
   | some xs =>
    have h' : (M5 d').map PyData.list = some d := h
    rw [q2] at h'
    cases h'
    have := g7 q2
    subst this
    unfold O3 at q
    split at q
    ·rename_i d'' e
     cases q
     obtain ⟨v', e1, t⟩ := r.sl i _ e
     rw [L0 e1] at ha'
     cases ha'
     cases t with
     | lst za e t => exact ⟨_, _, _, rfl, rfl, r.notH (by rw [show col _ = 0 from za]; decide), e, t⟩
    ·rename_i ds e
     cases q
     obtain ⟨a, vs, e1, c, _, e2, t⟩ := r.sl i _ e
     rw [L0 e1] at ha'
     cases ha'
     exact ⟨_, _, _, rfl, rfl, r.notH (by lia), e2, t⟩
    ·rename_i ds e
     cases q
     obtain ⟨a, vs, e1, c, n, e2, t⟩ := r.sl i _ e
     rw [L0 e1] at ha'
     cases ha'
     exact ⟨_, _, _, rfl, rfl, n, e2, t⟩
    ·cases q
 ·rename_i i
  have ha' : σ[i]? = some (some v) := ha
  split at h
  ·rename_i e
   cases h
   obtain ⟨q, e1, e2⟩ := r.sl i _ e
   rw [L0 e2] at ha'
   cases ha'
   exact ⟨q, e1, rfl⟩
  ·cases h
 ·rename_i i
  have ha' : σ[i]? = some (some v) := ha
  cases q : slot2 ρ i with
  | none => rw [q] at h; cases h
  | some dss =>
   rw [q] at h
   cases h
   obtain ⟨a, as, e1, n, e2, t⟩ := r.slot2 q
   rw [e1] at ha'
   cases ha'
   exact ⟨a, as, dss, rfl, rfl, n, e2, t⟩
 ·cases h
  exact ThV.mv (fun b o z e => ⟨r.notH (by rw [show col b = 0 from z]; decide), e⟩) (r.pd _ ha)
 ·cases h
  exact ThV.mv (fun b o z e => ⟨z.2, e⟩) (r.le (r.pd _ ha))
 ·rename_i i
  have ha' : σ[i]? = some (some v) := ha
  split at h
  ·rename_i e
   cases h
   obtain ⟨v', e1, t⟩ := r.sl i _ e
   rw [L0 e1] at ha'
   cases ha'
   exact ThV.mv (fun b o z e => ⟨z.2, e⟩) (r.le t)
  ·rename_i e
   cases h
   obtain ⟨v', e1, t⟩ := r.sl i _ e
   rw [L0 e1] at ha'
   cases ha'
   exact ThV.mv (fun b o z e => ⟨r.notH (by rw [show col b = 0 from z]; decide), e⟩) t
  ·cases h
 ·cases h
theorem A90 {col : Addr -> Nat} {ρ : List Sl} {σ : St} {P : List Pe} {H : Hp} (r : B8 C col ρ σ P H) : ∀ {ms : List Md} {vs : List V} {ds : List PyData} {as : List Ar}, ArV σ P vs as -> Q9 ρ ms as = some ds -> g6 (Z col) C.hand H ms vs ds
 | [], _, _, _, .nil, h => by cases h; exact .nil
 | [], _, _, _, .v _ _, h => by cases h
 | [], _, _, _, .s _ _, h => by cases h
 | [], _, _, _, .w _ _, h => by cases h
 | _ :: _, _, _, _, .nil, h => by cases h
 | m :: ms, _, ds, _, .v (d := d0) (as := as) hm t, h => by
  have h' : ((arD ρ m (.v d0)).bind fun d => (Q9 ρ ms as).map (d :: ·)) = some ds := h
  cases q : arD ρ m (.v d0) with
  | none => rw [q] at h'; cases h'
  | some d =>
   rw [q] at h'
   have h2 : (Q9 ρ ms as).map (d :: ·) = some ds := h'
   cases q2 : Q9 ρ ms as with
   | none => rw [q2] at h2; cases h2
   | some ds' =>
    rw [q2] at h2
    cases h2
    exact .cons (B2g r (a := .v d0) hm q) (A90 r t q2)
 | m :: ms, _, ds, _, .s (i := i) (as := as) hm t, h => by
  have h' : ((arD ρ m (.s i)).bind fun d => (Q9 ρ ms as).map (d :: ·)) = some ds := h
  cases q : arD ρ m (.s i) with
  | none => rw [q] at h'; cases h'
  | some d =>
   rw [q] at h'
   have h2 : (Q9 ρ ms as).map (d :: ·) = some ds := h'
   cases q2 : Q9 ρ ms as with
   | none => rw [q2] at h2; cases h2
   | some ds' =>
    rw [q2] at h2
    cases h2
    exact .cons (B2g r (a := .s i) hm q) (A90 r t q2)
 | m :: ms, _, ds, _, .w (d := d0) (as := as) hm t, h => by
  have h' : ((arD ρ m (.w d0)).bind fun d => (Q9 ρ ms as).map (d :: ·)) = some ds := h
  cases q : arD ρ m (.w d0) with
  | none => rw [q] at h'; cases h'
  | some d =>
   rw [q] at h'
   have h2 : (Q9 ρ ms as).map (d :: ·) = some ds := h'
   cases q2 : Q9 ρ ms as with
   | none => rw [q2] at h2; cases h2
   | some ds' =>
    rw [q2] at h2
    cases h2
    exact .cons (B2g r (a := .w d0) hm q) (A90 r t q2)
def A28 (ms : List Md) (sp : DSp) (u : DA)  (ρ : List Sl) (Q : PyData -> List Sl -> Prop) : Prop := u ρ fun as ρ' => bnd (Q9 ρ' ms as) fun ds => sp ds fun d => Q d ρ'
theorem C1 {ms : List Md} {sp : DSp} {E : XK} (h : PE X e (B1o (spD ms sp) [] E (aOf C u))) : PE X e (eOf C (A28 ms sp u)) := PE.wk h fun σ H Q zz35 => el3 zz35 fun ρ P Qd R ht k => ⟨ρ, P, _, R, ht, fun vs as ρ' P' H' zz36 s p q => zz36.elim fun col r => by
 obtain ⟨ds, hds, q⟩ := G9 q
 rw [d5]
 obtain ⟨col, r, tp⟩ := r.norm
 refine ⟨Z col, C.hand, ds, _, ⟨r.fresh, tp⟩, fun q hq z => ?_, r.hq, A90 r p hds, q, fun d v H2 q2 t2 k2 h2 => k _ _ _ _ ⟨col, (((r.mv k2 h2).sub s)).push t2⟩ q2⟩
 have := r.hnd q hq
 rw [show col q.1 = 0 from z] at this
 cases this⟩
end
end My
namespace My
open PySem L2
structure A5f (C : DC) (J : It) (xs : List PyData) (P : List Pe) : Prop where
 go : ∀ {i : Nat} {ρ : List Sl} {σ : St} {P' : List Pe} {H : Hp}, (∀ p ∈ P, p ∈ P') -> Rel C ρ σ P' H -> i < xs.length -> J.go i H
 yld : ∀ {i : Nat} {ρ : List Sl} {σ : St} {P' : List Pe} {H H' : Hp} {x : V} {d : PyData}, (∀ p ∈ P, p ∈ P') -> Rel C ρ σ P' H -> xs[i]? = some d -> J.yld i H x H' -> Rel C ρ σ (.v x d :: P') H'
 stop : ∀ {ρ : List Sl} {σ : St} {P' : List Pe} {H : Hp}, (∀ p ∈ P, p ∈ P') -> Rel C ρ σ P' H -> J.stop xs.length H
theorem A1c {F : Addr -> Prop} {H : Hp} {v : V} {xs : List PyData} (t : ThV F H v (.list xs)) : ∃ a vs, v = .ref a /\ F a /\ H a = some (.lst vs) /\ B0 F H vs xs := by
 cases t with
 | lst za e t => exact ⟨_, _, rfl, za, e, t⟩
theorem B6i {F : Addr -> Prop} {H : Hp} {v : V} {xs : List PyData} (t : ThV F H v (.tuple xs)) : ∃ a vs, v = .ref a /\ F a /\ H a = some (.tup vs) /\ B0 F H vs xs := by
 cases t with
 | tup za e t => exact ⟨_, _, rfl, za, e, t⟩
def iOf (C : DC) (t : DF) : TI := fun σ H R => ∃ ρ P Qd, Rel C ρ σ P H /\ t ρ Qd /\ ∀ xs ρ' P' H' J, Rel C ρ' σ P' H' -> (∀ p ∈ P, p ∈ P') -> A5f C J xs P' -> Qd xs ρ' -> R J H'
section
variable {X : Cx} {C : DC} {tg e : Expr} {t : DE} {u : DF} {pos : Pos}
theorem PI.wk {tg e : Expr} {w w' : TI} (h : PI X tg e w) (f : ∀ σ H R, w' σ H R -> w σ H R) : PI X tg e w' := fun pins s σ H R I q => h pins s σ H R I (f σ H R q)
theorem A91 {K : A4} {a : Addr} {vs : List V} {xs : List PyData} {P : List Pe} : A5f C (Itl K a) xs (.n a (.lst vs) :: .s vs xs :: P) where
 go := fun {i ρ σ P' H} s R hi => by
  obtain ⟨col, r⟩ := R
  have h1 := r.pd _ (s _ B4)
  have h2 : B0 (Z col) H vs xs := r.pd _ (s _ (A9 _ B4))
  have hl := h2.len
  exact ⟨vs, vs[i], SqL.of h1.2.2, J5 (by lia)⟩
 yld := fun {i ρ σ P' H H' x d} s R hi y => by
  obtain ⟨e, y⟩ := y
  subst e
  obtain ⟨col, r⟩ := R
  have h1 := r.pd _ (s _ B4)
  have h2 : B0 (Z col) H' vs xs := r.pd _ (s _ (A9 _ B4))
  have hx := y vs (SqL.of h1.2.2)
  obtain ⟨d', e1, t⟩ := h2.get hx
  rw [hi] at e1
  cases e1
  exact ⟨col, r.push t⟩
 stop := fun {ρ σ P' H} s R => by
  obtain ⟨col, r⟩ := R
  have h1 := r.pd _ (s _ B4)
  have h2 : B0 (Z col) H vs xs := r.pd _ (s _ (A9 _ B4))
  have hl := h2.len
  exact ⟨vs, SqL.of h1.2.2, by lia⟩
def dIl (t : DE)  (ρ : List Sl) (Q : List PyData -> List Sl -> Prop) : Prop := t ρ fun d ρ' => bnd (M5 d) fun xs => Q xs ρ'
theorem A5g (h : PE X e (eOf C t)) : PI X tg e (iOf C (dIl t)) := PI.wk (B4n h) fun _ _ _ zz1 => el3 zz1 fun ρ P _ R ht k => ⟨ρ, P, _, R, ht, fun v d ρ' H' zz2 q => zz2.elim fun col r => by
 obtain ⟨xs, hx, q⟩ := G9 q
 have := g7 hx
 subst this
 obtain ⟨a, vs, rfl, za, e1, t1⟩ := A1c (show ThV (Z col) H' v (.list xs) from r.pd _ B4)
 refine ⟨a, rfl, ⟨vs, SqL.of e1⟩, k xs ρ' (.n a (.lst vs) :: .s vs xs :: P) H' _ ⟨col, ?_⟩ (fun _ h => A9 _ (A9 _ h)) A91 q⟩
 exact ((r.sub fun _ h => A9 _ h).add (x := .s vs xs) t1).add (x := .n a (.lst vs)) ⟨by rw [show col a = 0 from za]; decide, r.notH (by rw [show col a = 0 from za]; decide), e1⟩⟩
def C2w : PyData -> Option (List PyData)
 | .tuple xs => some xs
 | _ => none
def dIt (t : DE)  (ρ : List Sl) (Q : List PyData -> List Sl -> Prop) : Prop := t ρ fun d ρ' => bnd (C2w d) fun xs => Q xs ρ'
def dIv (i : Nat)  (ρ : List Sl) (Q : List PyData -> List Sl -> Prop) : Prop := match ρ[i]? with
 | some (.sh (.list xs)) => Q xs ρ
 | some (.ow xs) => Q xs (ρ.set i (.sh (.list xs)))
 | some (.bo xs) => Q xs ρ
 | _ => False
theorem T2 {i : Nat} (h : PE X e (N5 i)) : PI X tg e (iOf C (dIv i)) := PI.wk (B4n h) fun σ H R' zz5 => el3 zz5 fun ρ P Qd zz6 ht k => zz6.elim fun col r => by
 unfold dIv at ht
 split at ht
 ·rename_i xs e
  obtain ⟨v, e1, t⟩ := r.sl i _ e
  obtain ⟨a, vs, rfl, za, e2, t1⟩ := A1c t
  ·refine ⟨_, L0 e1, a, rfl, ⟨vs, SqL.of e2⟩, k xs ρ (.n a (.lst vs) :: .s vs xs :: P) H _ ⟨col, ?_⟩ (fun _ h => A9 _ (A9 _ h)) A91 ht⟩
   exact (r.add (x := .s vs xs) t1).add (x := .n a (.lst vs)) ⟨by rw [show col a = 0 from za]; decide, r.notH (by rw [show col a = 0 from za]; decide), e2⟩
 ·rename_i xs e
  obtain ⟨a, e1, col', r'⟩ := r.freeze e
  obtain ⟨a', vs, ea, za, e2, t1⟩ := A1c (show ThV (Z col') H (.ref a) (.list xs) from r'.pd _ B4)
  cases ea
  ·refine ⟨_, L0 e1, a, rfl, ⟨vs, SqL.of e2⟩, k xs _ (.n a (.lst vs) :: .s vs xs :: P) H _ ⟨col', ?_⟩ (fun _ h => A9 _ (A9 _ h)) A91 ht⟩
   exact ((r'.sub fun _ h => A9 _ h).add (x := .s vs xs) t1).add (x := .n a (.lst vs)) ⟨by rw [show col' a = 0 from za]; decide, r'.notH (by rw [show col' a = 0 from za]; decide), e2⟩
 ·rename_i xs e
  obtain ⟨a, vs, e1, c, n, e2, t⟩ := r.sl i _ e
  exact ⟨_, L0 e1, a, rfl, ⟨vs, SqL.of e2⟩, k xs ρ (.n a (.lst vs) :: .s vs xs :: P) H _ ⟨col, (r.add (x := .s vs xs) t).add (x := .n a (.lst vs)) ⟨c, n, e2⟩⟩ (fun _ h => A9 _ (A9 _ h)) A91 ht⟩
 ·exact ht.elim
def G7 (lo : Int) (n : Nat) : List PyData := (P6 n).map fun i => .int (lo + ((i : Nat) : Int))
theorem B2h {lo : Int} {n i : Nat} {d : PyData} (h : (G7 lo n)[i]? = some d) : i < n /\ d = .int (lo + i) := by
 unfold G7 at h
 rw [N1] at h
 by_cases hi : i < n
 ·rw [B9n hi] at h
  cases h
  exact ⟨hi, rfl⟩
 ·rw [U5 (by rw [d7]; lia)] at h
  cases h
theorem C2x {lo : Int} {n : Nat} {P : List Pe} : A5f C (Itr lo n) (G7 lo n) P where
 go := fun {i _ _ _ _} _ _ hi => by
  have : (G7 lo n).length = n := by unfold G7; rw [E4, d7]
  show i < n
  lia
 yld := fun {i ρ σ P' H H' x d} _ R hi y => by
  obtain ⟨e1, e2⟩ := y
  subst e1 e2
  obtain ⟨_, e3⟩ := B2h hi
  subst e3
  obtain ⟨col, r⟩ := R
  exact ⟨col, r.push (.int _)⟩
 stop := fun _ _ => by
  have : (G7 lo n).length = n := by unfold G7; rw [E4, d7]
  show n <= (G7 lo n).length
  lia
def B2i (u : DF)  (ρ : List Sl) (Q : List PyData -> List Sl -> Prop) : Prop := u ρ fun ds ρ' => match ds with
 | [.int j] => (-(2 ^ 62) <= j /\ j < 2 ^ 62) /\ Q (G7 0 j.toNat) ρ'
 | _ => False
theorem U2 (h : PI X tg e (B4o (vOf C u))) : PI X tg e (iOf C (B2i u)) := PI.wk h fun _ _ _ zz7 => el3 zz7 fun ρ P _ R ht k => ⟨ρ, P, _, R, ht, fun vs ds ρ' P' H' zz8 s p q => zz8.elim fun col r => by
 split at q
 ·have t := p.th r
  obtain ⟨v, rfl, t1⟩ := A5a t
  cases t1
  exact ⟨_, rfl, q.1.1, q.1.2, k _ _ P' _ _ ⟨col, r⟩ s C2x q.2⟩
 ·exact q.elim⟩
def B6j (u : DF)  (ρ : List Sl) (Q : List PyData -> List Sl -> Prop) : Prop := u ρ fun ds ρ' => match ds with
 | [.int i, .int j] => (-(2 ^ 62) <= i /\ i < 2 ^ 62 /\ -(2 ^ 62) <= j /\ j < 2 ^ 62) /\ Q (G7 i (j - i).toNat) ρ'
 | _ => False
def Y3 (xs : List PyData) : List PyData := xs.zipIdx.map fun p => .tuple [.int (p.2 : Nat), p.1]
theorem C2y {xs : List PyData} {i : Nat} {d : PyData} (h : (Y3 xs)[i]? = some d) : ∃ x, xs[i]? = some x /\ d = .tuple [.int (i : Nat), x] := by
 unfold Y3 at h
 rw [N1, List.getElem?_zipIdx] at h
 cases q : xs[i]? with
 | none => rw [q] at h; cases h
 | some x => rw [q] at h; cases h; exact ⟨x, rfl, by rw [Nat.zero_add]⟩
theorem C2z {K : A4} {a : Addr} {vs : List V} {xs : List PyData} {P : List Pe} : A5f C (Ite K a) (Y3 xs) (.n a (.lst vs) :: .s vs xs :: P) where
 go := fun {i ρ σ P' H} s R hi => by
  obtain ⟨col, r⟩ := R
  have h1 := r.pd _ (s _ B4)
  have h2 : B0 (Z col) H vs xs := r.pd _ (s _ (A9 _ B4))
  have hl := h2.len
  have hi' : i < xs.length := by unfold Y3 at hi; rw [E4, B9o] at hi; exact hi
  exact ⟨vs, vs[i], SqL.of h1.2.2, J5 (by lia)⟩
 yld := fun {i ρ σ P' H H' x d} s R hi y => by
  obtain ⟨p, v, rfl, hp, rfl, y⟩ := y
  obtain ⟨col, r⟩ := R
  have h1 := r.pd _ (s _ B4)
  have h2 : B0 (Z col) H vs xs := r.pd _ (s _ (A9 _ B4))
  have hx := y vs (SqL.of h1.2.2)
  obtain ⟨x, e1, rfl⟩ := C2y hi
  obtain ⟨d', e2, t⟩ := h2.get hx
  rw [e1] at e2
  cases e2
  exact ⟨col, r.tup (.cons (.int _) (.cons t .nil)) hp⟩
 stop := fun {ρ σ P' H} s R => by
  obtain ⟨col, r⟩ := R
  have h1 := r.pd _ (s _ B4)
  have h2 : B0 (Z col) H vs xs := r.pd _ (s _ (A9 _ B4))
  have hl := h2.len
  exact ⟨vs, SqL.of h1.2.2, by unfold Y3; rw [E4, B9o]; lia⟩
def B2j (t : DE)  (ρ : List Sl) (Q : List PyData -> List Sl -> Prop) : Prop := t ρ fun d ρ' => bnd (M5 d) fun xs => Q (Y3 xs) ρ'
theorem B2k {K : A4} (h : PI X tg e (B5o K (Q6 (eOf C t) U6))) : PI X tg e (iOf C (B2j t)) := PI.wk h fun _ _ _ zz11 => el3 zz11 fun ρ P _ R ht k => ⟨ρ, P, _, R, ht, fun v d ρ' H' zz12 q => zz12.elim fun col r => by
 obtain ⟨xs, hx, q⟩ := G9 q
 have := g7 hx
 subst this
 obtain ⟨a, vs, rfl, za, e1, t1⟩ := A1c (show ThV (Z col) H' v (.list xs) from r.pd _ B4)
 refine ⟨a, rfl, ⟨vs, SqL.of e1⟩, k _ ρ' (.n a (.lst vs) :: .s vs xs :: P) H' _ ⟨col, ?_⟩ (fun _ h => A9 _ (A9 _ h)) C2z q⟩
 exact ((r.sub fun _ h => A9 _ h).add (x := .s vs xs) t1).add (x := .n a (.lst vs)) ⟨by rw [show col a = 0 from za]; decide, r.notH (by rw [show col a = 0 from za]; decide), e1⟩⟩
end
def w4 (tt : DT) (te : DE) (ρ : List Sl) (Q : List PyData -> Prop) : List PyData -> List PyData -> Prop
 | [], acc => Q acc
 | x :: r, acc => tt (ρ ++ [.sh x]) fun b ρ' => ρ' = ρ ++ [.sh x] /\ if b = true then te (ρ ++ [.sh x]) fun d ρ'' => ρ'' = ρ ++ [.sh x] /\ w4 tt te ρ Q r (acc ++ [d]) else w4 tt te ρ Q r acc
def m8 (j : Nat) (it : DF) (tt : DT) (te : DE)  (ρ : List Sl) (Q : List PyData -> List Sl -> Prop) : Prop := it ρ fun xs ρ1 => (ρ1.length = j /\ xs.length <= 1000) /\ w4 tt te ρ1 (fun ds => Q ds ρ1) xs []
def A29  (ρ : List Sl) (Q : Bool -> List Sl -> Prop) : Prop := Q true ρ
section
variable {X : Cx} {C : DC}
theorem PTs.wk {es : List Expr} {t t' : TT} (h : PTs X es t) (f : ∀ σ H Q, t' σ H Q -> t σ H Q) : PTs X es t' := fun pins s σ H Q I q => h pins s σ H Q I (f σ H Q q)
theorem P3 : PTs X [] (cOf C A29) := PTs.wk C1w fun _ _ _ zz13 => el3 zz13 fun _ _ _ R ht k => k _ _ _ R ht
theorem Rel.ext {ρ : List Sl} {σ : St} {P : List Pe} {H : Hp} {x : V} {d : PyData} (R : Rel C ρ σ (.v x d :: P) H) : Rel C (ρ ++ [.sh d]) (σ ++ [some x]) P H := by
 obtain ⟨col, r⟩ := R
 have t : ThV (Z col) H x d := r.pd _ B4
 have r := r.sub fun _ h => A9 _ h
 refine ⟨col, { r with sl := fun i s e => ?_, len := by rw [M7, M7, r.len]; rfl }⟩
 by_cases hi : i < ρ.length
 ·rw [d6 hi] at e
  rw [d6 (by rw [<- r.len]; exact hi)]
  exact r.sl i s e
 ·rw [Z0 (by lia)] at e
  rw [Z0 (by rw [<- r.len]; lia), <- r.len]
  match q : i - ρ.length with
  | 0 =>
   rw [q] at e
   cases e
   exact ⟨x, rfl, t⟩
  | n + 1 => rw [q] at e; simp at e
theorem B8.unext {col : Addr -> Nat} {ρ ρ' : List Sl} {σ σ' : St} {P : List Pe} {H : Hp} (r : B8 C col (ρ ++ ρ') (σ ++ σ') P H) (hl : ρ.length = σ.length) : B8 C col ρ σ P H := by
 refine { r with sl := fun i s e => ?_, len := hl }
 have hi := (A1z.mp e).1
 have := r.sl i s (by rw [d6 hi]; exact e)
 rw [d6 (by lia)] at this
 exact this
theorem B0.snoc {F : Addr -> Prop} {H : Hp} {vs : List V} {ds : List PyData} {v : V} {d : PyData} (t : B0 F H vs ds) (x : ThV F H v d) : B0 F H (vs ++ [v]) (ds ++ [d]) := t.append (.cons x .nil)
theorem B6k {σ : St} {n j : Nat} {x : V} (h1 : n = σ.length + 1) (h2 : j = σ.length) : (U7 n j σ).set j (some x) = σ ++ [some x] := by
 subst h1 h2
 unfold U7
 rw [B34 (by simp), B30 _ _ (F6 _), B30 _ _ (F6 _)]
 simp
theorem B2l {it : DF} {tt : DT} {te : DE} {n j : Nat} (hn : n = j + 1) {σ : St} {H : Hp} {Q : VK} (h : fOf C (m8 j it tt te) σ H Q) : t7 (iOf C it) n j (fun _ => cOf C tt) (fun _ => eOf C te) σ H Q := by
 obtain ⟨ρ, P, Qd, R, ht, k⟩ := h
 refine ⟨ρ, P, _, R, ht, fun xs ρ1 P1 H1 J R1 s1 io q => ?_⟩
 obtain ⟨⟨hj, hx⟩, q⟩ := q
 have lz : ∀ m, m <= 1000 -> m <= sizeLine := fun m hm => A0j (A16 hm)
 refine ⟨fun i m ys H' => m = xs.length - i /\ i <= xs.length /\ ys.length <= i /\ ∃ acc, Rel C ρ1 σ (.s ys acc :: P1) H' /\ w4 tt te ρ1 (fun ds => Qd ds ρ1) (xs.drop i) acc, ⟨xs.length, by simp, M8 _, F6 _, [], ?_, q⟩, ?_⟩
 ·obtain ⟨col, r⟩ := R1
  exact ⟨col, r.add (x := .s [] []) .nil⟩
 rintro i m ys H2 ⟨rfl, hi, hy, acc, R2, q2⟩
 refine ⟨lz _ (by lia), ?_⟩
 have sub2 : ∀ p ∈ P1, p ∈ Pe.s ys acc :: P1 := fun _ h => A9 _ h
 have hlen : ρ1.length = σ.length := by obtain ⟨col, r⟩ := R2; exact r.len
 by_cases hlt : i < xs.length
 ·rw [A78 hlt] at q2
  refine .inr ⟨io.go sub2 R2 hlt, fun ys' H' => ys'.length <= i + 1 /\ ∃ acc, Rel C ρ1 σ (.s ys' acc :: P1) H' /\ w4 tt te ρ1 (fun ds => Qd ds ρ1) (xs.drop (i + 1)) acc, fun ys' H' zz14 => zz14.elim fun h1 h2 => ⟨xs.length - (i + 1), by lia, rfl, hlt, h1, h2⟩, fun x H3 y a => ?_⟩
  have R3 := (io.yld sub2 R2 (J5 hlt) y).ext
  rw [B6k (by rw [hn, <- hlen, hj]) (by rw [<- hlen, hj])]
  refine ⟨_, _, _, R3, q2, fun b ρ' H4 R4 q4 => ?_⟩
  obtain ⟨rfl, q4⟩ := q4
  cases b with
  | true =>
   refine M2 ⟨_, _, _, R4, by simpa using q4, fun v d ρ'' H5 R5 q5 => ?_⟩
   obtain ⟨rfl, q5⟩ := q5
   refine ⟨by rw [M7]; simp; lia, acc ++ [d], ?_, q5⟩
   obtain ⟨col, r⟩ := R5
   have t1 : ThV (Z col) H5 v d := r.pd _ B4
   have t2 : B0 (Z col) H5 ys acc := r.pd _ (A9 _ B4)
   exact ⟨col, ((r.unext hlen).sub fun _ h => A9 _ (A9 _ h)).add (x := .s (ys ++ [v]) (acc ++ [d])) (t2.snoc t1)⟩
  | false =>
   refine L4 ⟨by lia, acc, ?_, by simpa using q4⟩
   obtain ⟨col, r⟩ := R4
   exact ⟨col, r.unext hlen⟩
 ·have e : i = xs.length := by lia
  subst e
  rw [B04] at q2
  refine .inl ⟨io.stop sub2 R2, fun p hp => k _ _ _ _ _ ?_ hp q2⟩
  obtain ⟨col, r⟩ := R2
  exact ⟨col, r.sub fun p hp => A9 _ (s1 p hp), r.pd _ B4⟩
end
structure L7 where
 nx : List Sl -> Prop
 rt : PyData -> Prop
 bk : List Sl -> Prop := fun _ => False
 ct : List Sl -> Prop := fun _ => False
 ro : Sl -> Prop := fun _ => False
abbrev DS := L7 -> List Sl -> Prop
def C20 (C : DC) (col : Addr -> Nat) (H : Hp) (v : V) : Sl -> Prop
 | .ow ds => ∃ a vs, v = .ref a /\ C.H0 a = none /\ col a ≠ 0 /\ H a = some (.lst vs) /\ B0 (Z col) H vs ds
 | .o2 dss => ∃ a as, v = .ref a /\ (C.H0 a = none /\ col a ≠ 0) /\ H a = some (.lst (as.map V.ref)) /\ (a :: as).Nodup /\ Rws (fun b => C.H0 b = none /\ col b ≠ 0) (Z col) H as dss
 | .di false ks => ∃ a, v = .ref a /\ C.H0 a = none /\ H a = some (.dT (dEn ks))
 | _ => False
structure C21 (C : DC) (P : List Pe) (Dd : L7) (D : A0n) : Prop where
 nx : ∀ ρ σ H, Rel C ρ σ P H -> Dd.nx ρ -> D.nx σ H
 rt : ∀ v d ρ σ H, Rel C ρ σ (.v v d :: P) H -> Dd.rt d -> D.rt v H
 bk : ∀ ρ σ H, Rel C ρ σ P H -> Dd.bk ρ -> D.bk σ H
 ct : ∀ ρ σ H, Rel C ρ σ P H -> Dd.ct ρ -> D.ct σ H
 ro : ∀ (v : V) (s : Sl) (ρ : List Sl) σ H col, B8 C col ρ σ P H -> C20 C col H v s -> Dd.ro s -> D.rt v H
def sOf (C : DC) (t : DS) : TS := fun D σ H => ∃ ρ P Dd, Rel C ρ σ P H /\ t Dd ρ /\ C21 C P Dd D
section
variable {X : Cx} {C : DC} {st : Stmt} {sts : List Stmt} {e : Expr} {t u : DS} {te : DE} {tf : DF} {c : DT} {pos : Pos}
theorem PS.wk {t t' : TS} (h : PS X st t) (f : ∀ D σ H, t' D σ H -> t D σ H) : PS X st t' := fun pins s σ H D I q => h pins s σ H D I (f D σ H q)
theorem PSs.wk {t t' : TS} (h : PSs X sts t) (f : ∀ D σ H, t' D σ H -> t D σ H) : PSs X sts t' := fun pins s σ H D I q => h pins s σ H D I (f D σ H q)
def A3a (t u : DS)  (D : L7) (ρ : List Sl) : Prop := t { D with nx := u D } ρ
def A3b  (D : L7) (ρ : List Sl) : Prop := D.nx ρ
theorem J2 : PSs X [] (sOf C A3b) := PSs.wk A8c fun _ _ _ zz15 => el3 zz15 fun _ _ _ R ht E => E.nx _ _ _ R ht
theorem B2 (h : PS X st (sOf C t)) : PSs X [st] (sOf C t) := W3 h
theorem G4 (h1 : PS X st (sOf C t)) (h2 : PSs X sts (sOf C u)) : PSs X (st :: sts) (sOf C (A3a t u)) := PSs.wk (O5 h1 h2) fun _ _ _ zz16 => el3 zz16 fun ρ P Dd R ht E => ⟨ρ, P, { Dd with nx := u Dd }, R, ht, ⟨fun ρ' _ _ R' h => ⟨ρ', P, Dd, R', h, E⟩, E.rt, E.bk, E.ct, E.ro⟩⟩
def Go (f : List Sl -> Prop) (ρ : List Sl) : Prop := f ρ
theorem go {f : List Sl -> Prop} {ρ : List Sl} (h : f ρ) : Go f ρ := h
def L8 (t u : DS) (D : L7) (ρ : List Sl) : Prop := t { D with nx := Go (u D) } ρ
theorem C9 (h1 : PS X st (sOf C t)) (h2 : PSs X sts (sOf C u)) : PSs X (st :: sts) (sOf C (L8 t u)) := PSs.wk (O5 h1 h2) fun _ _ _ zz17 => el3 zz17 fun ρ P Dd R ht E => ⟨ρ, P, { Dd with nx := Go (u Dd) }, R, ht, ⟨fun ρ' _ _ R' h => ⟨ρ', P, Dd, R', h, E⟩, E.rt, E.bk, E.ct, E.ro⟩⟩
def P4 (t : DS)  (D : L7) (ρ : List Sl) : Prop := ∃ M : List Sl -> Prop, t { D with nx := M } ρ /\ ∀ ρ', M ρ' -> D.nx ρ'
theorem O7 (h : PS X st (sOf C t)) : PS X st (sOf C (P4 t)) := PS.wk h fun _ _ _ ⟨ρ, P, Dd, R, ⟨M, h1, h2⟩, E⟩ => ⟨ρ, P, { Dd with nx := M }, R, h1, ⟨fun ρ' σ' H' R' h => E.nx ρ' σ' H' R' (h2 ρ' h), E.rt, E.bk, E.ct, E.ro⟩⟩
theorem C22 : PS X st (sOf C fun _ _ => False) := PS.wk C13 fun _ _ _ zz22 => el3 zz22 fun _ _ _ _ h _ => h
def A3c (te : DE)  (D : L7) (ρ : List Sl) : Prop := te ρ fun d _ => D.rt d
theorem D0 (h : PE X e (eOf C te)) : PS X (.Return (some e) pos) (sOf C (A3c te)) := PS.wk (A0o h) fun _ _ _ zz23 => el3 zz23 fun ρ P _ R ht E => ⟨ρ, P, _, R, ht, fun v d _ _ R' q => E.rt v d _ _ _ R' q⟩
def A1d (c : DT) (t u : DS)  (D : L7) (ρ : List Sl) : Prop := c ρ fun b ρ' => if b = true then t D ρ' else u D ρ'
theorem J3 {ce : Expr} {a b : List Stmt} (hc : PT X ce (cOf C c)) (ha : PSs X a (sOf C t)) (hb : PSs X b (sOf C u)) : PS X (.If ce a b pos) (sOf C (A1d c t u)) := PS.wk (A4v hc ha hb) fun _ _ _ zz26 => el3 zz26 fun ρ P Dd R ht E => ⟨ρ, P, _, R, ht, fun b ρ' _ R' q => by
 cases b with
 | true => exact M2 ⟨ρ', P, Dd, R', by simpa using q, E⟩
 | false => exact L4 ⟨ρ', P, Dd, R', by simpa using q, E⟩⟩
def A1e (te : DE)  (D : L7) (ρ : List Sl) : Prop := te ρ fun _ ρ' => D.nx ρ'
theorem C23 (h : PE X e (eOf C te)) (hs : swapsWith e none pos.line X.env = pure false := by rfl) : PS X (.Expr e pos) (sOf C (A1e te)) := PS.wk (Z4 h hs) fun _ _ _ zz27 => el3 zz27 fun ρ P _ R ht E => ⟨ρ, P, _, R, ht, fun _ _ _ _ R' q => E.nx _ _ _ R'.pop q⟩
def A1f (i : Nat) (te : DE)  (D : L7) (ρ : List Sl) : Prop := te ρ fun d ρ' => D.nx (ρ'.set i (.sh d))
theorem E1 {i : Nat} (hp : PS X st (A0r (eOf C te) (W4 i))) : PS X st (sOf C (A1f i te)) := PS.wk hp fun _ _ _ zz28 => el3 zz28 fun ρ P _ R ht E => ⟨ρ, P, _, R, ht, fun v d ρ' H' zz29 q => zz29.elim fun col r => E.nx _ _ _ ⟨col, ((r.store (i := i) (r.pd _ B4)).sub fun _ h => A9 _ h)⟩ q⟩
def A1g (i : Nat) (tf : DF)  (D : L7) (ρ : List Sl) : Prop := tf ρ fun ds ρ' => D.nx (ρ'.set i (.ow ds))
theorem g8 {i : Nat} (hp : PS X st (A0r (fOf C tf) (W4 i))) : PS X st (sOf C (A1g i tf)) := PS.wk hp fun _ _ _ zz30 => el3 zz30 fun ρ P _ R ht E => ⟨ρ, P, _, R, ht, fun p vs ds ρ' H1 zz31 hp q => el2 zz31 fun col r t => E.nx _ _ _ (r.own t hp) q⟩
theorem C24 {i n j : Nat} {it : DF} {tt : DT} (hn : n = j + 1) (hp : PS X st (fun D σ H => t7 (iOf C it) n j (fun _ => cOf C tt) (fun _ => eOf C te) σ H fun v H1 => D.nx (σ.set i (some v)) H1)) : PS X st (sOf C (A1g i (m8 j it tt te))) :=
 PS.wk hp fun _ _ _ zz32 => el3 zz32 fun ρ P _ R ht E => B2l hn ⟨ρ, P, _, R, ht, fun p vs ds ρ' H1 zz33 hp q => el2 zz33 fun col r t => E.nx _ _ _ (r.own t hp) q⟩
theorem A92 {i n j : Nat} {it : DF} {tt : DT} (hn : n = j + 1) (hp : PS X st (fun D σ H => t7 (iOf C it) n j (fun _ => cOf C tt) (fun _ => eOf C te) σ H fun v H1 => D.nx (σ.set i (some v)) H1)) : PS X st (sOf C (A1f i (dF (m8 j it tt te)))) :=
 PS.wk hp fun _ _ _ zz34 => el3 zz34 fun ρ P _ R ht E => B2l hn ⟨ρ, P, _, R, ht, fun p vs ds ρ' H1 zz35 hp q => el2 zz35 fun col r t => E.nx _ _ _ ⟨col, (((r.lst t hp).store (i := i) ((r.lst t hp).pd _ B4)).sub fun _ h => A9 _ h)⟩ q⟩
def A1h (i : Nat) (te : DE)  (D : L7) (ρ : List Sl) : Prop := match ρ[i]? with
 | some (.ow _) => te ρ fun d ρ' => match ρ'[i]? with
  | some (.ow ds) => ds.length <= 1000 /\ D.nx (ρ'.set i (.ow (ds ++ [d])))
  | _ => False
 | _ => False
theorem A1i {i : Nat} {K : A4} (hp : PS X st (B4j (tBM K "list" B5a (N5 i) (Q6 (eOf C te) U6)))) : PS X st (sOf C (A1h i te)) := PS.wk hp fun D σ H zz36 => el3 zz36 fun ρ P Dd zz37 ht E => zz37.elim fun col r => by
 unfold A1h at ht
 split at ht
 ·rename_i ds0 e0
  obtain ⟨a, vs, e1, c, n, e2, t⟩ := r.sl i _ e0
  refine ⟨.ref a, L0 e1, .inl ⟨rfl, vs, SqL.of e2⟩, ρ, P, _, ⟨col, r⟩, ht, fun v d ρ' H' zz38 q => zz38.elim fun col' r' => ?_⟩
  split at q
  ·rename_i ds e0'
   obtain ⟨a', vs', e1', c', n', e2', t'⟩ := r'.sl i _ e0'
   rw [e1] at e1'
   cases e1'
   exact ⟨a, vs', v, rfl, rfl, e2', by rw [t'.len]; exact A16 q.1, E.nx _ _ _ ⟨col', ((r'.write e0' e1 (t'.snoc (r'.pd _ B4)))).sub fun _ h => A9 _ h⟩ q.2⟩
  ·exact q.elim
 ·exact ht.elim
def A3d (i : Nat) (te tk : DE)  (D : L7) (ρ : List Sl) : Prop := te ρ fun d ρ1 => match ρ1[i]? with
 | some (.ow _) => tk ρ1 fun k ρ2 => match ρ2[i]? with
  | some (.ow ds) => match k with
   | .int k => bnd (ixN ds.length k) fun j => D.nx (ρ2.set i (.ow (ds.set j d)))
   | _ => False
  | _ => False
 | _ => False
theorem B0.set {F : Addr -> Prop} {H : Hp} {v : V} {d : PyData} (x : ThV F H v d) : ∀ {vs : List V} {ds : List PyData} (j : Nat), B0 F H vs ds -> B0 F H (vs.set j v) (ds.set j d)
 | _, _, _, .nil => .nil
 | _, _, 0, .cons _ t => .cons x t
 | _, _, j + 1, .cons y t => .cons y (B0.set x j t)
theorem A5h {i : Nat} {tk : DE} (hp : PS X st (A0r (eOf C te) (A9l (N5 i) (eOf C tk) A9q))) : PS X st (sOf C (A3d i te tk)) := PS.wk hp fun D σ H zz39 => el3 zz39 fun ρ P Dd R ht E => ⟨ρ, P, _, R, ht, fun v d ρ1 H1 zz40 q1 => zz40.elim fun col1 r1 => by
 split at q1
 ·rename_i ds0 e0
  obtain ⟨a, vs, e1, c, n, e2, t⟩ := r1.sl i _ e0
  refine ⟨.ref a, L0 e1, ρ1, _, _, ⟨col1, r1⟩, q1, fun w k ρ2 H2 zz41 q2 => zz41.elim fun col2 r2 => ?_⟩
  split at q2
  ·rename_i ds e0'
   cases k with
   | int k' =>
    obtain ⟨j, hj, q⟩ := G9 q2
    obtain ⟨a', vs', e1', c', n', e2', t'⟩ := r2.sl i _ e0'
    rw [e1] at e1'
    cases e1'
    have tw : ThV (Z col2) H2 w (.int k') := r2.pd _ B4
    cases tw
    refine ⟨a, vs', k', j, rfl, rfl, e2', by rw [t'.len]; exact hj, E.nx _ _ _ ⟨col2, ((r2.write e0' e1 (B0.set (r2.pd (.v v d) (A9 _ B4)) j t'))).sub fun _ h => A9 _ (A9 _ h)⟩ q⟩
   | _ => exact q2.elim
  ·exact q2.elim
 ·exact q1.elim⟩
abbrev DG := PyData -> List Sl -> (List Sl -> Prop) -> Prop
def gOf (C : DC) (g : DG) : TG := fun v σ H Q => ∃ ρ P d Qd, Rel C ρ σ (.v v d :: P) H /\ g d ρ Qd /\ ∀ ρ' σ', Rel C ρ' σ' P H -> Qd ρ' -> Q σ' H
theorem PG.wk {tg : Expr} {g g' : TG} (h : PG X tg g) (f : ∀ v σ H Q, g' v σ H Q -> g v σ H Q) : PG X tg g' := fun pins s σ H v u Q I r q => h pins s σ H v u Q I r (f v σ H Q q)
def gN (i : Nat)  (d : PyData) (ρ : List Sl) (Q : List Sl -> Prop) : Prop := Q (ρ.set i (.sh d))
theorem T3 {tg : Expr} {i : Nat} (h : PG X tg (W4 i)) : PG X tg (gOf C (gN i)) := PG.wk h fun _ _ _ _ ⟨_, _, _, _, ⟨col, r⟩, ht, k⟩ => k _ _ ⟨col, ((r.store (i := i) (r.pd _ B4)).sub fun _ h => A9 _ h)⟩ ht
def gT2 (i j : Nat)  (d : PyData) (ρ : List Sl) (Q : List Sl -> Prop) : Prop := match d with
 | .tuple [a, b] => Q ((ρ.set i (.sh a)).set j (.sh b))
 | _ => False
def gT3 (i j k : Nat)  (d : PyData) (ρ : List Sl) (Q : List Sl -> Prop) : Prop := match d with
 | .tuple [a, b, c] => Q (((ρ.set i (.sh a)).set j (.sh b)).set k (.sh c))
 | _ => False
theorem A93 {tg : Expr} {i j : Nat} {K : A4} (h : PG X tg (A8f K 2 (j6 (W4 i) (j6 (W4 j) A8e)))) : PG X tg (gOf C (gT2 i j)) := PG.wk h fun v σ H Q ⟨ρ, P, d, Qd, ⟨col, r⟩, ht, k⟩ => by
 unfold gT2 at ht
 split at ht
 ·rename_i a b
  have z : ThV (Z col) H v (.tuple [a, b]) := r.pd _ B4
  cases z with
  | tup za e t =>
   obtain ⟨x, y, rfl, t1, t2⟩ := A9x t
   exact ⟨_, _, rfl, SqT.of e, rfl, x, [y], rfl, y, [], rfl, rfl, k _ _ ⟨col, (((r.store (i := i) t1).store (i := j) t2).sub fun _ h => A9 _ h)⟩ ht⟩
 ·exact ht.elim
theorem B2m {tg : Expr} {i j l : Nat} {K : A4} (h : PG X tg (A8f K 3 (j6 (W4 i) (j6 (W4 j) (j6 (W4 l) A8e))))) : PG X tg (gOf C (gT3 i j l)) := PG.wk h fun v σ H Q ⟨ρ, P, d, Qd, ⟨col, r⟩, ht, k⟩ => by
 unfold gT3 at ht
 split at ht
 ·rename_i a b c
  have z : ThV (Z col) H v (.tuple [a, b, c]) := r.pd _ B4
  cases z with
  | tup za e t =>
   cases t with
   | cons t1 t =>
    obtain ⟨y, z, rfl, t2, t3⟩ := A9x t
    exact ⟨_, _, rfl, SqT.of e, rfl, _, [y, z], rfl, y, [z], rfl, z, [], rfl, rfl, k _ _ ⟨col, ((((r.store (i := i) t1).store (i := j) t2).store (i := l) t3).sub fun _ h => A9 _ h)⟩ ht⟩
 ·exact ht.elim
def A3e (te : DE) (g : DG)  (D : L7) (ρ : List Sl) : Prop := te ρ fun d ρ' => g d ρ' D.nx
theorem B2n {g : DG} (hp : PS X st (A0r (eOf C te) (gOf C g))) : PS X st (sOf C (A3e te g)) := PS.wk hp fun _ _ _ zz45 => el3 zz45 fun ρ P _ R ht E => ⟨ρ, P, _, R, ht, fun v d ρ' H' R' q => ⟨ρ', P, d, _, R', q, fun ρ2 σ2 R2 q2 => E.nx _ _ _ R2 q2⟩⟩
def Blk (t : DS) (D : L7) (ρ : List Sl) : Prop := t D ρ
def B2o (it : DF) (g : DG) (tb : DS) (D : L7) (ρ : List Sl) : Prop := it ρ fun xs ρ1 => ∃ I : List PyData -> List Sl -> Prop, I xs ρ1 /\ (∀ x r ρ, I (x :: r) ρ -> g x ρ (Blk tb { nx := I r, ct := I r, bk := D.nx, rt := D.rt })) /\ ∀ ρ, I [] ρ -> D.nx ρ
theorem P5 {it : DF} {g : DG} {tb : DS} (hp : PS X st (B4p (iOf C it) (gOf C g) (sOf C tb))) : PS X st (sOf C (B2o it g tb)) := PS.wk hp fun D σ H zz46 => el3 zz46 fun ρ P Dd R ht E => ⟨ρ, P, _, R, ht, fun xs ρ1 P1 H1 J R1 s1 io q => by
 obtain ⟨I, q0, qs, qd⟩ := q
 refine ⟨fun i m σ' H' => m = xs.length - i /\ i <= xs.length /\ ∃ ρ', Rel C ρ' σ' P1 H' /\ I (xs.drop i) ρ', ⟨xs.length, by simp, M8 _, ρ1, R1, q0⟩, ?_⟩
 rintro i m σ2 H2 ⟨rfl, hi, ρ2, R2, q2⟩
 by_cases hlt : i < xs.length
 ·rw [A78 hlt] at q2
  refine .inr ⟨io.go (fun _ h => h) R2 hlt, fun σ' H' => ∃ ρ', Rel C ρ' σ' P1 H' /\ I (xs.drop (i + 1)) ρ', fun σ' H' h => ⟨xs.length - (i + 1), by lia, rfl, hlt, h⟩, fun x H3 y => ?_⟩
  refine ⟨ρ2, P1, _, _, io.yld (fun _ h => h) R2 (J5 hlt) y, qs _ _ _ q2, fun ρ3 σ3 R3 q3 => ?_⟩
  refine ⟨ρ3, P1, ⟨I (xs.drop (i + 1)), Dd.rt, Dd.nx, I (xs.drop (i + 1)), fun _ => False⟩, R3, q3, ⟨fun ρ4 σ4 H4 R4 q4 => ⟨ρ4, R4, q4⟩, fun v d ρ4 σ4 H4 R4 q4 => E.rt v d ρ4 σ4 H4 (R4.sub (B55 s1)) q4, fun ρ4 σ4 H4 R4 q4 => E.nx ρ4 σ4 H4 (R4.sub s1) q4, fun ρ4 σ4 H4 R4 q4 => ⟨ρ4, R4, q4⟩, fun _ _ _ _ _ _ _ _ h => h.elim⟩⟩
 ·have e : i = xs.length := by lia
  subst e
  rw [B04] at q2
  exact .inl ⟨io.stop (fun _ h => h) R2, E.nx _ _ _ (R2.sub s1) (qd _ q2)⟩⟩
def A8q (c : DT) (tb : DS)  (D : L7) (ρ : List Sl) : Prop := ∃ W : Nat -> List Sl -> Prop, (∃ m, W m ρ) /\ ∀ m ρ, W m ρ -> c ρ fun b ρ1 => if b = true then Blk tb { nx := fun ρ' => ∃ m', m' < m /\ W m' ρ', ct := fun ρ' => ∃ m', m' < m /\ W m' ρ', bk := D.nx, rt := D.rt } ρ1 else D.nx ρ1
theorem A94 {tb : DS} (hp : PS X st (B1g (cOf C c) (sOf C tb))) : PS X st (sOf C (A8q c tb)) := PS.wk hp fun D σ H ⟨ρ, P, Dd, R, ⟨W, ⟨m0, w0⟩, turn⟩, E⟩ => by
 refine ⟨fun m σ' H' => ∃ ρ', Rel C ρ' σ' P H' /\ W m ρ', ⟨m0, ρ, R, w0⟩, ?_⟩
 rintro m σ1 H1 ⟨ρ1, R1, w1⟩
 refine ⟨ρ1, P, _, R1, turn m ρ1 w1, fun b ρ2 H2 R2 q2 => ?_⟩
 cases b with
 | true =>
  refine M2 ⟨fun σ' H' => ∃ ρ', Rel C ρ' σ' P H' /\ ∃ m', m' < m /\ W m' ρ', fun σ' H' zz48 => zz48.elim fun ρ' zz49 => zz49.elim fun R' zz50 => zz50.elim fun m' zz51 => zz51.elim fun hm w => ⟨m', hm, ρ', R', w⟩, ρ2, P, ⟨fun ρ' => ∃ m', m' < m /\ W m' ρ', Dd.rt, Dd.nx, fun ρ' => ∃ m', m' < m /\ W m' ρ', fun _ => False⟩, R2, by simpa [Blk] using q2, ⟨fun ρ4 σ4 H4 R4 q4 => ⟨ρ4, R4, q4⟩, E.rt, fun ρ4 σ4 H4 R4 q4 => E.nx ρ4 σ4 H4 R4 q4, fun ρ4 σ4 H4 R4 q4 => ⟨ρ4, R4, q4⟩, fun _ _ _ _ _ _ _ _ h => h.elim⟩⟩
 | false => exact L4 (E.nx _ _ _ R2 (by simpa using q2))
end
open PySem.Spec PyProof.Rows
def W8 : Md -> PyData -> Sl
 | .sh, d => .sh d
 | .bo, .list ds => .bo ds
 | .bo, _ => .no
 | .hd, _ => .hd
 | .b2, d => match B2f d with
  | some dss => .b2 dss
  | none => .no
 | .bd, d => .bd d
theorem B6l : ∀ dss : List (List PyData), A1b (lls dss) = some dss
 | [] => rfl
 | ds :: dss => by
  show (A1b (lls dss)).map (ds :: ·) = some (ds :: dss)
  rw [B6l dss]; rfl
theorem C25 (dss : List (List PyData)) : W8 .b2 (.list (lls dss)) = .b2 dss := by
 show (match A1b (lls dss) with
  | some dss => Sl.b2 dss
  | none => .no) = _
 rw [B6l]
def A1j (n : Nat) : List Md -> List PyData -> List Sl
 | m :: ms, d :: ds => W8 m d :: A1j (n - 1) ms ds
 | _, _ => D8 n .no
def b5 : List Str -> List Md -> List PyData -> List Sl
 | [], _, _ => []
 | _ :: N, ms, ds => (match ms, ds with
  | m :: _, d :: _ => W8 m d
  | _, _ => .no) :: b5 N ms.tail ds.tail
theorem B6m : ∀ N : List Str, b5 N [] [] = D8 N.length .no
 | [] => rfl
 | _ :: N => by
  show Sl.no :: b5 N [] [] = _
  rw [B6m N]; rfl
theorem B6n : ∀ {N : List Str} {ms : List Md} {ds : List PyData}, ms.length <= N.length -> ds.length = ms.length -> b5 N ms ds = A1j N.length ms ds
 | N, [], [], _, _ => B6m N
 | _ :: N, m :: ms, d :: ds, h1, h2 => by
  show W8 m d :: b5 N ms ds = W8 m d :: A1j (N.length + 1 - 1) ms ds
  rw [B6n (by simpa using h1) (by simpa using h2)]; rfl
 | [], _ :: _, _, h, _ => by simp at h
 | _, [], _ :: _, _, h => by simp at h
 | _, _ :: _, [], _, h => by simp at h
section
variable {P : Program} {w : World} {K : A4} {mg : Str -> Option Value} {base : Heap}
theorem C26 {C : DC} {col : Addr -> Nat} {H : Hp} {F : Addr -> Prop} {hand : Option (Addr × Addr)} (hC : C.hand = hand) (hH : C.H0 = H) (f : ∀ b, F b -> col b = 0) (lo : ∀ b, col b <= 1) {ms : List Md} {vs : List V} {ds : List PyData} {n : Nat} (ar : g6 F hand H ms vs ds) :
  ∀ (i : Nat) (s : Sl), (A1j n ms ds)[i]? = some s -> ∀ j : Nat, SlR C col H j ((vs.map some ++ D8 (n - vs.length) none)[i]?).join s := by
 induction ar generalizing n with
 | nil =>
  intro i s e j
  have e' : (D8 n Sl.no)[i]? = some s := e
  rw [A86] at e'
  split at e'
  ·cases e'; trivial
  ·cases e'
 | @cons m v d ms vs ds a t ih =>
  intro i s e j
  have e' : (W8 m d :: A1j (n - 1) ms ds)[i]? = some s := e
  cases i with
  | zero =>
   cases e'
   show SlR C col H j (some v) (W8 m d)
   have mv0 : ∀ b o, F b -> H b = some o -> Z col b /\ H b = some o := fun b o z e => ⟨f b z, e⟩
   cases m with
   | sh => exact ⟨v, rfl, ThV.mv mv0 a⟩
   | bo =>
    obtain ⟨ad, us, es, rfl, rfl, nh, e2, t2⟩ := a
    exact ⟨ad, us, rfl, lo ad, by rw [hC]; exact nh, e2, B0.mv mv0 t2⟩
   | hd =>
    obtain ⟨q, hq, rfl⟩ := a
    exact ⟨q, hC.trans hq, rfl⟩
   | b2 =>
    obtain ⟨ad, as, dss, rfl, rfl, nh, e2, t2⟩ := a
    rw [C25]
    exact ⟨ad, as, rfl, ⟨lo ad, by rw [hC]; exact nh⟩, e2, t2.mv mv0 fun b o g e => ⟨⟨lo b, by rw [hC]; exact g⟩, e⟩⟩
   | bd => exact ⟨v, rfl, ThV.mv (fun b o g e => ⟨⟨(by rw [hH, e]; exact fun q => nomatch q), by rw [hC]; exact g⟩, by rw [hH]; exact e⟩) a⟩
  | succ i =>
   have := ih (n := n - 1) i s e' j
   rw [o8, A79, A8a, M1, show n - (vs.length + 1) = n - 1 - vs.length by lia]
   exact this
theorem C27 {F : Addr -> Prop} {hand : Option (Addr × Addr)} {H : Hp} {ms : List Md} {vs : List V} {ds : List PyData} {n : Nat} (a : g6 F hand H ms vs ds) (h : ms.length <= n) : (A1j n ms ds).length = n := by
 induction a generalizing n with
 | nil => show (D8 n Sl.no).length = n; rw [A11]
 | @cons m v d ms vs ds a t ih =>
  show (W8 m d :: A1j (n - 1) ms ds).length = n
  rw [M1] at h
  rw [M1, ih (by lia)]
  lia
open Classical in
theorem G5 {x qual : Str} {st : Stmt} {f : Addr} {fd : FuncData} {N ps : List Str} {k : Nat} {sp : DSp} {ms : List Md} (F : Fun K x qual st f fd) (S : F0 N ps (A7 st)) (hm : ms.length = ps.length)
  (hb : ∀ (C : DC) (cdv : Value) (A : Around) (outer : List Env) (s : Shared) (H : Hp) (E : XK), S4 k (A.deeper (envOfC qual (A7 st) s.heap.objs.size f cdv)) ->
   ∃ t, PSs (A14 CX0 P w K mg base N qual (A7 st) f cdv A outer s H E).nox (E2 st) (sOf C t) /\ ∀ ds Q, ds.length = ms.length -> sp ds Q -> t { nx := fun _ => Q .none, rt := Q } (b5 N ms ds)) :
  D3 P w K mg base CX0 (k + 1) f fd ps (spD ms sp) := by
 refine F.ok S (fun vs H Q E h => ?_) (fun cdv A outer s H vs Q E hr h => ?_)
 ·obtain ⟨_, _, _, _, _, _, _, a, _⟩ := h
  rw [a.len.1, hm]
 ·obtain ⟨G, hand, ds, Qd, h1, h2, h3, a, h4, h5⟩ := h
  obtain ⟨t, ht, q⟩ := hb ⟨G, hand, H⟩ cdv A outer s H E hr
  have hN : ps.length <= N.length := by have := congrArg B0z S.pre; rw [A10] at this; lia
  let col : Addr -> Nat := fun b => if G b then 0 else 1
  have c0 : ∀ b, G b -> col b = 0 := fun b hb => if_pos hb
  have c1 : ∀ b, ¬ G b -> col b = 1 := fun b hb => if_neg hb
  have lo : ∀ b, col b <= 1 := fun b => by
   by_cases z : G b
   ·rw [c0 b z]; lia
   ·rw [c1 b z]; lia
  refine ⟨_, ht, A1j N.length ms ds, [], ⟨fun _ => Qd .none, Qd, fun _ => False, fun _ => False, fun _ => False⟩, ⟨col, fun b hb => c0 b (h1.1 b hb), fun b hb => ?_, fun q hq => c1 _ (h2 q hq), fun i s e => C26 (C := ⟨G, hand, H⟩) rfl rfl c0 lo a i s e i, fun p hp => (nomatch hp), Kq.refl, h3, h3, h1, ?_⟩, by rw [<- B6n (by lia) a.len.2]; exact q ds Qd a.len.2 h4, ⟨fun ρ σ H' R h => ?_, fun v d ρ σ H' R h => ?_, fun _ _ _ _ h => h.elim, fun _ _ _ _ h => h.elim, fun _ _ _ _ _ _ _ _ h => h.elim⟩⟩
  ·by_cases z : G b
   ·exact z
   ·rw [c1 b z] at hb; cases hb
  ·rw [C27 a (by lia)]
   unfold L2.start
   rw [M7, E4, A11, a.len.1]
   lia
  ·obtain ⟨col', r⟩ := R
   exact h5 _ _ _ h .non r.kq r.hq
  ·obtain ⟨col', r⟩ := R
   exact h5 _ _ _ h (ThV.mv (fun b o z e => ⟨r.inF b z, e⟩) (r.pd _ B4)) r.kq r.hq
abbrev C28 := List PyData -> (List (List PyData) -> Prop) -> Prop
open Classical in
end
end My
namespace My
open PySem L2
section
variable {X : Cx} {C : DC} {tg e a b : Expr} {t ta tb : DE} {u : DF} {pos : Pos}
def A1k : List PyData -> Option (List Int)
 | [] => some []
 | .int b :: r => (A1k r).map (b :: ·)
 | _ :: _ => none
theorem B6o {F : Addr -> Prop} {H : Hp} {ds : List PyData} {vs : List V} {bs : List Int} (t : B0 F H vs ds) (h : A1k ds = some bs) : vs = bs.map V.int := by
 induction ds generalizing vs bs with
 | nil => cases t; cases h; rfl
 | cons d r ih =>
  cases t with
  | cons x y =>
   cases x with
   | int b =>
    have h' : (A1k r).map (b :: ·) = some bs := h
    cases q : A1k r with
    | none => rw [q] at h'; cases h'
    | some cs =>
     rw [q] at h'
     cases h'
     rw [ih y q]; rfl
   | _ => cases h
theorem A95 : ∀ ns : List Int, A1k (ns.map PyData.int) = some ns
 | [] => rfl
 | n :: ns => by
  show (A1k (ns.map PyData.int)).map (n :: ·) = some (n :: ns)
  rw [A95 ns]; rfl
def gIn (neg : Bool)  (a b : PyData) (Q : PyData -> Prop) : Prop := match a, b with
 | .int i, .list xs => bnd (A1k xs) fun ns => Q (.bool (if neg then !(ns.contains i) else ns.contains i))
 | _, _ => False
theorem B6p (i : Int) : ∀ ns : List Int, inV (V.int i) (ns.map V.int) = ns.contains i
 | [] => rfl
 | n :: ns => by
  have := B6p i ns
  unfold inV at this ⊢
  rw [o8, List.any_cons, this, List.contains_cons]
  congr 1
  show (n == i) = (i == n)
  exact Bool.beq_comm
theorem B6q : ∀ ns : List Int, (ns.map V.int).all t5 = true
 | [] => rfl
 | n :: ns => by rw [o8, B01, B6q ns]; rfl
theorem C29 {K : A4} {neg : Bool} : N8 C (rIn K neg) (gIn neg) := by
 intro ρ σ P H v w a b Qd Q R hg k
 unfold gIn at hg
 split at hg
 ·obtain ⟨ns, hn, q⟩ := G9 hg
  obtain ⟨col, r, t1, t2⟩ := th2 R
  cases t1
  cases t2 with
  | lst za e t =>
   have z := B6o t hn
   subst z
   refine ⟨_, _, rfl, .inl (SqL.of e), rfl, B6q ns, k _ _ _ ⟨col, r.push ?_⟩ q⟩
   rw [B6p]
   exact .bl _
 ·exact hg.elim
def A3f (i : Nat) (tk : DE)  (ρ : List Sl) (Q : PyData -> List Sl -> Prop) : Prop := bnd (O3 ρ i) fun a0 => bnd (M5 a0) fun _ => tk ρ fun k ρ2 => match k with
 | .int k => bnd (O3 ρ2 i) fun a => bnd (M5 a) fun xs => bnd (A1k xs) fun ns => (k ∈ ns /\ ns.length <= 100000) /\ Q (.int (ns.idxOf k : Nat)) ρ2
 | _ => False
theorem B6r {i : Nat} {K : A4} (h : PE X e (tBM K "list" (B5u K) (N5 i) (Q6 (eOf C t) U6))) : PE X e (eOf C (A3f i t)) := PE.wk h fun σ H Q zz1 => el3 zz1 fun ρ P Qd zz2 ht k => zz2.elim fun col0 r0 => by
 obtain ⟨a0, h0, ht⟩ := G9 ht
 obtain ⟨xs0, hx0, ht⟩ := G9 ht
 have := g7 hx0
 subst this
 obtain ⟨v, ev, t0⟩ := r0.slot h0
 obtain ⟨a, vs, rfl, e0, _⟩ := t0.lst
 refine ⟨_, ev, .inl ⟨rfl, vs, SqL.of e0⟩, ρ, P, _, ⟨col0, r0⟩, ht, fun w d ρ2 H2 R2 h2 => ?_⟩
 split at h2
 ·rename_i kk
  obtain ⟨a1, h1, h2⟩ := G9 h2
  obtain ⟨xs, hx, h2⟩ := G9 h2
  obtain ⟨ns, hn, ⟨hk, hz⟩, q⟩ := G9 h2
  have := g7 hx
  subst this
  obtain ⟨col, r⟩ := R2
  obtain ⟨v', ev', t1⟩ := r.slot h1
  rw [ev] at ev'
  cases ev'
  obtain ⟨a', vs', e', e1, t1⟩ := t1.lst
  cases e'
  have z := B6o t1 hn
  subst z
  have tw : ThV (Z col) H2 w (.int kk) := r.pd _ B4
  cases tw
  exact ⟨a, ns, kk, rfl, rfl, SqL.of e1, hk, hz, k _ _ _ _ ⟨col, (r.sub fun _ h => A9 _ h).push (.int _)⟩ q⟩
 ·exact h2.elim
def A3g (t : DE)  (ρ : List Sl) (Q : List PyData -> List Sl -> Prop) : Prop := t ρ fun d ρ' => bnd (M5 d) fun xs => Q xs.reverse ρ'
theorem B0.rev {F : Addr -> Prop} {H : Hp} {vs : List V} {ds : List PyData} (t : B0 F H vs ds) : B0 F H vs.reverse ds.reverse := by
 induction vs generalizing ds with
 | nil => cases t; exact .nil
 | cons v vs ih =>
  cases t with
  | cons x t =>
   rw [B32, B32]
   exact (ih t).append (.cons x .nil)
theorem C3a {K : A4} (h : PE X e (fun σ H Q => Q6 (eOf C t) U6 σ H fun vs H1 => ∃ a xs, vs = [.ref a] /\ SqL K H1 a xs /\ ∀ p, H1 p = none -> Q (.ref p) (upd H1 p (.lst xs.reverse)))) : PE X e (fOf C (A3g t)) := PE.wk h fun _ _ _ zz3 => el3 zz3 fun ρ P _ R ht k => ⟨ρ, P, _, R, ht, fun v d ρ' H' zz4 q => zz4.elim fun col r => by
 obtain ⟨xs, hx, q⟩ := G9 q
 have := g7 hx
 subst this
 obtain ⟨a, vs, rfl, e, t⟩ := Red.lst (.th (r.pd _ B4))
 exact ⟨a, vs, rfl, SqL.of e, fun p hp => k _ _ _ _ _ ⟨col, r.sub fun _ h => A9 _ h, t.rev⟩ hp q⟩⟩
theorem C3b {K : A4} {a : Addr} {vs : List V} {xs : List PyData} {P : List Pe} : A5f C (Itv K a vs.length) xs.reverse (.n a (.lst vs) :: .s vs xs :: P) where
 go := fun {i ρ σ P' H} s R hi => by
  obtain ⟨col, r⟩ := R
  have h1 := r.pd _ (s _ B4)
  have h2 : B0 (Z col) H vs xs := r.pd _ (s _ (A9 _ B4))
  have hl := h2.len
  rw [A77] at hi
  exact ⟨vs, vs.reverse[i]'(by rw [A77]; lia), SqL.of h1.2.2, rfl, J5 _⟩
 yld := fun {i ρ σ P' H H' x d} s R hi y => by
  obtain ⟨e, y⟩ := y
  subst e
  obtain ⟨col, r⟩ := R
  have h1 := r.pd _ (s _ B4)
  have h2 : B0 (Z col) H' vs xs := r.pd _ (s _ (A9 _ B4))
  have hx := y vs (SqL.of h1.2.2)
  obtain ⟨d', e1, t⟩ := h2.rev.get hx
  rw [hi] at e1
  cases e1
  exact ⟨col, r.push t⟩
 stop := fun {ρ σ P' H} s R => by
  obtain ⟨col, r⟩ := R
  have h2 : B0 (Z col) H vs xs := r.pd _ (s _ (A9 _ B4))
  have hl := h2.len
  show vs.length <= xs.reverse.length
  rw [A77]; lia
def B2p (t : DE)  (ρ : List Sl) (Q : List PyData -> List Sl -> Prop) : Prop := t ρ fun d ρ' => bnd (M5 d) fun xs => Q xs.reverse ρ'
theorem C3c {K : A4} (h : PI X tg e (B5y K (Q6 (eOf C t) U6))) : PI X tg e (iOf C (B2p t)) := PI.wk h fun _ _ _ zz5 => el3 zz5 fun ρ P _ R ht k => ⟨ρ, P, _, R, ht, fun v d ρ' H' zz6 q => zz6.elim fun col r => by
 obtain ⟨xs, hx, q⟩ := G9 q
 have := g7 hx
 subst this
 obtain ⟨a, vs, rfl, za, e1, t1⟩ := A1c (show ThV (Z col) H' v (.list xs) from r.pd _ B4)
 refine ⟨a, vs, rfl, SqL.of e1, k _ ρ' (.n a (.lst vs) :: .s vs xs :: P) H' _ ⟨col, ?_⟩ (fun _ h => A9 _ (A9 _ h)) C3b q⟩
 exact ((r.sub fun _ h => A9 _ h).add (x := .s vs xs) t1).add (x := .n a (.lst vs)) ⟨by rw [show col a = 0 from za]; decide, r.notH (by rw [show col a = 0 from za]; decide), e1⟩⟩
theorem W9 {n j : Nat} {it : DF} {tt : DT} {te : DE} (hn : n = j + 1) (h : PE X e (t7 (iOf C it) n j (fun _ => cOf C tt) (fun _ => eOf C te))) : PE X e (fOf C (m8 j it tt te)) := PE.wk h fun _ _ _ h => B2l hn h
def gB2 (f : Bool -> Bool -> Bool)  (a b : PyData) (Q : PyData -> Prop) : Prop := match a, b with
 | .bool i, .bool j => Q (.bool (f i j))
 | _, _ => False
theorem B6s {f : Bool -> Bool -> Bool} : N8 C (fun x y H Q => ∃ b c : Bool, x = .bl b /\ y = .bl c /\ Q (.bl (f b c)) H) (gB2 f) := by
 intro ρ σ P H v w a b Qd Q R hg k
 unfold gB2 at hg
 split at hg
 ·obtain ⟨col, r, t1, t2⟩ := th2 R
  cases t1; cases t2
  exact ⟨_, _, rfl, rfl, k _ _ _ ⟨col, r.push (.bl _)⟩ hg⟩
 ·exact hg.elim
theorem C3d : N8 C (fun x y H Q => ∃ b c : Bool, x = .bl b /\ y = .bl c /\ Q (.bl (b == c)) H) (gB2 fun b c => b == c) := B6s
theorem C3e : N8 C (fun x y H Q => ∃ b c : Bool, x = .bl b /\ y = .bl c /\ Q (.bl (!(b == c))) H) (gB2 fun b c => !(b == c)) := B6s
end
theorem C3f {α : Type} {x : α} {xs : List α} : atI (x :: xs) 0 = some x := W5 (j := 0) rfl
theorem A5i {α : Type} {x : α} : atI [x] 0 = some x := rfl
theorem A5j {α : Type} {x y : α} : atI [x, y] 0 = some x := rfl
theorem A5k {α : Type} {x y : α} : atI [x, y] 1 = some y := rfl
theorem A5l {α : Type} {x y z : α} : atI [x, y, z] 0 = some x := rfl
theorem A5m {α : Type} {x y z : α} : atI [x, y, z] 1 = some y := rfl
theorem A5n {α : Type} {x y z : α} : atI [x, y, z] 2 = some z := rfl
theorem A5o {a b : Prop} : (if true = true then a else b) = a := rfl
theorem A5p {a b : Prop} : (if false = true then a else b) = b := rfl
theorem A5q {a b : Bool} : (if true = true then a else b) = a := rfl
theorem A5r {a b : Bool} : (if false = true then a else b) = b := rfl
theorem A5s {a b : Int} : (if true = true then a else b) = a := rfl
theorem A5t {a b : Int} : (if false = true then a else b) = b := rfl
theorem A5u {α : Type} {a : α} {Q : α -> Prop} : bnd (some a) Q = Q a := rfl
theorem V7 {α : Type} {te : DE} {ρ : List Sl} {Q : List PyData -> Prop} {g f : α -> PyData} : ∀ {xs : List α} {acc : List PyData}, (∀ x ∈ xs, ∀ Q' : PyData -> List Sl -> Prop, Q' (f x) (ρ ++ [.sh (g x)]) -> te (ρ ++ [.sh (g x)]) Q') -> Q (acc ++ xs.map f) -> w4 A29 te ρ Q (xs.map g) acc
 | [], acc, _, q => by
  have q' : Q (acc ++ []) := q
  rw [d5] at q'
  exact q'
 | x :: r, acc, h, q => by
  refine ⟨rfl, ?_⟩
  rw [if_pos rfl]
  refine h x B4 _ ⟨rfl, V7 (fun y hy => h y (A9 _ hy)) ?_⟩
  rw [j4]
  exact q
theorem A96 {α : Type} {tt : DT} {te : DE} {ρ : List Sl} {Q : List PyData -> Prop} {g f : α -> PyData} {p : α -> Bool} : ∀ {xs : List α} {acc : List PyData}, (∀ x ∈ xs, ∀ Q' : Bool -> List Sl -> Prop, Q' (p x) (ρ ++ [.sh (g x)]) -> tt (ρ ++ [.sh (g x)]) Q') -> (∀ x ∈ xs, p x = true -> ∀ Q' : PyData -> List Sl -> Prop, Q' (f x) (ρ ++ [.sh (g x)]) -> te (ρ ++ [.sh (g x)]) Q') ->
  Q (acc ++ (xs.filter p).map f) -> w4 tt te ρ Q (xs.map g) acc
 | [], acc, _, _, q => by
  have q' : Q (acc ++ []) := q
  rw [d5] at q'
  exact q'
 | x :: r, acc, h1, h2, q => by
  refine h1 x B4 _ ⟨rfl, ?_⟩
  cases e : p x with
  | true =>
   rw [if_pos rfl]
   refine h2 x B4 e _ ⟨rfl, A96 (fun y hy => h1 y (A9 _ hy)) (fun y hy => h2 y (A9 _ hy)) ?_⟩
   rw [List.filter_cons_of_pos e] at q
   rw [j4]
   exact q
  | false =>
   rw [if_neg S0]
   refine A96 (fun y hy => h1 y (A9 _ hy)) (fun y hy => h2 y (A9 _ hy)) ?_
   rw [List.filter_cons_of_neg (by rw [e]; exact S0)] at q
   exact q
theorem B2q {xs : List PyData} {k : Nat} : V1 xs none (some ((k : Nat) : Int)) = xs.take k := by
 unfold V1
 rw [HT.sIx_none, HT.sIx_nat, List.drop_zero, Nat.sub_zero]
 by_cases h : k <= xs.length
 ·rw [A87 h]
 ·rw [Nat.min_eq_right (by lia), B34 (F6 _), B34 (by lia)]
theorem C3g {xs : List PyData} {i j : Nat} (h1 : i <= xs.length) (h2 : j <= xs.length) : V1 xs (some ((i : Nat) : Int)) (some ((j : Nat) : Int)) = (xs.drop i).take (j - i) := by
 unfold V1
 rw [HT.sIx_nat, HT.sIx_nat, A87 h1, A87 h2]
end My
namespace My
open PySem L2
def B2r (tt : DT) (te : DE) (ρ : List Sl) (Q : List PyData -> Prop) : List PyData -> List PyData -> Prop
 | [], acc => Q acc
 | .tuple [x, y, z] :: r, acc => tt (ρ ++ [.sh x, .sh y, .sh z]) fun b ρ' => ρ' = ρ ++ [.sh x, .sh y, .sh z] /\ if b = true then te (ρ ++ [.sh x, .sh y, .sh z]) fun d ρ'' => ρ'' = ρ ++ [.sh x, .sh y, .sh z] /\ B2r tt te ρ Q r (acc ++ [d]) else B2r tt te ρ Q r acc
 | _ :: _, _ => False
def A5v (it : DF) (tt : DT) (te : DE) (ρ : List Sl) (Q : List PyData -> List Sl -> Prop) : Prop := it ρ fun xs ρ1 => xs.length <= 1000 /\ B2r tt te ρ1 (fun ds => Q ds ρ1) xs []
section
variable {X : Cx} {C : DC}
end
theorem B6t {te : DE} {ρ : List Sl} {Q : List PyData -> Prop} {R : PyData -> Prop} : ∀ {xs acc : List PyData}, (∀ x ∈ xs, ∀ Q' : PyData -> List Sl -> Prop, (∀ d, R d -> Q' d (ρ ++ [.sh x])) -> te (ρ ++ [.sh x]) Q') -> (∀ ds : List PyData, ds.length = xs.length -> (∀ d ∈ ds, R d) -> Q (acc ++ ds)) -> w4 A29 te ρ Q xs acc
 | [], acc, _, q => by
  have q' := q [] rfl (fun d hd => nomatch hd)
  rw [d5] at q'
  exact q'
 | x :: r, acc, h, q => by
  refine ⟨rfl, ?_⟩
  rw [if_pos rfl]
  refine h x B4 _ fun d hd => ⟨rfl, B6t (fun y hy => h y (A9 _ hy)) fun ds hl hR => ?_⟩
  rw [j4]
  refine q ([d] ++ ds) (by simp [hl]) fun e he => ?_
  rcases X5.mp he with z | z
  ·have : e = d := by simpa using z
   subst this; exact hd
  ·exact hR e z
section
variable {X : Cx} {C : DC}
theorem C3h {sts : List Stmt} {t : DS} (h : ∀ C, PSs X sts (sOf C t)) : PSs X sts (fun D σ H => ∃ C, sOf C t D σ H) := fun pins s σ H D I zz2 => zz2.elim fun C q => h C pins s σ H D I q
open Classical in
theorem C3i {H : Hp} {hd hl : Addr} {v0 : V} {k : Nat} {t : DS} {D : A0n} (d : Hd H hd hl) (hD : ∀ H', D.rt (.bl true) H') (ht : t { nx := fun _ => False, rt := fun d => d = .bool true } (.no :: .hd :: D8 k .no)) :
  ∃ C, sOf C t D (some v0 :: some (.ref hd) :: D8 k none) H := by
 refine ⟨⟨fun b => b ≠ hd, some (hd, hl), H⟩, _, [], ⟨fun _ => False, fun d => d = .bool true, fun _ => False, fun _ => False, fun _ => False⟩, ⟨fun b => if b = hd then 1 else 0, fun b hb => ?_, fun b hb => ?_, fun q hq => ?_, fun i s e => ?_, fun p hp => (nomatch hp), Kq.refl, fun q hq => ?_, fun q hq => ?_, ⟨fun b hb => ?_, fun b xs hb => ?_⟩, ?_⟩, ht, ⟨fun _ _ _ _ h => h.elim, fun v d ρ σ H' R h => ?_, fun _ _ _ _ h => h.elim, fun _ _ _ _ h => h.elim, fun _ _ _ _ _ _ _ _ h => h.elim⟩⟩
 ·obtain ⟨o, e⟩ := d.at1
  exact if_neg fun z => by rw [z, e] at hb; cases hb
 ·intro z
  have hb' : (if b = hd then 1 else 0) = 0 := hb
  rw [if_pos z] at hb'
  cases hb'
 ·cases hq
  exact if_pos rfl
 ·match i with
  | 0 => cases e; trivial
  | 1 => cases e; exact ⟨(hd, hl), rfl, rfl⟩
  | i + 2 =>
   have e' : (D8 k Sl.no)[i]? = some s := e
   rw [A86] at e'
   split at e'
   ·cases e'; trivial
   ·cases e'
 ·cases hq; exact d
 ·cases hq; exact d
 ·intro z
  obtain ⟨o, e⟩ := d.at1
  rw [z] at hb
  have hb' : H hd = none := hb
  rw [e] at hb'; cases hb'
 ·intro z
  obtain ⟨_, _, _, _, _, _, _, _, e⟩ := id d
  rw [z] at hb
  have hb' : H hd = some (.tup xs) := hb
  rw [e] at hb'; cases hb'
 ·simp
 ·obtain ⟨col, r⟩ := R
  have t := r.pd _ B4
  subst h
  cases (show ThV (Z col) H' v (.bool true) from t)
  exact hD H'
end
end My
namespace My
open PySem L2
section
variable {X : Cx} {C : DC}
def gT5 (i j k l n : Nat)  (d : PyData) (ρ : List Sl) (Q : List Sl -> Prop) : Prop := match d with
 | .tuple [a, b, c, e, f] => Q (((((ρ.set i (.sh a)).set j (.sh b)).set k (.sh c)).set l (.sh e)).set n (.sh f))
 | _ => False
def A1l : List PyData -> Option (List Str)
 | [] => some []
 | .str b :: r => (A1l r).map (b :: ·)
 | _ :: _ => none
def A5w (neg : Bool)  (a b : PyData) (Q : PyData -> Prop) : Prop := match a, b with
 | .str i, .tuple xs => bnd (A1l xs) fun ns => Q (.bool (if neg then !(inV (.str i) (ns.map V.str)) else inV (.str i) (ns.map V.str)))
 | _, _ => False
def A5x  (ds : List PyData) (Q : PyData -> Prop) : Prop := match ds with
 | [.list xs] => xs ≠ [] /\ (∀ x ∈ xs, ∃ i j : Int, x = .tuple [.int i, .int j]) /\ ∀ x ∈ xs, Q x
 | _ => False
end
end My
namespace My
open PySem L2
section
variable {X : Cx} {C : DC} {e : Expr} {u : DF}
def A5y (i : Nat) (tk : DE)  (ρ : List Sl) (Q : PyData -> List Sl -> Prop) : Prop := match ρ[i]? with
 | some (.ow _) => tk ρ fun k ρ' => match ρ'[i]? with
  | some (.ow ds) => match k with
   | .int k => bnd (ixN ds.length k) fun j => bnd (ds[j]?) fun d => ds.length <= 1000 /\ Q d (ρ'.set i (.ow (ds.eraseIdx j)))
   | _ => False
  | _ => False
 | _ => False
def A5z (t : DE)  (ρ : List Sl) (Q : List PyData -> List Sl -> Prop) : Prop := t ρ fun d ρ' => match d with
 | .int n => (0 <= n /\ n <= 1000) /\ Q (G7 0 n.toNat) ρ'
 | _ => False
end
end My
namespace My
open PySem L2
def w5 (xs ys : List PyData) : List PyData := (xs.zip ys).map fun p => .tuple [p.1, p.2]
theorem C3j {xs ys : List PyData} {i : Nat} {d : PyData} (h : (w5 xs ys)[i]? = some d) : ∃ x y, xs[i]? = some x /\ ys[i]? = some y /\ d = .tuple [x, y] := by
 unfold w5 at h
 rw [N1] at h
 cases q : (xs.zip ys)[i]? with
 | none => rw [q] at h; cases h
 | some p =>
  rw [q] at h
  cases h
  obtain ⟨e1, e2⟩ := List.getElem?_zip_eq_some.mp q
  exact ⟨p.1, p.2, e1, e2, rfl⟩
section
variable {X : Cx} {C : DC} {tg e : Expr} {t u : DE}
theorem C3k {K : A4} {a b : Addr} {vs ws : List V} {xs ys : List PyData} {P : List Pe} : A5f C (Itz K a b) (w5 xs ys) (.n a (.lst vs) :: .s vs xs :: .n b (.lst ws) :: .s ws ys :: P) where
 go := fun {i ρ σ P' H} s R hi => by
  obtain ⟨col, r⟩ := R
  have h1 := r.pd _ (s _ B4)
  have h2 : B0 (Z col) H vs xs := r.pd _ (s _ (A9 _ B4))
  have h3 := r.pd _ (s _ (A9 _ (A9 _ B4)))
  have h4 : B0 (Z col) H ws ys := r.pd _ (s _ (A9 _ (A9 _ (A9 _ B4))))
  have l1 := h2.len
  have l2 := h4.len
  have hi' : i < min xs.length ys.length := by unfold w5 at hi; rw [E4, B05] at hi; exact hi
  exact ⟨vs, ws, vs[i], ws[i], SqL.of h1.2.2, SqL.of h3.2.2, J5 (by lia), J5 (by lia)⟩
 yld := fun {i ρ σ P' H H' x d} s R hi y => by
  obtain ⟨p, v, w, rfl, hp, rfl, y⟩ := y
  obtain ⟨col, r⟩ := R
  have h1 := r.pd _ (s _ B4)
  have h2 : B0 (Z col) H vs xs := r.pd _ (s _ (A9 _ B4))
  have h3 := r.pd _ (s _ (A9 _ (A9 _ B4)))
  have h4 : B0 (Z col) H ws ys := r.pd _ (s _ (A9 _ (A9 _ (A9 _ B4))))
  obtain ⟨hx, hy⟩ := y vs ws (SqL.of h1.2.2) (SqL.of h3.2.2)
  obtain ⟨x, y', e1, e2, rfl⟩ := C3j hi
  obtain ⟨d1, q1, t1⟩ := h2.get hx
  obtain ⟨d2, q2, t2⟩ := h4.get hy
  rw [e1] at q1
  rw [e2] at q2
  cases q1
  cases q2
  exact ⟨col, r.tup (.cons t1 (.cons t2 .nil)) hp⟩
 stop := fun {ρ σ P' H} s R => by
  obtain ⟨col, r⟩ := R
  have h1 := r.pd _ (s _ B4)
  have h2 : B0 (Z col) H vs xs := r.pd _ (s _ (A9 _ B4))
  have h3 := r.pd _ (s _ (A9 _ (A9 _ B4)))
  have h4 : B0 (Z col) H ws ys := r.pd _ (s _ (A9 _ (A9 _ (A9 _ B4))))
  have l1 := h2.len
  have l2 := h4.len
  refine ⟨vs, ws, SqL.of h1.2.2, SqL.of h3.2.2, ?_⟩
  unfold w5
  rw [E4, B05]
  lia
def A3h (t u : DE)  (ρ : List Sl) (Q : List PyData -> List Sl -> Prop) : Prop := t ρ fun d ρ1 => u ρ1 fun d2 ρ2 => bnd (M5 d) fun xs => bnd (M5 d2) fun ys => Q (w5 xs ys) ρ2
theorem C3l {K : A4} (h : PI X tg e (B5z K (Q6 (eOf C t) (Q6 (eOf C u) U6)))) : PI X tg e (iOf C (A3h t u)) := PI.wk h fun _ _ _ zz1 => el3 zz1 fun ρ P _ R ht k => ⟨ρ, P, _, R, ht, fun v d ρ1 H1 R1 h1 => ⟨ρ1, _, _, R1, h1, fun w d2 ρ2 H2 zz2 q => zz2.elim fun col r => by
 obtain ⟨xs, hx, q⟩ := G9 q
 obtain ⟨ys, hy, q⟩ := G9 q
 have := g7 hx
 subst this
 have := g7 hy
 subst this
 obtain ⟨b, ws, rfl, zb, e2, t2⟩ := A1c (show ThV (Z col) H2 w (.list ys) from r.pd _ B4)
 obtain ⟨a, vs, rfl, za, e1, t1⟩ := A1c (show ThV (Z col) H2 v (.list xs) from r.pd _ (A9 _ B4))
 refine ⟨a, b, rfl, ⟨vs, SqL.of e1⟩, ⟨ws, SqL.of e2⟩, k _ ρ2 (.n a (.lst vs) :: .s vs xs :: .n b (.lst ws) :: .s ws ys :: P) H2 _ ⟨col, ?_⟩ (fun _ h => A9 _ (A9 _ (A9 _ (A9 _ h)))) C3k q⟩
 have ok : ∀ (c : Addr) (o : HO), col c = 0 -> H2 c = some o -> PeR C col H2 (.n c o) := fun c o z e => ⟨by rw [z]; decide, r.notH (by rw [z]; decide), e⟩
 exact ((((r.sub fun _ h => A9 _ (A9 _ h)).add (x := .s ws ys) t2).add (x := .n b (.lst ws)) (ok b _ zb e2)).add (x := .s vs xs) t1).add (x := .n a (.lst vs)) (ok a _ za e1)⟩⟩
end
def g9 (tt : DT) (te : DE) (ρ : List Sl) (Q : List PyData -> Prop) : List PyData -> List PyData -> Prop
 | [], acc => Q acc
 | .tuple [x, y] :: r, acc => tt (ρ ++ [.sh x, .sh y]) fun b ρ' => ρ' = ρ ++ [.sh x, .sh y] /\ if b = true then te (ρ ++ [.sh x, .sh y]) fun d ρ'' => ρ'' = ρ ++ [.sh x, .sh y] /\ g9 tt te ρ Q r (acc ++ [d]) else g9 tt te ρ Q r acc
 | _ :: _, _ => False
def A1m (it : DF) (tt : DT) (te : DE) (ρ : List Sl) (Q : List PyData -> List Sl -> Prop) : Prop := it ρ fun xs ρ1 => xs.length <= 1000 /\ g9 tt te ρ1 (fun ds => Q ds ρ1) xs []
theorem C3m {tt : DT} {te : DE} {ρ : List Sl} {Q : List PyData -> Prop} {dx : PyData} {r acc : List PyData} (h : g9 tt te ρ Q (dx :: r) acc) : ∃ a b, dx = .tuple [a, b] := by
 cases dx with
 | tuple l =>
  match l, h with
  | [a, b], _ => exact ⟨a, b, rfl⟩
  | [], h => simp [g9] at h
  | [_], h => simp [g9] at h
  | _ :: _ :: _ :: _, h => simp [g9] at h
 | _ => simp [g9] at h
section
variable {X : Cx} {C : DC}
theorem Rel.ext2 {ρ : List Sl} {σ : St} {P : List Pe} {H : Hp} {v1 v2 : V} {a b : PyData} (R : ∃ col, B8 C col ρ σ P H /\ ThV (Z col) H v1 a /\ ThV (Z col) H v2 b) : Rel C (ρ ++ [.sh a, .sh b]) (σ ++ [some v1, some v2]) P H := by
 obtain ⟨col, r, t1, t2⟩ := R
 refine ⟨col, { r with sl := fun i s e => ?_, len := by rw [M7, M7, r.len]; rfl }⟩
 by_cases hi : i < ρ.length
 ·rw [d6 hi] at e
  rw [d6 (by rw [<- r.len]; exact hi)]
  exact r.sl i s e
 ·rw [Z0 (by lia)] at e
  rw [Z0 (by rw [<- r.len]; lia), <- r.len]
  match q : i - ρ.length with
  | 0 => rw [q] at e; cases e; exact ⟨_, rfl, t1⟩
  | 1 => rw [q] at e; cases e; exact ⟨_, rfl, t2⟩
  | n + 2 => rw [q] at e; simp at e
theorem C3n {K : A4} {it : DF} {tt : DT} {te : DE} {σ : St} {H : Hp} {Q : VK} (h : fOf C (A1m it tt te) σ H Q) : B13 K (iOf C it) (fun _ => cOf C tt) (fun _ => eOf C te) σ H Q := by
 obtain ⟨ρ, P, Qd, R, ht, k⟩ := h
 refine ⟨ρ, P, _, R, ht, fun xs ρ1 P1 H1 J R1 s1 io q => ?_⟩
 obtain ⟨hx, q⟩ := q
 have lz : ∀ m, m <= 1000 -> m <= sizeLine := fun m hm => A0j (A16 hm)
 refine ⟨fun i m ys H' => m = xs.length - i /\ i <= xs.length /\ ys.length <= i /\ ∃ acc, Rel C ρ1 σ (.s ys acc :: P1) H' /\ g9 tt te ρ1 (fun ds => Qd ds ρ1) (xs.drop i) acc, ⟨xs.length, by simp, M8 _, F6 _, [], ?_, q⟩, ?_⟩
 ·obtain ⟨col, r⟩ := R1
  exact ⟨col, r.add (x := .s [] []) .nil⟩
 rintro i m ys H2 ⟨rfl, hi, hy, acc, R2, q2⟩
 refine ⟨lz _ (by lia), ?_⟩
 have sub2 : ∀ p ∈ P1, p ∈ Pe.s ys acc :: P1 := fun _ h => A9 _ h
 have hlen : ρ1.length = σ.length := by obtain ⟨col, r⟩ := R2; exact r.len
 by_cases hlt : i < xs.length
 ·rw [A78 hlt] at q2
  refine .inr ⟨io.go sub2 R2 hlt, fun ys' H' => ys'.length <= i + 1 /\ ∃ acc, Rel C ρ1 σ (.s ys' acc :: P1) H' /\ g9 tt te ρ1 (fun ds => Qd ds ρ1) (xs.drop (i + 1)) acc, fun ys' H' zz3 => zz3.elim fun h1 h2 => ⟨xs.length - (i + 1), by lia, rfl, hlt, h1, h2⟩, fun x H3 y a => ?_⟩
  obtain ⟨col, r⟩ := io.yld sub2 R2 (J5 hlt) y
  have tx : ThV (Z col) H3 x xs[i] := r.pd _ B4
  generalize xs[i] = dx at tx q2
  obtain ⟨d1, d2, rfl⟩ := C3m q2
  ·replace q2 : tt (ρ1 ++ [.sh d1, .sh d2]) _ := q2
   obtain ⟨pa, us, rfl, za, e1, t1⟩ := B6i tx
   obtain ⟨y1, y2, rfl, u2, u3⟩ := A9x t1
   refine ⟨pa, _, _, rfl, SqT.of e1, ?_⟩
   have R3 := Rel.ext2 ⟨col, (r.sub fun _ h => A9 _ h), u2, u3⟩
   refine ⟨_, _, _, R3, q2, fun b ρ' H4 R4 q4 => ?_⟩
   obtain ⟨rfl, q4⟩ := q4
   cases b with
   | true =>
    refine M2 ⟨_, _, _, R4, by simpa using q4, fun v d ρ'' H5 R5 q5 => ?_⟩
    obtain ⟨rfl, q5⟩ := q5
    refine ⟨by rw [M7]; simp; lia, acc ++ [d], ?_, q5⟩
    obtain ⟨col', r'⟩ := R5
    have w1 : ThV (Z col') H5 v d := r'.pd _ B4
    have w2 : B0 (Z col') H5 ys acc := r'.pd _ (A9 _ B4)
    exact ⟨col', ((r'.unext hlen).sub fun _ h => A9 _ (A9 _ h)).add (x := .s (ys ++ [v]) (acc ++ [d])) (w2.snoc w1)⟩
   | false =>
    refine L4 ⟨by lia, acc, ?_, by simpa using q4⟩
    obtain ⟨col', r'⟩ := R4
    exact ⟨col', r'.unext hlen⟩
 ·have e : i = xs.length := by lia
  subst e
  rw [B04] at q2
  refine .inl ⟨io.stop sub2 R2, fun p hp => k _ _ _ _ _ ?_ hp q2⟩
  obtain ⟨col, r⟩ := R2
  exact ⟨col, r.sub fun p hp => A9 _ (s1 p hp), r.pd _ B4⟩
theorem B6u {e : Expr} {K : A4} {it : DF} {tt : DT} {te : DE} (h : PE X e (B13 K (iOf C it) (fun _ => cOf C tt) (fun _ => eOf C te))) : PE X e (fOf C (A1m it tt te)) := PE.wk h fun _ _ _ h => C3n h
end
theorem B2s {α : Type} {te : DE} {ρ : List Sl} {Q : List PyData -> Prop} {g1 g2 f : α -> PyData} : ∀ {xs : List α} {acc : List PyData}, (∀ x ∈ xs, ∀ Q' : PyData -> List Sl -> Prop, Q' (f x) (ρ ++ [.sh (g1 x), .sh (g2 x)]) -> te (ρ ++ [.sh (g1 x), .sh (g2 x)]) Q') -> Q (acc ++ xs.map f) -> g9 A29 te ρ Q (xs.map fun x => .tuple [g1 x, g2 x]) acc
 | [], acc, _, q => by
  have q' : Q (acc ++ []) := q
  rw [d5] at q'
  exact q'
 | x :: r, acc, h, q => by
  refine ⟨rfl, ?_⟩
  rw [if_pos rfl]
  refine h x B4 _ ⟨rfl, B2s (fun y hy => h y (A9 _ hy)) ?_⟩
  rw [j4]
  exact q
section
variable {X : Cx} {C : DC} {st : Stmt} {te : DE}
end
inductive h9 {α β : Type} (R : α -> β -> Prop) : List α -> List β -> Prop
 | nil : h9 R [] []
 | cons {a b as bs} : R a b -> h9 R as bs -> h9 R (a :: as) (b :: bs)
theorem B2t {α : Type} {te : DE} {ρ : List Sl} {Q : List PyData -> Prop} {g f : α -> PyData} {R : α -> α -> Prop} : ∀ {xs : List α} {acc : List PyData}, (∀ x ∈ xs, ∀ Q' : PyData -> List Sl -> Prop, (∀ y, R x y -> Q' (f y) (ρ ++ [.sh (g x)])) -> te (ρ ++ [.sh (g x)]) Q') -> (∀ ys : List α, h9 R xs ys -> Q (acc ++ ys.map f)) -> w4 A29 te ρ Q (xs.map g) acc
 | [], acc, _, q => by
  have q' := q [] .nil
  rw [List.map_nil, d5] at q'
  exact q'
 | x :: r, acc, h, q => by
  refine ⟨rfl, ?_⟩
  rw [if_pos rfl]
  refine h x B4 _ fun y hy => ⟨rfl, B2t (fun z hz => h z (A9 _ hz)) fun ys hR => ?_⟩
  rw [j4]
  exact q (y :: ys) (.cons hy hR)
end My
namespace My
open PySem L2
section
variable {X : Cx} {C : DC} {st : Stmt}
def D0v (i : Nat) (tk te : DE)  (D : L7) (ρ : List Sl) : Prop := match ρ[i]? with
 | some (.ow _) => tk ρ fun k ρ1 => te ρ1 fun d ρ2 => match ρ2[i]? with
  | some (.ow ds) => ∃ n : Nat, k = .int ((n : Nat) : Int) /\ n <= ds.length /\ ds.length <= 1000 /\ D.nx (ρ2.set i (.ow (ds.take n ++ [d] ++ ds.drop n)))
  | _ => False
 | _ => False
end
end My
namespace My
open PySem L2
theorem Rws.mvm {G F G' F' : Addr -> Prop} {H H' : Hp} {as : List Addr} {dss : List (List PyData)} (t : Rws G F H as dss) (f : ∀ b o, F b -> H b = some o -> F' b /\ H' b = some o) (g : ∀ b o, b ∈ as -> G b -> H b = some o -> G' b /\ H' b = some o) : Rws G' F' H' as dss := by
 induction t with
 | nil => exact .nil
 | cons x e y _ ih =>
  have := g _ _ B4 x e
  exact .cons this.1 this.2 (y.mv f) (ih fun b o hb => g b o (A9 _ hb))
theorem Rws.put {G F : Addr -> Prop} {H : Hp} {as : List Addr} {dss : List (List PyData)} {b : Addr} {ws : List V} {es : List PyData} (t : Rws G F H as dss) (nd : as.Nodup) {k : Nat} (hb : as[k]? = some b) (mv0 : ∀ x o, F x -> H x = some o -> F x /\ upd H b (.lst ws) x = some o) (y : B0 F (upd H b (.lst ws)) ws es) : Rws G F (upd H b (.lst ws)) as (dss.set k es) := by
 induction t generalizing k with
 | nil => cases hb
 | @cons c vs as ds dss x e z t ih =>
  have nd' := A0k.mp nd
  cases k with
  | zero =>
   have : c = b := Option.some.inj hb
   subst this
   exact .cons x K2 y (t.mvm mv0 fun d o hd g e => ⟨g, by rw [C4 (show d ≠ c from fun q => nd'.1 (by rw [<- q]; exact hd))]; exact e⟩)
  | succ k =>
   have hb' : as[k]? = some b := hb
   have : c ≠ b := fun q => nd'.1 (q ▸ N3 hb')
   exact .cons x (by rw [C4 this]; exact e) (z.mv mv0) (ih nd'.2 hb')
section
variable {C : DC} {col col' : Addr -> Nat} {ρ : List Sl} {σ σ' : St} {P : List Pe} {H H' : Hp} {p : Addr}
theorem B8.chg (r : B8 C col ρ σ P H) (i : Nat) (s : Sl) (hl : ρ.length = σ'.length) (fr : ∀ b, H' b = none -> col' b = 0) (inF : ∀ b, col' b = 0 -> C.F b) (hnd : ∀ q, C.hand = some q -> col' q.1 = 1)
  (z : ∀ b o, col b = 0 -> H b = some o -> col' b = 0 /\ H' b = some o)
  (lo : ∀ b o, col b <= 1 -> (∀ q, C.hand = some q -> b ≠ q.1) -> H b = some o -> col' b <= 1 /\ H' b = some o)
  (c2 : ∀ c as dss, Pe.o c as dss ∈ P -> ∀ b o, col b = 2 * c + 2 -> H b = some o -> col' b = 2 * c + 2 /\ H' b = some o)
  (ow : ∀ b o j, j ≠ i -> col b = 2 * j + 3 -> H b = some o -> col' b = 2 * j + 3 /\ H' b = some o)
  (kq : Kq C.hand C.H0 H') (hq : Hq C.hand H') (same : ∀ j, j ≠ i -> σ'[j]? = σ[j]?)
  (new : i < ρ.length -> SlR C col' H' i (σ'[i]?).join s) : B8 C col' (ρ.set i s) σ' P H' := by
 have mv0 : ∀ b o, Z col b -> H b = some o -> Z col' b /\ H' b = some o := z
 refine ⟨fr, inF, hnd, fun j s' es => ?_, fun x hx => ?_, kq, hq, r.hq0, r.nf, by rw [L9]; exact hl⟩
 ·by_cases hj : j = i
  ·subst hj
   rw [Z2] at es
   simp only [if_true] at es
   split at es
   ·rename_i hl'
    cases es
    exact new hl'
   ·cases es
  ·rw [S7 (Ne.symm hj)] at es
   rw [same j hj]
   have h := r.sl j s' es
   cases s' with
   | no => trivial
   | sh d => obtain ⟨v, e1, t⟩ := h; exact ⟨v, e1, t.mv mv0⟩
   | ow ds => obtain ⟨a, vs, e1, c, n, e2, t⟩ := h; exact ⟨a, vs, e1, (ow a _ j hj c e2).1, n, (ow a _ j hj c e2).2, t.mv mv0⟩
   | bo ds => obtain ⟨a, vs, e1, c, n, e2, t⟩ := h; exact ⟨a, vs, e1, (lo a _ c n e2).1, n, (lo a _ c n e2).2, t.mv mv0⟩
   | hd => exact h
   | o2 dss => obtain ⟨a, as, e1, c, e2, nd, t⟩ := h; exact ⟨a, as, e1, ⟨(ow a _ j hj c.1 e2).1, c.2⟩, (ow a _ j hj c.1 e2).2, nd, t.mv mv0 fun b o g e => ⟨⟨(ow b o j hj g.1 e).1, g.2⟩, (ow b o j hj g.1 e).2⟩⟩
   | b2 dss => obtain ⟨a, as, e1, c, e2, t⟩ := h; exact ⟨a, as, e1, ⟨(lo a _ c.1 c.2 e2).1, c.2⟩, (lo a _ c.1 c.2 e2).2, t.mv mv0 fun b o g e => ⟨⟨(lo b o g.1 g.2 e).1, g.2⟩, (lo b o g.1 g.2 e).2⟩⟩
   | di f ks =>
    obtain ⟨a, e1, c, n, e2⟩ := h
    obtain ⟨o, ho⟩ := Option.ne_none_iff_exists'.mp e2.ne
    exact ⟨a, e1, (ow a o j hj c ho).1, n, e2.mv fun o e => (ow a o j hj c e).2⟩
   | dm f ks =>
    obtain ⟨a, e1, c, n, e2⟩ := h
    obtain ⟨o, ho⟩ := Option.ne_none_iff_exists'.mp e2.ne
    exact ⟨a, e1, (ow a o j hj c ho).1, n, e2.mv fun o e => (ow a o j hj c e).2⟩
   | bd d => exact h
   | ot d =>
    obtain ⟨v, e1, t⟩ := h
    refine ⟨v, e1, t.mv fun b o g e => ?_⟩
    rcases g with g | ⟨g, xs, gt⟩
    ·exact ⟨.inl ⟨(ow b o j hj g.1 e).1, g.2⟩, (ow b o j hj g.1 e).2⟩
    ·have := z b o g e
     exact ⟨.inr ⟨this.1, xs, by rw [e] at gt; rw [this.2]; exact gt⟩, this.2⟩
 ·have h := r.pd x hx
  cases x with
  | v v d => exact ThV.mv mv0 h
  | n a o => exact ⟨(lo a o h.1 h.2.1 h.2.2).1, h.2.1, (lo a o h.1 h.2.1 h.2.2).2⟩
  | s vs ds => exact B0.mv mv0 h
  | o c as dss => exact ⟨h.1, h.2.mv mv0 fun b o g e => ⟨⟨(c2 c as dss hx b o g.1 e).1, g.2⟩, (c2 c as dss hx b o g.1 e).2⟩⟩
  | w v d => exact h
theorem C3o {α : Type} {xs : List α} {x : α} : xs.set xs.length x = xs := List.set_eq_of_length_le (F6 _)
theorem B8.hold {c : Nat} {as : List Addr} {dss : List (List PyData)} {vs : List V} {ds : List PyData} (r : B8 C col ρ σ (.o c as dss :: P) H) (t : B0 (Z col) H vs ds) (hp : H p = none) : Rel C ρ σ (.o c (as ++ [p]) (dss ++ [ds]) :: P) (upd H p (.lst vs)) := by
 let col' : Addr -> Nat := fun b => if b = p then 2 * c + 2 else col b
 have ca : col' p = 2 * c + 2 := if_pos rfl
 have cn : ∀ b, b ≠ p -> col' b = col b := fun b hb => if_neg hb
 have ne : ∀ b o, H b = some o -> b ≠ p := fun b o e q => by rw [q, hp] at e; cases e
 have mvp : ∀ b o, H b = some o -> col' b = col b /\ upd H p (.lst vs) b = some o := fun b o e => ⟨cn b (ne b o e), by rw [C4 (ne b o e)]; exact e⟩
 have r1 := r.lay (o := .lst vs) hp
 have c0 : C.H0 p = none := r.kq.fr r.hq hp
 obtain ⟨nd, rw'⟩ := r.pd (.o c as dss) B4
 have R : B8 C col' ρ σ P (upd H p (.lst vs)) := by
  have := B8.chg (col' := col') (H' := upd H p (.lst vs)) (σ' := σ) (r.sub fun _ h => A9 _ h) ρ.length .no r.len (fun b hb => ?_) (fun b hb => ?_) (fun q hq => ?_) (fun b o c e => ?_) (fun b o c _ e => ?_) (fun _ _ _ _ b o c e => ?_) (fun b o j _ c e => ?_) r1.kq r1.hq (fun _ _ => rfl) (fun z => absurd z (V3 _))
  ·rw [C3o] at this; exact this
  ·have q : b ≠ p := fun q => by rw [q, K2] at hb; cases hb
   rw [cn b q]; exact r1.fresh b hb
  ·have q : b ≠ p := fun q => by rw [q, ca] at hb; cases hb
   rw [cn b q] at hb; exact r.inF b hb
  ·obtain ⟨o', e'⟩ := (r.hq q hq).at1
   rw [(mvp _ _ e').1]; exact r.hnd q hq
  ·rw [(mvp b o e).1]; exact ⟨c, (mvp b o e).2⟩
  ·rw [(mvp b o e).1]; exact ⟨c, (mvp b o e).2⟩
  ·rw [(mvp b o e).1]; exact ⟨c, (mvp b o e).2⟩
  ·rw [(mvp b o e).1]; exact ⟨c, (mvp b o e).2⟩
 refine ⟨col', R.add (x := .o c (as ++ [p]) (dss ++ [ds])) ⟨?_, ?_⟩⟩
 ·refine List.nodup_append.mpr ⟨nd, A0k.mpr ⟨(fun z => nomatch z), B35⟩, fun a ha b hb => ?_⟩
  obtain ⟨_, w, e⟩ := rw'.mem ha
  cases A0l.mp hb
  exact ne a _ e
 ·exact (rw'.mv (fun b o zz e => ⟨(mvp b o e).1.trans zz, (mvp b o e).2⟩) fun b o g e => ⟨⟨(mvp b o e).1.trans g.1, g.2⟩, (mvp b o e).2⟩).snoc ⟨ca, c0⟩ K2 (t.mv fun b o zz e => ⟨(mvp b o e).1.trans zz, (mvp b o e).2⟩)
theorem B8.own2 {i c : Nat} {as : List Addr} {dss : List (List PyData)} (r : B8 C col ρ σ (.o c as dss :: P) H) (hP : ∀ bs ess, Pe.o c bs ess ∉ P) (hp : H p = none) : Rel C (ρ.set i (.o2 dss)) (σ.set i (some (.ref p))) P (upd H p (.lst (as.map V.ref))) := by
 obtain ⟨nd, rw'⟩ := r.pd (.o c as dss) B4
 let col' : Addr -> Nat := fun b => if b ∈ p :: as then 2 * i + 3 else col b
 have ne : ∀ b o, H b = some o -> b ≠ p := fun b o e q => by rw [q, hp] at e; cases e
 have ca : ∀ b, b ∈ p :: as -> col' b = 2 * i + 3 := fun b hb => if_pos hb
 have cn : ∀ b, b ∉ p :: as -> col' b = col b := fun b hb => if_neg hb
 have ni : ∀ b o, H b = some o -> col b ≠ 2 * c + 2 -> b ∉ p :: as := fun b o e h2 q => by
  rcases K1.mp q with q | q
  ·exact ne b o e q
  ·exact h2 (rw'.mem q).1.1
 have r1 := r.lay (o := .lst (as.map V.ref)) hp
 have c0 : C.H0 p = none := r.kq.fr r.hq hp
 have up : ∀ b o, H b = some o -> upd H p (.lst (as.map V.ref)) b = some o := fun b o e => by rw [C4 (ne b o e)]; exact e
 have z0 : ∀ b o, col b = 0 -> H b = some o -> col' b = 0 /\ upd H p (.lst (as.map V.ref)) b = some o := fun b o c e => ⟨by rw [cn b (ni b o e (by lia))]; exact c, up b o e⟩
 refine ⟨col', B8.chg (r.sub fun _ h => A9 _ h) i _ (by rw [L9]; exact r.len) (fun b hb => ?_) (fun b hb => ?_) (fun q hq => ?_) z0 (fun b o c _ e => ⟨?_, up b o e⟩) (fun c' bs ess hb b o cb e => ⟨by rw [cn b (ni b o e (fun q => hP bs ess (by rw [show c = c' by lia]; exact hb)))]; exact cb, up b o e⟩) (fun b o j hj c e => ⟨?_, up b o e⟩) r1.kq r1.hq (fun j hj => by rw [S7 (Ne.symm hj)]) fun hl => ?_⟩
 ·have q : b ∉ p :: as := fun q => by
   rcases K1.mp q with q | q
   ·rw [q, K2] at hb; cases hb
   ·obtain ⟨_, vs, e⟩ := rw'.mem q
    rw [up b _ e] at hb; cases hb
  rw [cn b q]; exact r1.fresh b hb
 ·have q : b ∉ p :: as := fun q => by rw [ca b q] at hb; cases hb
  rw [cn b q] at hb; exact r.inF b hb
 ·obtain ⟨o', e'⟩ := (r.hq q hq).at1
  have := r.hnd q hq
  rw [cn _ (ni _ _ e' (by lia))]; exact this
 ·rw [cn b (ni b o e (by lia))]; exact c
 ·rw [cn b (ni b o e (by lia))]; exact c
 ·refine ⟨p, as, by rw [Z2, if_pos rfl, if_pos (by rw [<- r.len]; exact hl)]; rfl, ⟨ca p B4, c0⟩, K2, A0k.mpr ⟨fun q => ?_, nd⟩, ?_⟩
  ·obtain ⟨_, vs, e⟩ := rw'.mem q
   exact ne p _ e rfl
  ·exact rw'.mvm z0 fun b o hb g e => ⟨⟨ca b (A9 _ hb), g.2⟩, up b o e⟩
theorem B8.write2 {i k : Nat} {a b : Addr} {as : List Addr} {ws : List V} {dss : List (List PyData)} {es : List PyData} (r : B8 C col ρ σ P H) (e : ρ[i]? = some (.o2 dss)) (ea : (σ[i]?).join = some (.ref a)) (eh : H a = some (.lst (as.map V.ref))) (hb : as[k]? = some b) (t : B0 (Z col) H ws es) :
  B8 C col (ρ.set i (.o2 (dss.set k es))) σ P (upd H b (.lst ws)) := by
 obtain ⟨a', as', e1, c, e2, nd, rs⟩ := r.sl i _ e
 rw [e1] at ea
 cases ea
 rw [eh] at e2
 have e2' : as.map V.ref = as'.map V.ref := by
  injection e2 with e2
  injection e2 with e2
 have : as = as' := by
  have := congrArg (List.map fun v : V => match v with | .ref a => a | _ => 0) e2'
  rw [j5, j5] at this
  have id : ((fun v : V => match v with | .ref a => a | _ => 0) ∘ V.ref) = (fun a : Addr => a) := rfl
  rw [id, List.map_id', List.map_id'] at this
  exact this
 subst this
 have mb := N3 hb
 have cb := (rs.mem mb).1
 have nab : a ≠ b := fun q => (A0k.mp nd).1 (q ▸ mb)
 have ne : ∀ x, col x ≠ 2 * i + 3 -> x ≠ b := fun x hx q => hx (q ▸ cb.1)
 have up : ∀ x o, col x ≠ 2 * i + 3 -> H x = some o -> upd H b (.lst ws) x = some o := fun x o h e => by rw [C4 (ne x h)]; exact e
 refine B8.chg r i _ r.len (fun x hx => ?_) r.inF r.hnd (fun x o c e => ⟨c, up x o (by lia) e⟩) (fun x o c _ e => ⟨c, up x o (by lia) e⟩) (fun _ _ _ _ x o c e => ⟨c, up x o (by lia) e⟩) (fun x o j hj c e => ⟨c, up x o (by lia) e⟩) (fun x o e q => ?_) (fun q hq => ?_) (fun _ _ => rfl) fun _ => ?_
 ·by_cases q : x = b
  ·rw [q, K2] at hx; cases hx
  ·rw [C4 q] at hx; exact r.fresh x hx
 ·have z := r.kq x o e q
  have q' : x ≠ b := fun q' => by rw [q', cb.2] at e; cases e
  rw [C4 q']; exact z
 ·obtain ⟨o1, h1⟩ := (r.hq0 q hq).at1
  obtain ⟨o2, h2⟩ := (r.hq0 q hq).at2
  exact (r.hq q hq).wr (fun z => by rw [<- z, cb.2] at h1; cases h1) (fun z => by rw [<- z, cb.2] at h2; cases h2)
 ·refine ⟨a, as, e1, c, by rw [C4 nab]; exact eh, nd, ?_⟩
  have mv0 : ∀ x o, Z col x -> H x = some o -> Z col x /\ upd H b (.lst ws) x = some o := fun x o zz e => ⟨zz, up x o (by rw [show col x = 0 from zz]; lia) e⟩
  exact rs.put (A0k.mp nd).2 hb mv0 (t.mv mv0)
end
end My
namespace My
open PySem L2
theorem B6v {F : Addr -> Prop} {H : Hp} {as : List Addr} {dss : List (List PyData)} (t : Rws F F H as dss) : B0 F H (as.map V.ref) (lls dss) := by
 induction t with
 | nil => exact .nil
 | cons x e y _ ih => exact .cons (.lst x e y) ih
section
variable {X : Cx} {C : DC} {a b e : Expr} {pos : Pos}
theorem B8.freeze2 {col : Addr -> Nat} {ρ : List Sl} {σ : St} {P : List Pe} {H : Hp} {i : Nat} {dss : List (List PyData)} (r : B8 C col ρ σ P H) (e : ρ[i]? = some (.o2 dss)) :
  ∃ a, σ[i]? = some (some (.ref a)) /\ Rel C (ρ.set i (.sh (.list (lls dss)))) σ (.v (.ref a) (.list (lls dss)) :: P) H := by
 obtain ⟨a, as, e1, c, e2, nd, t⟩ := r.sl i _ e
 let col' : Addr -> Nat := fun b => if b ∈ a :: as then 0 else col b
 have ca : ∀ b, b ∈ a :: as -> col' b = 0 := fun b hb => if_pos hb
 have cn : ∀ b, b ∉ a :: as -> col' b = col b := fun b hb => if_neg hb
 have cc : ∀ b, b ∈ a :: as -> col b = 2 * i + 3 /\ C.H0 b = none := fun b hb => by
  rcases K1.mp hb with q | q
  ·rw [q]; exact c
  ·exact (t.mem q).1
 have ni : ∀ b, col b ≠ 2 * i + 3 -> b ∉ a :: as := fun b h q => h (cc b q).1
 have z0 : ∀ b o, Z col b -> H b = some o -> Z col' b /\ H b = some o := fun b o zz e => ⟨(cn b (ni b (by rw [show col b = 0 from zz]; lia))).trans zz, e⟩
 have T : ThV (Z col') H (.ref a) (.list (lls dss)) := .lst (ca a B4) e2 (B6v (t.mvm z0 fun b o hb _ e => ⟨ca b (A9 _ hb), e⟩))
 have R : B8 C col' (ρ.set i (.sh (.list (lls dss)))) σ P H := by
  refine B8.chg r i _ r.len (fun b hb => ?_) (fun b hb => ?_) (fun q hq => ?_) z0 (fun b o c _ e => ⟨?_, e⟩) (fun _ _ _ _ b o c e => ⟨?_, e⟩) (fun b o j hj c e => ⟨?_, e⟩) r.kq r.hq (fun _ _ => rfl) fun _ => ⟨_, e1, T⟩
  ·by_cases q : b ∈ a :: as
   ·exact ca b q
   ·rw [cn b q]; exact r.fresh b hb
  ·by_cases q : b ∈ a :: as
   ·exact r.nf.1 b (cc b q).2
   ·rw [cn b q] at hb; exact r.inF b hb
  ·have := r.hnd q hq
   rw [cn _ (ni _ (by lia))]; exact this
  ·rw [cn b (ni b (by lia))]; exact c
  ·rw [cn b (ni b (by lia))]; exact c
  ·rw [cn b (ni b (by lia))]; exact c
 exact ⟨a, L0 e1, col', R.push T⟩
def A1n (i : Nat)  (ρ : List Sl) (Q : PyData -> List Sl -> Prop) : Prop := match ρ[i]? with
 | some (.o2 dss) => Q (.list (lls dss)) (ρ.set i (.sh (.list (lls dss))))
 | _ => False
theorem C3p {i : Nat} (h : PE X e (N5 i)) : PE X e (eOf C (A1n i)) := PE.wk h fun σ H Q z => el3 z fun ρ P Qd R ht k => R.elim fun col r => by
 unfold A1n at ht
 split at ht
 ·rename_i dss e
  obtain ⟨a, e1, R⟩ := r.freeze2 e
  exact ⟨_, e1, k _ _ _ _ R ht⟩
 ·exact ht.elim
abbrev DP := List Sl -> Option PyData
def pOf (C : DC) (f : DP) : TE := fun σ H Q => ∃ ρ P col d, B8 C col ρ σ P H /\ f ρ = some d /\ ∀ v, ThV (Z col) H v d -> Q v H
def pC (d : PyData) : DP := fun _ => some d
def pV (i : Nat) : DP := fun ρ => match ρ[i]? with
 | some (.sh d) => some d
 | _ => none
def pIx (f g : DP) : DP := fun ρ => (f ρ).bind fun a => (g ρ).bind fun b => ixD a b
theorem A3i {i : Nat} (h : PE X e (N5 i)) : PE X e (pOf C (pV i)) := PE.wk h fun _ _ _ ⟨ρ, _, _, d, r, hf, k⟩ => by
 unfold pV at hf
 split at hf
 ·rename_i d' e
  cases hf
  obtain ⟨v, e1, t⟩ := r.sl i _ e
  exact ⟨v, L0 e1, k v t⟩
 ·cases hf
def A3j (i : Nat) (f g : DP)  (ρ : List Sl) (Q : PyData -> List Sl -> Prop) : Prop := bnd (slot2 ρ i) fun dss => match f ρ, g ρ with
 | some (.int k), some (.int m) => bnd (atI dss k) fun ds => bnd (atI ds m) fun d => Q d ρ
 | _, _ => False
theorem B6w {α β : Type} {f : α -> β} {xs : List α} {i : Int} {x : α} (h : atI xs i = some x) : atI (xs.map f) i = some (f x) := by
 unfold atI at h ⊢
 rw [E4]
 cases q : ixN xs.length i with
 | none => rw [q] at h; cases h
 | some j =>
  rw [q] at h
  have h' : xs[j]? = some x := h
  show (xs.map f)[j]? = some (f x)
  rw [N1, h']; rfl
theorem B6x {G F : Addr -> Prop} {H : Hp} {as : List Addr} {dss : List (List PyData)} {k : Int} {ds : List PyData} (t : Rws G F H as dss) (h : atI dss k = some ds) : ∃ j b vs, ixN dss.length k = some j /\ as[j]? = some b /\ atI as k = some b /\ dss[j]? = some ds /\ G b /\ H b = some (.lst vs) /\ B0 F H vs ds := by
 unfold atI at h
 cases q : ixN dss.length k with
 | none => rw [q] at h; cases h
 | some j =>
  rw [q] at h
  have h' : dss[j]? = some ds := h
  obtain ⟨b, vs, e1, g, e2, t2⟩ := t.at h'
  refine ⟨j, b, vs, rfl, e1, ?_, h', g, e2, t2⟩
  unfold atI
  rw [t.len, q]; exact e1
theorem B6y {i : Nat} {f g : DP} {x : Expr} {p2 : Pos} (hx : PE X x (N5 i)) (ha : PE X a (pOf C f)) (hb : PE X b (pOf C g)) (hs : A41 a) (hs2 : A41 b) : PE X (.Subscript (.Subscript x a pos) b p2) (eOf C (A3j i f g)) := PE.wk (M9 j7 (M9 j7 hx ha hs) hb hs2) fun σ H Q z => el3 z fun ρ P Qd R ht k => R.elim fun col r => by
 obtain ⟨dss, h2, ht⟩ := G9 ht
 split at ht
 ·rename_i k1 m1 hf hg
  obtain ⟨ds, hd, ht⟩ := G9 ht
  obtain ⟨d, hd2, q⟩ := G9 ht
  obtain ⟨a, as, e1, n, e2, t⟩ := r.slot2 h2
  obtain ⟨j, b, vs, hj, ej, ea, ed, g, eb, tv⟩ := B6x t hd
  obtain ⟨u, hu, tu⟩ := A8o tv hd2
  refine ⟨.ref a, e1, ρ, P, col, _, r, hf, fun v tv1 => ?_⟩
  cases tv1
  refine .inl ⟨a, _, k1, .ref b, rfl, rfl, SqL.of e2, B6w ea, ρ, P, col, _, r, hg, fun v tv2 => ?_⟩
  cases tv2
  exact .inl ⟨b, vs, m1, u, rfl, rfl, SqL.of eb, hu, k _ _ _ _ ⟨col, r.push tu⟩ q⟩
 ·exact ht.elim
end
end My
namespace My
open PySem L2
section
variable {X : Cx} {C : DC} {e : Expr}
end
end My
namespace My
open PySem L2
theorem B6z : ∀ P : List Pe, ∃ c : Nat, ∀ c', c <= c' -> ∀ as dss, Pe.o c' as dss ∉ P
 | [] => ⟨0, fun _ _ _ _ h => nomatch h⟩
 | x :: P => by
  obtain ⟨c, h⟩ := B6z P
  cases x with
  | o d as dss =>
   refine ⟨c + d + 1, fun c' hc as' dss' hm => ?_⟩
   rcases K1.mp hm with e | e
   ·injection e with e
    lia
   ·exact h c' (by lia) _ _ e
  | _ =>
   refine ⟨c, fun c' hc as' dss' hm => ?_⟩
   rcases K1.mp hm with e | e
   ·cases e
   ·exact h c' hc _ _ e
section
variable {X : Cx} {C : DC} {st : Stmt} {e : Expr} {te : DE} {pos : Pos} {u : DA}
def A3k (i : Nat) (te : DE) (f g : DP)  (D : L7) (ρ : List Sl) : Prop := te ρ fun d ρ1 => match ρ1[i]? with
 | some (.o2 dss) => match f ρ1, g ρ1 with
  | some (.int k), some (.int m) => bnd (ixN dss.length k) fun j => bnd (dss[j]?) fun ds => bnd (ixN ds.length m) fun n => D.nx (ρ1.set i (.o2 (dss.set j (ds.set n d))))
  | _, _ => False
 | _ => False
theorem C3q {i : Nat} {f g : DP} {K : A4} (hp : PS X st (A0r (eOf C te) (A9l (tOp (rIx K) (N5 i) (pOf C f)) (pOf C g) A9q))) : PS X st (sOf C (A3k i te f g)) := PS.wk hp fun D σ H z => el3 z fun ρ P Dd R ht E => ⟨ρ, P, _, R, ht, fun v d ρ1 H1 R1 q1 => R1.elim fun col1 r1 => by
 split at q1
 ·rename_i dss e0
  split at q1
  ·rename_i k m hf hg
   obtain ⟨j, hj, q1⟩ := G9 q1
   obtain ⟨ds, hd, q1⟩ := G9 q1
   obtain ⟨n, hn, q⟩ := G9 q1
   obtain ⟨a, as, e1, c, e2, nd, t⟩ := r1.sl i _ e0
   obtain ⟨b, vs, eb1, g1, eb2, tv⟩ := t.at hd
   have ea : atI (as.map V.ref) k = some (.ref b) := by
    unfold atI
    rw [E4, t.len, hj]
    show (as.map V.ref)[j]? = _
    rw [N1, eb1]; rfl
   refine ⟨.ref a, L0 e1, ρ1, _, col1, _, r1, hf, fun u tu => ?_⟩
   cases tu
   refine .inl ⟨a, _, k, .ref b, rfl, rfl, SqL.of e2, ea, ρ1, _, col1, _, r1, hg, fun u tu => ?_⟩
   cases tu
   exact ⟨b, vs, m, n, rfl, rfl, eb2, by rw [tv.len]; exact hn, E.nx _ _ _ ⟨col1, ((r1.write2 e0 e1 e2 eb1 (B0.set (r1.pd (.v v d) B4) n tv))).sub fun _ h => A9 _ h⟩ q⟩
  ·exact q1.elim
 ·exact q1.elim⟩
def A50 (i : Nat)  (D : L7) (ρ : List Sl) : Prop := match ρ[i]? with
 | some (.o2 dss) => D.ro (.o2 dss)
 | some (.ow ds) => D.ro (.ow ds)
 | some (.di false ks) => D.ro (.di false ks)
 | _ => False
def A51 (i : Nat) (ms : List Md) (sp : C28) (u : DA)  (D : L7) (ρ : List Sl) : Prop := u ρ fun as ρ' => bnd (Q9 ρ' ms as) fun ds => sp ds fun dss => D.nx (ρ'.set i (.o2 dss))
def A8r (tf : DF) (ρ : List Sl) (Q : List (List PyData) -> Prop) : List PyData -> List (List PyData) -> Prop
 | [], acc => Q acc
 | x :: r, acc => tf (ρ ++ [.sh x]) fun ds ρ' => ρ' = ρ ++ [.sh x] /\ A8r tf ρ Q r (acc ++ [ds])
def A3l (i j : Nat) (it : DF) (tf : DF)  (D : L7) (ρ : List Sl) : Prop := it ρ fun xs ρ1 => (ρ1.length = j /\ xs.length <= 1000) /\ A8r tf ρ1 (fun dss => D.nx (ρ1.set i (.o2 dss))) xs []
theorem B60 {i n j : Nat} {it tf : DF} (hn : n = j + 1) (hp : PS X st (fun D σ H => t7 (iOf C it) n j (fun _ => cOf C A29) (fun _ => fOf C tf) σ H fun v H1 => D.nx (σ.set i (some v)) H1)) : PS X st (sOf C (A3l i j it tf)) := PS.wk hp fun D σ H z => el3 z fun ρ P Dd R ht E => by
 refine ⟨ρ, P, _, R, ht, fun xs ρ1 P1 H1 J R1 s1 io q => ?_⟩
 obtain ⟨⟨hj, hx⟩, q⟩ := q
 obtain ⟨c, hc⟩ := B6z P1
 have lz : ∀ m, m <= 1000 -> m <= sizeLine := fun m hm => A0j (A16 hm)
 refine ⟨fun i' m ys H' => m = xs.length - i' /\ i' <= xs.length /\ ys.length <= i' /\ ∃ as acc, ys = as.map V.ref /\ Rel C ρ1 σ (.o c as acc :: P1) H' /\ A8r tf ρ1 (fun dss => Dd.nx (ρ1.set i (.o2 dss))) (xs.drop i') acc, ⟨xs.length, by simp, M8 _, F6 _, [], [], rfl, ?_, q⟩, ?_⟩
 ·obtain ⟨col, r⟩ := R1
  exact ⟨col, r.add (x := .o c [] []) ⟨B35, .nil⟩⟩
 rintro i' m ys H2 ⟨rfl, hi, hy, as, acc, rfl, R2, q2⟩
 refine ⟨lz _ (by lia), ?_⟩
 have sub2 : ∀ p ∈ P1, p ∈ Pe.o c as acc :: P1 := fun _ h => A9 _ h
 have hlen : ρ1.length = σ.length := by obtain ⟨col, r⟩ := R2; exact r.len
 by_cases hlt : i' < xs.length
 ·rw [A78 hlt] at q2
  refine .inr ⟨io.go sub2 R2 hlt, fun ys' H' => ys'.length <= i' + 1 /\ ∃ as acc, ys' = as.map V.ref /\ Rel C ρ1 σ (.o c as acc :: P1) H' /\ A8r tf ρ1 (fun dss => Dd.nx (ρ1.set i (.o2 dss))) (xs.drop (i' + 1)) acc, fun ys' H' hh => ⟨xs.length - (i' + 1), by lia, rfl, hlt, hh.1, hh.2⟩, fun x H3 y a => ?_⟩
  have R3 := (io.yld sub2 R2 (J5 hlt) y).ext
  rw [B6k (by rw [hn, <- hlen, hj]) (by rw [<- hlen, hj])]
  refine ⟨_, _, fun b ρ' => b = true /\ ρ' = ρ1 ++ [Sl.sh xs[i']], R3, ⟨rfl, rfl⟩, fun b ρ' H4 R4 q4 => ?_⟩
  obtain ⟨rfl, rfl⟩ := q4
  refine M2 ⟨_, _, _, R4, q2, fun p vs ds ρ'' H5 R5 hp q5 => ?_⟩
  obtain ⟨rfl, q5⟩ := q5
  obtain ⟨col, r, t⟩ := R5
  refine ⟨by rw [M7]; simp at hy ⊢; lia, as ++ [p], acc ++ [ds], by rw [d8]; rfl, ?_, q5⟩
  exact (r.unext hlen).hold t hp
 ·have e : i' = xs.length := by lia
  subst e
  rw [B04] at q2
  refine .inl ⟨io.stop sub2 R2, fun p hp => ?_⟩
  obtain ⟨col, r⟩ := R2
  obtain ⟨col', r'⟩ := r.own2 (i := i) (hc c (F6 _)) hp
  exact E.nx _ _ _ ⟨col', r'.sub s1⟩ q2
end
end My
namespace My
open PySem L2
section
variable {X : Cx} {C : DC} {e : Expr} {ta : DE}
end
end My
namespace My
abbrev Tb := List (Option Int)
abbrev Rn := List (Option Nat)
abbrev Wy := Nat × Nat × Int
def G6 (st lv c : Int) : Option Int := if lv + c < 0 then none else some (if st < lv + c then st else lv + c)
def gt {α : Type} (t : List (Option α)) (p : Nat) : Option α := (t[p]?).join
def K0 (st : Int) (t : Tb) (w : Wy) : Option Int := match gt t w.1 with
 | none => none
 | some l => G6 st l w.2.2
def K8 : Option Int -> Option Int -> Bool
 | none, _ => false
 | some _, none => true
 | some a, some b => decide (b < a)
def leO (a b : Option Int) : Prop := K8 a b = false
theorem O8 {a b : Int} : leO (some a) (some b) ↔ a <= b := by unfold leO K8; simp
theorem X0 {b : Option Int} : leO none b := rfl
theorem i7 {a : Int} : ¬ leO (some a) none := by unfold leO K8; simp
theorem b6 (a : Option Int) : leO a a := by
 cases a with
 | none => rfl
 | some x => exact O8.mpr (B06 x)
theorem Y4 {a b c : Option Int} (h1 : leO a b) (h2 : leO b c) : leO a c := by
 cases a with
 | none => rfl
 | some x =>
  cases b with
  | none => exact absurd h1 i7
  | some y =>
   cases c with
   | none => exact absurd h2 i7
   | some z => exact O8.mpr (Int.le_trans (O8.mp h1) (O8.mp h2))
theorem A97 {a b : Option Int} (h : K8 a b = true) : leO b a := by
 cases a with
 | none => cases h
 | some x => cases b with
  | none => rfl
  | some y => unfold K8 at h; exact O8.mpr (by have := of_decide_eq_true h; lia)
theorem B2u {a b : Option Int} (h : K8 a b = true) : ¬ leO a b := fun z => by unfold leO at z; rw [z] at h; cases h
theorem B2v {a b : Option Int} : K8 a b = true \/ leO a b := by
 cases e : K8 a b with
 | true => exact .inl rfl
 | false => exact .inr e
theorem B2w {st a b c : Int} (h : a <= b) : leO (G6 st a c) (G6 st b c) := by
 unfold G6
 by_cases h1 : a + c < 0
 ·rw [if_pos h1]; rfl
 ·have h2 : ¬ b + c < 0 := by lia
  rw [if_neg h1, if_neg h2]
  apply O8.mpr
  split <;> split <;> lia
theorem A52 {st l c x : Int} (h0 : 0 <= st) (h : G6 st l c = some x) : 0 <= x /\ x <= st := by
 unfold G6 at h
 split at h
 ·cases h
 ·have := Option.some.inj h
  subst this
  split <;> lia
def leT (t u : Tb) : Prop := ∀ p, leO (gt t p) (gt u p)
theorem B2x (t : Tb) : leT t t := fun _ => b6 _
theorem A98 {t u v : Tb} (a : leT t u) (b : leT u v) : leT t v := fun p => Y4 (a p) (b p)
theorem C3r {st : Int} {t u : Tb} {w : Wy} (h : leT t u) : leO (K0 st t w) (K0 st u w) := by
 have := h w.1
 unfold K0
 cases e : gt t w.1 with
 | none => rfl
 | some a =>
  rw [e] at this
  cases e2 : gt u w.1 with
  | none => rw [e2] at this; exact absurd this i7
  | some b => rw [e2] at this; exact B2w (O8.mp this)
theorem C3s {st : Int} {t : Tb} {w : Wy} {x : Int} (h0 : 0 <= st) (h : K0 st t w = some x) : 0 <= x /\ x <= st := by
 unfold K0 at h
 split at h
 ·cases h
 ·exact A52 h0 h
structure D1 (m : Nat) (st : Int) (t : Tb) : Prop where
 len : t.length = m
 bd : ∀ p x, gt t p = some x -> 0 <= x /\ x <= st
structure L1 (m : Nat) (ws : List Wy) : Prop where
 m1 : 1 <= m
 m2 : m <= 12
 few : ws.length <= 40
 st : ∀ w ∈ ws, w.1 < m
 en : ∀ w ∈ ws, w.2.1 < m
 lo : ∀ w ∈ ws, -1000000000000000000 <= w.2.2
 hi : ∀ w ∈ ws, w.2.2 <= 1000000000000000000
theorem w6 {α : Type} {t : List (Option α)} {p : Nat} (h : t.length <= p) : gt t p = none := by unfold gt; rw [U5 h]; rfl
theorem A3m {α : Type} {t : List (Option α)} {p : Nat} (h : p < t.length) : t[p]? = some (gt t p) := by unfold gt; rw [J5 h]; rfl
theorem i8 {α : Type} {t : List (Option α)} {i j : Nat} {x : Option α} (h : i < t.length) : gt (t.set i x) j = if i = j then x else gt t j := by
 unfold gt
 rw [Z2]
 by_cases e : i = j
 ·rw [if_pos e, if_pos h, if_pos e]; rfl
 ·rw [if_neg e, if_neg e]
theorem A3n {α : Type} {m p : Nat} : gt (D8 m (none : Option α)) p = none := by
 unfold gt
 rw [A86]
 split <;> rfl
theorem C3t {t u : Tb} (hl : t.length = u.length) (h : ∀ p, gt t p = gt u p) : t = u := by
 apply B33
 intro i
 by_cases hi : i < t.length
 ·rw [A3m hi, A3m (by lia), h i]
 ·rw [U5 (by lia), U5 (by lia)]
def A1o (st : Int) (t : Tb) (acc : Tb × Rn) (p : Wy × Nat) : Tb × Rn :=
 if K8 (K0 st t p.1) (gt acc.1 p.1.2.1) = true then (acc.1.set p.1.2.1 (K0 st t p.1), acc.2.set p.1.2.1 (some p.2)) else acc
def N9 (m : Nat) (ws : List Wy) (st : Int) (t s : Tb) : Tb × Rn := ws.zipIdx.foldl (A1o st t) (s, D8 m none)
structure A53 (m : Nat) (ws : List Wy) (st : Int) (t s : Tb) (L : List (Wy × Nat)) (acc : Tb × Rn) : Prop where
 l1 : acc.1.length = m
 l2 : acc.2.length = m
 up : leT s acc.1
 no : ∀ p, gt acc.2 p = none -> gt acc.1 p = gt s p
 yes : ∀ p n, gt acc.2 p = some n -> ∃ w, ws[n]? = some w /\ w.2.1 = p /\ gt acc.1 p = K0 st t w /\ K8 (K0 st t w) (gt s p) = true
 top : ∀ q ∈ L, leO (K0 st t q.1) (gt acc.1 q.1.2.1)
theorem C3u {m : Nat} {ws : List Wy} {st : Int} {t s : Tb} {L : List (Wy × Nat)} {acc : Tb × Rn} (ok : L1 m ws) (I : A53 m ws st t s L acc) {q : Wy × Nat} (hq : ws[q.2]? = some q.1) : A53 m ws st t s (L ++ [q]) (A1o st t acc q) := by
 have hw : q.1 ∈ ws := N3 hq
 have he : q.1.2.1 < m := ok.en _ hw
 unfold A1o
 by_cases c : K8 (K0 st t q.1) (gt acc.1 q.1.2.1) = true
 ·rw [if_pos c]
  have g1 : ∀ j, gt (acc.1.set q.1.2.1 (K0 st t q.1)) j = if q.1.2.1 = j then K0 st t q.1 else gt acc.1 j := fun j => i8 (by rw [I.l1]; exact he)
  have g2 : ∀ j, gt (acc.2.set q.1.2.1 (some q.2)) j = if q.1.2.1 = j then some q.2 else gt acc.2 j := fun j => i8 (by rw [I.l2]; exact he)
  have hup : ∀ j, leO (gt acc.1 j) (gt (acc.1.set q.1.2.1 (K0 st t q.1)) j) := fun j => by
   rw [g1]
   by_cases e : q.1.2.1 = j
   ·rw [if_pos e, <- e]; exact A97 c
   ·rw [if_neg e]; exact b6 _
  refine ⟨by rw [L9]; exact I.l1, by rw [L9]; exact I.l2, fun p => Y4 (I.up p) (hup p), fun p hp => ?_, fun p n hp => ?_, fun r hr => ?_⟩
  ·rw [g2] at hp
   by_cases e : q.1.2.1 = p
   ·rw [if_pos e] at hp; cases hp
   ·rw [if_neg e] at hp; rw [g1, if_neg e]; exact I.no p hp
  ·rw [g2] at hp
   by_cases e : q.1.2.1 = p
   ·rw [if_pos e] at hp
    cases hp
    refine ⟨q.1, hq, e, by rw [g1, if_pos e], ?_⟩
    rcases B2v (a := K0 st t q.1) (b := gt s p) with z | z
    ·exact z
    ·exact absurd (Y4 z (I.up p)) (B2u (e ▸ c))
   ·rw [if_neg e] at hp; rw [g1, if_neg e]; exact I.yes p n hp
  ·rcases X5.mp hr with hr | hr
   ·exact Y4 (I.top r hr) (hup _)
   ·have : r = q := by simpa using hr
    subst this
    rw [g1, if_pos rfl]; exact b6 _
 ·rw [if_neg c]
  refine ⟨I.l1, I.l2, I.up, I.no, I.yes, fun r hr => ?_⟩
  rcases X5.mp hr with hr | hr
  ·exact I.top r hr
  ·have : r = q := by simpa using hr
   subst this
   rcases B2v (a := K0 st t r.1) (b := gt acc.1 r.1.2.1) with z | z
   ·exact absurd z c
   ·exact z
theorem B61 {m : Nat} {ws : List Wy} {st : Int} {t s : Tb} (ok : L1 m ws) : ∀ (R L : List (Wy × Nat)) (acc : Tb × Rn), A53 m ws st t s L acc -> (∀ q ∈ R, ws[q.2]? = some q.1) -> A53 m ws st t s (L ++ R) (R.foldl (A1o st t) acc)
 | [], L, acc, I, _ => by rw [d5]; exact I
 | q :: R, L, acc, I, h => by
  have := B61 ok R (L ++ [q]) _ (C3u ok I (h q B4)) fun r hr => h r (A9 _ hr)
  rw [j4] at this
  exact this
theorem m9 {m : Nat} {ws : List Wy} {st : Int} {t s : Tb} (ok : L1 m ws) (hs : s.length = m) : A53 m ws st t s ws.zipIdx (N9 m ws st t s) := by
 have h0 : A53 m ws st t s [] (s, D8 m none) := ⟨hs, by rw [A11], B2x s, fun _ _ => rfl, fun p n h => (by rw [A3n] at h; cases h), fun q hq => (nomatch hq)⟩
 have := B61 ok ws.zipIdx [] _ h0 fun q hq => by
  obtain ⟨w, n⟩ := q
  rw [A88] at hq
  exact hq
 rw [M0] at this
 exact this
theorem B62 {m : Nat} {ws : List Wy} {st : Int} {t s : Tb} (ok : L1 m ws) (hs : s.length = m) {w : Wy} (hw : w ∈ ws) : leO (K0 st t w) (gt (N9 m ws st t s).1 w.2.1) := by
 obtain ⟨n, hn, e⟩ := p5.mp hw
 exact (m9 ok hs).top (w, n) (by rw [A88]; show ws[n]? = some w; rw [J5 hn, e])
theorem C3v {m : Nat} {ws : List Wy} {st : Int} {t s : Tb} (ok : L1 m ws) (h0 : 0 <= st) (hs : D1 m st s) : D1 m st (N9 m ws st t s).1 := by
 have I := m9 (st := st) (t := t) ok hs.len
 refine ⟨I.l1, fun p x h => ?_⟩
 cases e : gt (N9 m ws st t s).2 p with
 | none => rw [I.no p e] at h; exact hs.bd p x h
 | some n =>
  obtain ⟨w, _, _, e2, _⟩ := I.yes p n e
  rw [e2] at h
  exact C3s h0 h
def O9 (ws : List Wy) (st : Int) (t : Tb) : Prop := ∀ w ∈ ws, leO (K0 st t w) (gt t w.2.1)
theorem C3w {m : Nat} {ws : List Wy} {st : Int} {t s L : Tb} (ok : L1 m ws) (hs : s.length = m) (h1 : leT t L) (h2 : leT s L) (c : O9 ws st L) : leT (N9 m ws st t s).1 L := fun p => by
 have I := m9 (st := st) (t := t) ok hs
 cases e : gt (N9 m ws st t s).2 p with
 | none => rw [I.no p e]; exact h2 p
 | some n =>
  obtain ⟨w, hw, e1, e2, _⟩ := I.yes p n e
  rw [e2, <- e1]
  exact Y4 (C3r h1) (c w (N3 hw))
structure b7 (m : Nat) (ws : List Wy) (st : Int) (b t : Tb) : Prop where
 tab : D1 m st t
 up : leT b t
 cl : O9 ws st t
 le : ∀ L, D1 m st L -> leT b L -> O9 ws st L -> leT t L
abbrev Rw := Tb × Rn
def Q1 (m : Nat) (ws : List Wy) (st : Int) : Nat -> Rw -> List Rw
 | 0, r => [r]
 | k + 1, r => if (N9 m ws st r.1 r.1).1 = r.1 then [r] else r :: Q1 m ws st k (N9 m ws st r.1 r.1)
inductive Rows (m : Nat) (ws : List Wy) (st : Int) (b : Tb) : List Rw -> Prop
 | one : Rows m ws st b [(b, D8 m none)]
 | more {r rs} : Rows m ws st b (r :: rs) -> (N9 m ws st r.1 r.1).1 ≠ r.1 -> Rows m ws st b (N9 m ws st r.1 r.1 :: r :: rs)
theorem B63 {m : Nat} {ws : List Wy} {st : Int} {b : Tb} : ∀ (k : Nat) (r : Rw) (rs : List Rw), Rows m ws st b (r :: rs) -> ∃ r' rs', (rs.reverse ++ Q1 m ws st k r).reverse = r' :: rs' /\ Rows m ws st b (r' :: rs') /\ ((N9 m ws st r'.1 r'.1).1 = r'.1 \/ (r' :: rs').length = rs.length + k + 1)
 | 0, r, rs, h => ⟨r, rs, by simp [Q1], h, .inr (by simp)⟩
 | k + 1, r, rs, h => by
  unfold Q1
  by_cases c : (N9 m ws st r.1 r.1).1 = r.1
  ·rw [if_pos c]
   exact ⟨r, rs, by simp, h, .inl c⟩
  ·rw [if_neg c]
   obtain ⟨r', rs', e, h', z⟩ := B63 k _ (r :: rs) (.more h c)
   refine ⟨r', rs', ?_, h', ?_⟩
   ·rw [<- e]; simp
   ·rcases z with z | z
    ·exact .inl z
    ·refine .inr ?_
     rw [z, M1]; lia
section
variable {m : Nat} {ws : List Wy} {st : Int} {b : Tb}
theorem Rows.ok (ok : L1 m ws) (h0 : 0 <= st) (hb : D1 m st b) : ∀ {r : Rw} {rs : List Rw}, Rows m ws st b (r :: rs) -> D1 m st r.1 /\ r.2.length = m /\ leT b r.1
 | _, _, .one => ⟨hb, by simp, B2x b⟩
 | _, _, .more (r := r) h c => by
  obtain ⟨a1, _, a3⟩ := Rows.ok ok h0 hb h
  have I := m9 (st := st) (t := r.1) ok a1.len
  exact ⟨C3v ok h0 a1, I.l2, A98 a3 I.up⟩
theorem Rows.under (ok : L1 m ws) (hb : b.length = m) {L : Tb} (h1 : leT b L) (c : O9 ws st L) : ∀ {r : Rw} {rs : List Rw}, Rows m ws st b (r :: rs) -> r.1.length = m /\ leT r.1 L
 | _, _, .one => ⟨hb, h1⟩
 | _, _, .more (r := r) h _ => by
  obtain ⟨a1, a2⟩ := Rows.under ok hb h1 c h
  exact ⟨(m9 (st := st) (t := r.1) ok a1).l1, C3w ok a1 a2 a2 c⟩
theorem Rows.least (ok : L1 m ws) (h0 : 0 <= st) (hb : D1 m st b) {r : Rw} {rs : List Rw} (h : Rows m ws st b (r :: rs)) (c : (N9 m ws st r.1 r.1).1 = r.1) : b7 m ws st b r.1 := by
 obtain ⟨a1, _, a3⟩ := h.ok ok h0 hb
 refine ⟨a1, a3, fun w hw => ?_, fun L _ h1 cl => (h.under ok hb.len h1 cl).2⟩
 have := B62 (st := st) (t := r.1) (s := r.1) ok a1.len hw
 rw [c] at this
 exact this
end
end My
namespace My
abbrev Ef := Option (Int × Int × Int)
def EOk (st : Int) (e : Int × Int × Int) : Prop := 0 <= e.1 /\ e.1 <= st /\ 0 <= e.2.2 /\ e.2.2 <= st /\ 0 <= e.1 + e.2.1 /\ e.2.2 <= st + e.2.1
def L3 (e : Ef) (x : Int) : Option Int := match e with
 | none => none
 | some (l, g, t) => if x < l then none else some (if t < x + g then t else x + g)
def V8 (a b : Ef) : Ef := match a, b with
 | some (l1, g1, t1), some (l2, g2, t2) => if t1 < l2 then none else some (if l2 - g1 > l1 then l2 - g1 else l1, g1 + g2, if t2 < t1 + g2 then t2 else t1 + g2)
 | _, _ => none
theorem A54 {a b : Int × Int × Int} (h : ¬ a.2.2 < b.1) : V8 (some a) (some b) = some (if b.1 - a.2.1 > a.1 then b.1 - a.2.1 else a.1, a.2.1 + b.2.1, if b.2.2 < a.2.2 + b.2.1 then b.2.2 else a.2.2 + b.2.1) := by
 obtain ⟨l1, g1, t1⟩ := a
 obtain ⟨l2, g2, t2⟩ := b
 unfold V8
 simp only at h
 simp only [if_neg h]
theorem A8s {a b : Int × Int × Int} (h : a.2.2 < b.1) : V8 (some a) (some b) = none := by
 obtain ⟨l1, g1, t1⟩ := a
 obtain ⟨l2, g2, t2⟩ := b
 unfold V8
 simp only at h
 simp only [if_pos h]
theorem C3x {st : Int} {a b r : Int × Int × Int} (ha : EOk st a) (hb : EOk st b) (h : V8 (some a) (some b) = some r) : EOk st r := by
 by_cases c : a.2.2 < b.1
 ·rw [A8s c] at h; cases h
 ·rw [A54 c] at h
  cases h
  obtain ⟨l1, g1, t1⟩ := a
  obtain ⟨l2, g2, t2⟩ := b
  obtain ⟨h1, h2, h3, h4, h5, h6⟩ := ha
  obtain ⟨i1, i2, i3, i4, i5, i6⟩ := hb
  simp only at h1 h2 h3 h4 h5 h6 i1 i2 i3 i4 i5 i6 c
  refine ⟨?_, ?_, ?_, ?_, ?_, ?_⟩ <;> dsimp only <;> (repeat' split) <;> lia
theorem C3y {a b r : Int × Int × Int} (h : V8 (some a) (some b) = some r) (x : Int) : L3 (some r) x = (L3 (some a) x).bind (L3 (some b)) := by
 by_cases c : a.2.2 < b.1
 ·rw [A8s c] at h; cases h
 ·rw [A54 c] at h
  cases h
  obtain ⟨l1, g1, t1⟩ := a
  obtain ⟨l2, g2, t2⟩ := b
  simp only at c
  unfold L3
  dsimp only
  by_cases c1 : x < l1
  ·rw [if_pos c1, if_pos (by split <;> lia)]
   rfl
  ·rw [if_neg c1]
   show _ = (if (if t1 < x + g1 then t1 else x + g1) < l2 then none else some (if t2 < (if t1 < x + g1 then t1 else x + g1) + g2 then t2 else (if t1 < x + g1 then t1 else x + g1) + g2))
   obtain ⟨y, ey, y1, y2, y3⟩ : ∃ y, (if t1 < x + g1 then t1 else x + g1) = y /\ y <= t1 /\ y <= x + g1 /\ (y = t1 \/ y = x + g1) := ⟨_, rfl, by split <;> lia, by split <;> lia, by split <;> lia⟩
   obtain ⟨m, em, m1, m2, m3⟩ : ∃ m, (if l2 - g1 > l1 then l2 - g1 else l1) = m /\ l1 <= m /\ l2 - g1 <= m /\ (m = l1 \/ m = l2 - g1) := ⟨_, rfl, by split <;> lia, by split <;> lia, by split <;> lia⟩
   obtain ⟨n, en, n1, n2, n3⟩ : ∃ n, (if t2 < t1 + g2 then t2 else t1 + g2) = n /\ n <= t2 /\ n <= t1 + g2 /\ (n = t2 \/ n = t1 + g2) := ⟨_, rfl, by split <;> lia, by split <;> lia, by split <;> lia⟩
   rw [ey, em, en]
   by_cases c2 : x < m
   ·rw [if_pos c2, if_pos (show y < l2 by lia)]
   ·rw [if_neg c2, if_neg (show ¬ y < l2 by lia)]
    congr 1
    split <;> split <;> lia
def OkE (st : Int) : Ef -> Prop
 | none => True
 | some e => EOk st e
theorem OkE.join {st : Int} {a b : Ef} (ha : OkE st a) (hb : OkE st b) : OkE st (V8 a b) := by
 rcases a with _ | a
 ·exact trivial
 ·rcases b with _ | b
  ·exact trivial
  ·cases q : V8 (some a) (some b) with
   | none => exact trivial
   | some r => exact C3x ha hb q
theorem C3z {st : Int} (h : 0 <= st) : EOk st (0, 0, st) := ⟨B06 _, h, h, B06 _, by simp, by simp⟩
def b8 (st c : Int) : Ef := if st + c < 0 then none else some (if -c > 0 then -c else 0, c, if st + c < st then st + c else st)
def foF (st : Int) (w : Ef) (cs : List Int) : Ef := cs.foldl (fun w c => V8 w (b8 st c)) w
def fxF (st : Int) (cs : List Int) : Ef := foF st (some (0, 0, st)) cs
theorem C30 {st : Int} (h : 0 <= st) (c : Int) : OkE st (b8 st c) := by
 unfold b8
 split
 ·exact trivial
 ·refine ⟨?_, ?_, ?_, ?_, ?_, ?_⟩ <;> dsimp only <;> (repeat' split) <;> lia
theorem B64 {st : Int} (h : 0 <= st) : ∀ (cs : List Int) {w : Ef}, OkE st w -> OkE st (foF st w cs)
 | [], _, hw => hw
 | c :: cs, w, hw => B64 h cs (hw.join (C30 h c))
theorem C31 {st : Int} (h : 0 <= st) (cs : List Int) : OkE st (fxF st cs) := B64 h cs (C3z h)
theorem C32 (a b : Ef) (x : Int) : L3 (V8 a b) x = (L3 a x).bind (L3 b) := by
 rcases a with _ | a
 ·rfl
 ·rcases b with _ | b
  ·show none = (L3 (some a) x).bind (L3 none)
   cases L3 (some a) x <;> rfl
  ·by_cases c : a.2.2 < b.1
   ·rw [A8s c]
    obtain ⟨l1, g1, t1⟩ := a
    obtain ⟨l2, g2, t2⟩ := b
    simp only at c
    show none = _
    unfold L3
    dsimp only
    by_cases c1 : x < l1
    ·rw [if_pos c1]; rfl
    ·rw [if_neg c1]
     show none = if (if t1 < x + g1 then t1 else x + g1) < l2 then none else _
     rw [if_pos (by split <;> lia)]
   ·exact C3y (A54 c) x |>.symm ▸ (by rw [A54 c])
def wkF (st : Int) (o : Option Int) (cs : List Int) : Option Int := cs.foldl (fun o c => o.bind (fun x => G6 st x c)) o
theorem A99 (st : Int) : ∀ cs : List Int, wkF st none cs = none
 | [] => rfl
 | _ :: cs => A99 st cs
theorem C33 {st x c : Int} (h0 : 0 <= x) (h1 : x <= st) : L3 (b8 st c) x = G6 st x c := by
 unfold b8 G6
 by_cases d : st + c < 0
 ·rw [if_pos d, if_pos (by lia)]
  rfl
 ·rw [if_neg d]
  unfold L3
  dsimp only
  by_cases e : x + c < 0
  ·rw [if_pos e, if_pos (by split <;> lia)]
  ·rw [if_neg e, if_neg (by split <;> lia)]
   congr 1
   split <;> split <;> (try split) <;> lia
theorem B65 {st : Int} (h : 0 <= st) (x : Int) : ∀ (cs : List Int) (w : Ef), (∀ y, L3 w x = some y -> 0 <= y /\ y <= st) -> L3 (foF st w cs) x = wkF st (L3 w x) cs
 | [], _, _ => rfl
 | c :: cs, w, hw => by
  have e : L3 (V8 w (b8 st c)) x = (L3 w x).bind (fun y => G6 st y c) := by
   rw [C32]
   cases q : L3 w x with
   | none => rfl
   | some y => exact C33 (hw y q).1 (hw y q).2
  show L3 (foF st (V8 w (b8 st c)) cs) x = wkF st ((L3 w x).bind (fun y => G6 st y c)) cs
  rw [B65 h x cs _ ?_, e]
  intro y q
  rw [e] at q
  cases q2 : L3 w x with
  | none => rw [q2] at q; cases q
  | some z => rw [q2] at q; exact A52 h q
theorem B66 {st x : Int} (h0 : 0 <= x) (h1 : x <= st) : L3 (some (0, 0, st)) x = some x := by
 unfold L3
 dsimp only
 rw [if_neg (by lia)]
 congr 1
 split <;> lia
theorem B2y {st x : Int} (h0 : 0 <= x) (h1 : x <= st) (cs : List Int) : L3 (fxF st cs) x = wkF st (some x) cs := by
 unfold fxF
 rw [B65 (by lia) x cs _ ?_, B66 h0 h1]
 intro y q
 rw [B66 h0 h1] at q
 cases q
 exact ⟨h0, h1⟩
theorem B67 {st : Int} : ∀ (cs : List Int) {w : Int × Int × Int} {r : Int × Int × Int}, foF st (some w) cs = some r -> r.2.1 = w.2.1 + cs.sum
 | [], w, r, q => by
  have q' : some w = some r := q
  cases q'
  simp
 | c :: cs, w, r, q => by
  have q' : foF st (V8 (some w) (b8 st c)) cs = some r := q
  cases q2 : V8 (some w) (b8 st c) with
  | none =>
   rw [q2] at q'
   have : ∀ cs : List Int, foF st none cs = none := by
    intro cs
    induction cs with
    | nil => rfl
    | cons c cs ih => exact ih
   rw [this] at q'
   cases q'
  | some a =>
   rw [q2] at q'
   rw [B67 cs q']
   have ga : a.2.1 = w.2.1 + c := by
    unfold b8 at q2
    split at q2
    ·cases q2
    ·by_cases d : w.2.2 < (if -c > 0 then -c else 0)
     ·rw [A8s (by exact d)] at q2; cases q2
     ·rw [A54 (by exact d)] at q2; cases q2; rfl
   rw [ga, A4q]
   lia
theorem C34 {st : Int} {cs : List Int} {r : Int × Int × Int} (q : fxF st cs = some r) : r.2.1 = cs.sum := by
 rw [B67 cs q]
 show 0 + cs.sum = cs.sum
 lia
end My
namespace My
def V2 (ws : List Wy) (n : Nat) : Nat := match ws[n]? with
 | some w => w.1
 | none => 0
def y4 (ws : List Wy) (n : Nat) : Nat := match ws[n]? with
 | some w => w.2.1
 | none => 0
def b9 (ws : List Wy) (n : Nat) : Int := match ws[n]? with
 | some w => w.2.2
 | none => 0
def wlk (ws : List Wy) : List Rw -> Nat -> Nat × List Nat
 | [], p => (p, [])
 | r :: rs, p => match gt r.2 p with
  | none => wlk ws rs p
  | some n => ((wlk ws rs (V2 ws n)).1, (wlk ws rs (V2 ws n)).2 ++ [n])
structure Wk (ws : List Wy) (st : Int) (b : Tb) (N : List Nat) (P : Nat -> Nat) (L : Nat -> Int) : Prop where
 way : ∀ k n, N[k]? = some n -> ∃ w, ws[n]? = some w /\ w.1 = P k /\ w.2.1 = P (k + 1) /\ G6 st (L k) w.2.2 = some (L (k + 1))
 beg : gt b (P 0) = some (L 0)
 rise : ∀ k, 1 <= k -> k <= N.length -> K8 (some (L k)) (gt b (P k)) = true
 strict : ∀ i j, i < j -> j <= N.length -> P i = P j -> L i < L j
theorem C35 {a b c : Option Int} (h : K8 a c = true) (z : leO b c) : K8 a b = true := by
 rcases B2v (a := a) (b := b) with q | q
 ·exact q
 ·exact absurd (Y4 q z) (B2u h)
section
variable {m : Nat} {ws : List Wy} {st : Int} {b : Tb}
theorem B68 (ok : L1 m ws) (h0 : 0 <= st) (hb : D1 m st b) : ∀ {r : Rw} {rs : List Rw}, Rows m ws st b (r :: rs) -> ∀ p, ((rs = [] /\ ∃ l, gt b p = some l) \/ (∃ n, gt r.2 p = some n)) ->
  ∃ N P L, wlk ws (r :: rs) p = (P 0, N) /\ N.length = rs.length /\ P N.length = p /\ gt r.1 p = some (L N.length) /\ Wk ws st b N P L /\ ∀ k, k <= N.length -> leO (some (L k)) (gt r.1 (P k))
 | _, _, .one, p, h => by
  rcases h with ⟨_, l, hl⟩ | ⟨n, hn⟩
  ·refine ⟨[], fun _ => p, fun _ => l, ?_, rfl, rfl, hl, ⟨fun k n e => by simp at e, hl, fun k h1 h2 => ?_, fun i j h1 h2 => ?_⟩, fun k _ => by show leO (some l) (gt b p); rw [hl]; exact b6 _⟩
   ·unfold wlk
    rw [A3n]
    rfl
   ·simp at h2; lia
   ·simp at h2; lia
  ·rw [A3n] at hn; cases hn
 | _, _, .more (r := r) (rs := rs) h c, p, hp => by
  obtain ⟨a1, _, a3⟩ := h.ok ok h0 hb
  have I := m9 (st := st) (t := r.1) ok a1.len
  have hp' : ∃ n, gt (N9 m ws st r.1 r.1).2 p = some n := by
   rcases hp with ⟨z, _⟩ | z
   ·cases z
   ·exact z
  obtain ⟨n, hn⟩ := hp'
  obtain ⟨w, hw, e1, e2, e3⟩ := I.yes p n hn
  obtain ⟨l, hl⟩ : ∃ l, K0 st r.1 w = some l := by
   cases q : K0 st r.1 w with
   | none => rw [q] at e3; cases e3
   | some l => exact ⟨l, rfl⟩
  obtain ⟨l', hl', hs⟩ : ∃ l', gt r.1 w.1 = some l' /\ G6 st l' w.2.2 = some l := by
   have hl2 := hl
   unfold K0 at hl2
   split at hl2
   ·cases hl2
   ·rename_i l' e; exact ⟨l', e, hl2⟩
  rw [hl] at e2 e3
  have hq : (rs = [] /\ ∃ l, gt b w.1 = some l) \/ (∃ n, gt r.2 w.1 = some n) := by
   cases h with
   | one => exact .inl ⟨rfl, l', hl'⟩
   | @more r0 rs0 h' c' =>
    obtain ⟨b1, _, _⟩ := h'.ok ok h0 hb
    have I0 := m9 (st := st) (t := r0.1) ok b1.len
    cases e : gt (N9 m ws st r0.1 r0.1).2 w.1 with
    | some n' => exact .inr ⟨n', rfl⟩
    | none =>
     have e4 := I0.no w.1 e
     have e5 : K0 st r0.1 w = some l := by
      unfold K0
      rw [<- e4, hl']
      exact hs
     have := B62 (st := st) (t := r0.1) (s := r0.1) ok b1.len (N3 hw)
     rw [e5, e1] at this
     exact absurd this (B2u e3)
  obtain ⟨N, P, L, f1, f2, f3, f4, W, f6⟩ := B68 ok h0 hb h w.1 hq
  have eL : L N.length = l' := by rw [hl'] at f4; exact (Option.some.inj f4).symm
  let P' : Nat -> Nat := fun k => if k <= N.length then P k else p
  let L' : Nat -> Int := fun k => if k <= N.length then L k else l
  have p1 : ∀ k, k <= N.length -> P' k = P k := fun k hk => if_pos hk
  have p2 : ∀ k, ¬ k <= N.length -> P' k = p := fun k hk => if_neg hk
  have l1 : ∀ k, k <= N.length -> L' k = L k := fun k hk => if_pos hk
  have l2 : ∀ k, ¬ k <= N.length -> L' k = l := fun k hk => if_neg hk
  have hlen : (N ++ [n]).length = N.length + 1 := by simp
  refine ⟨N ++ [n], P', L', ?_, by rw [hlen, f2]; rfl, by rw [hlen]; exact p2 _ (by lia), by rw [hlen, l2 _ (by lia)]; exact e2, ⟨fun k n' e => ?_, by rw [p1 0 (M8 _), l1 0 (M8 _)]; exact W.beg, fun k k1 k2 => ?_, fun i j hij hj hp => ?_⟩, fun k hk => ?_⟩
  ·show (match gt (N9 m ws st r.1 r.1).2 p with
    | none => wlk ws (r :: rs) p
    | some n => ((wlk ws (r :: rs) (V2 ws n)).1, (wlk ws (r :: rs) (V2 ws n)).2 ++ [n])) = _
   rw [hn]
   have : V2 ws n = w.1 := by unfold V2; rw [hw]
   show ((wlk ws (r :: rs) (V2 ws n)).1, (wlk ws (r :: rs) (V2 ws n)).2 ++ [n]) = _
   rw [this, f1, p1 0 (M8 _)]
  ·by_cases hk : k < N.length
   ·rw [d6 hk] at e
    rw [p1 k (by lia), p1 (k + 1) (by lia), l1 k (by lia), l1 (k + 1) (by lia)]
    exact W.way k n' e
   ·rw [Z0 (by lia)] at e
    have hk' : k = N.length := by
     match q : k - N.length with
     | 0 => lia
     | z + 1 => rw [q] at e; simp at e
    subst hk'
    rw [Nat.sub_self] at e
    cases e
    refine ⟨w, hw, ?_, ?_, ?_⟩
    ·rw [p1 _ (F6 _), f3]
    ·rw [p2 _ (by lia), e1]
    ·rw [l1 _ (F6 _), l2 _ (by lia), eL]; exact hs
  ·by_cases hk : k <= N.length
   ·rw [p1 k hk, l1 k hk]; exact W.rise k k1 hk
   ·rw [p2 k hk, l2 k hk]; exact C35 e3 (a3 p)
  ·by_cases hk : j <= N.length
   ·rw [l1 i (by lia), l1 j hk]
    rw [p1 i (by lia), p1 j hk] at hp
    exact W.strict i j hij hk hp
   ·rw [hlen] at hj
    rw [p1 i (by lia), p2 j hk] at hp
    rw [l1 i (by lia), l2 j hk]
    have z := f6 i (by lia)
    rw [hp] at z
    cases q : gt r.1 p with
    | none => rw [q] at z; exact absurd z i7
    | some y =>
     rw [q] at z e3
     have z1 := O8.mp z
     have z2 : y < l := of_decide_eq_true e3
     lia
  ·by_cases hk' : k <= N.length
   ·rw [p1 k hk', l1 k hk']; exact Y4 (f6 k hk') (I.up _)
   ·rw [p2 k hk', l2 k hk', e2]; exact b6 _
end
def seg (N : List Nat) (i j : Nat) : List Nat := (N.drop i).take (j - i)
def chs (ws : List Wy) (ns : List Nat) : List Int := ns.map (b9 ws)
theorem A55 (N : List Nat) (i : Nat) : seg N i i = [] := by unfold seg; rw [Nat.sub_self]; rfl
theorem B2z {N : List Nat} {i j : Nat} (h : i <= j) (h2 : j < N.length) : seg N i (j + 1) = seg N i j ++ [N[j]] := by
 unfold seg
 have e : j + 1 - i = j - i + 1 := by lia
 rw [e, List.take_add_one, List.getElem?_drop, show i + (j - i) = j by lia, J5 h2]
 rfl
theorem B0a {N : List Nat} {i j : Nat} (h : j <= N.length) : (seg N i j).length = j - i := by
 unfold seg
 rw [A10, B3x]
 lia
theorem B69 (st : Int) (o : Option Int) (xs ys : List Int) : wkF st o (xs ++ ys) = wkF st (wkF st o xs) ys := by unfold wkF; rw [List.foldl_append]
section
variable {ws : List Wy} {st : Int} {b : Tb} {N : List Nat} {P : Nat -> Nat} {L : Nat -> Int}
theorem Wk.ch (W : Wk ws st b N P L) {k : Nat} (h : k < N.length) : G6 st (L k) (b9 ws N[k]) = some (L (k + 1)) := by
 obtain ⟨w, hw, _, _, e⟩ := W.way k N[k] (J5 h)
 unfold b9
 rw [hw]
 exact e
theorem Wk.seg (W : Wk ws st b N P L) {i : Nat} : ∀ {j : Nat}, i <= j -> j <= N.length -> wkF st (some (L i)) (chs ws (My.seg N i j)) = some (L j)
 | 0, h1, _ => by
  have : i = 0 := by lia
  subst this
  rw [A55]; rfl
 | j + 1, h1, h2 => by
  by_cases e : i = j + 1
  ·subst e
   rw [A55]; rfl
  ·rw [B2z (by lia) (by lia)]
   unfold chs
   rw [d8, B69]
   have := W.seg (i := i) (j := j) (by lia) (by lia)
   unfold chs at this
   rw [this]
   exact W.ch (by lia)
theorem Wk.bd (W : Wk ws st b N P L) (h0 : 0 <= st) {m : Nat} (hb : D1 m st b) : ∀ k, k <= N.length -> 0 <= L k /\ L k <= st
 | 0, _ => hb.bd _ _ W.beg
 | k + 1, h => A52 h0 (W.ch (k := k) (by lia))
theorem Wk.pl (W : Wk ws st b N P L) {m : Nat} (ok : L1 m ws) (hb : D1 m st b) : ∀ k, k <= N.length -> P k < m
 | 0, _ => by
  by_cases h : P 0 < m
  ·exact h
  ·have := W.beg
   rw [w6 (by rw [hb.len]; lia)] at this
   cases this
 | k + 1, h => by
  obtain ⟨w, hw, _, e, _⟩ := W.way k N[k] (J5 (by lia))
  rw [<- e]
  exact ok.en w (N3 hw)
theorem Wk.lid (W : Wk ws st b N P L) {T : Tb} (c : O9 ws st T) {i : Nat} {x : Int} (hx : leO (some x) (gt T (P i))) : ∀ {j : Nat} {y : Int}, i <= j -> j <= N.length -> wkF st (some x) (chs ws (My.seg N i j)) = some y -> leO (some y) (gt T (P j))
 | 0, y, h1, _, e => by
  have : i = 0 := by lia
  subst this
  rw [A55] at e
  cases e
  exact hx
 | j + 1, y, h1, h2, e => by
  by_cases q : i = j + 1
  ·subst q
   rw [A55] at e
   cases e
   exact hx
  ·rw [B2z (by lia) (by lia)] at e
   unfold chs at e
   rw [d8, B69] at e
   obtain ⟨w, hw, e1, e2, _⟩ := W.way j N[j] (J5 (by lia))
   cases z : wkF st (some x) ((My.seg N i j).map (b9 ws)) with
   | none => rw [z] at e; cases e
   | some v =>
    rw [z] at e
    have e' : G6 st v (b9 ws N[j]) = some y := e
    have ih := W.lid c hx (j := j) (y := v) (by lia) (by lia) z
    have hc : b9 ws N[j] = w.2.2 := by unfold b9; rw [hw]
    cases g : gt T (P j) with
    | none => rw [g] at ih; exact absurd ih i7
    | some u =>
     rw [g] at ih
     have s1 := B2w (st := st) (c := w.2.2) (O8.mp ih)
     rw [<- hc, e', hc] at s1
     have s2 := c w (N3 hw)
     unfold K0 at s2
     rw [e1, g, e2] at s2
     exact Y4 s1 s2
end
def M6 (st lv : Int) : List Int -> List Int
 | [] => [lv]
 | c :: cs => match G6 st lv c with
  | none => [lv]
  | some x => lv :: M6 st x cs
theorem C36 {st lv c : Int} {cs : List Int} (h : G6 st lv c = none) : M6 st lv (c :: cs) = [lv] := by rw [M6, h]
theorem C37 {st lv c x : Int} {cs : List Int} (h : G6 st lv c = some x) : M6 st lv (c :: cs) = lv :: M6 st x cs := by rw [M6, h]
theorem B20 {st : Int} : ∀ {cs : List Int} {x y : Int}, wkF st (some x) cs = some y -> ∀ k, k <= cs.length -> ∃ z, (M6 st x cs)[k]? = some z /\ wkF st (some x) (cs.take k) = some z
 | [], x, y, _, k, hk => by
  have : k = 0 := by simpa using hk
  subst this
  exact ⟨x, rfl, rfl⟩
 | c :: cs, x, y, h, k, hk => by
  cases e : G6 st x c with
  | none =>
   have h' : wkF st (G6 st x c) cs = some y := h
   rw [e, A99] at h'
   cases h'
  | some x1 =>
   have h' : wkF st (G6 st x c) cs = some y := h
   rw [e] at h'
   unfold M6
   rw [e]
   cases k with
   | zero => exact ⟨x, rfl, rfl⟩
   | succ k =>
    obtain ⟨z, z1, z2⟩ := B20 h' k (by simpa using hk)
    refine ⟨z, z1, ?_⟩
    show wkF st (G6 st x c) (cs.take k) = some z
    rw [e]; exact z2
theorem B21 {st : Int} : ∀ {cs : List Int} {x y : Int}, wkF st (some x) cs = some y -> (M6 st x cs).length = cs.length + 1
 | [], _, _, _ => rfl
 | c :: cs, x, y, h => by
  have h' : wkF st (G6 st x c) cs = some y := h
  cases e : G6 st x c with
  | none => rw [e, A99] at h'; cases h'
  | some x1 =>
   rw [e] at h'
   unfold M6
   rw [e, M1, M1, B21 h']
theorem B7a {st : Int} : ∀ {cs : List Int} {x y : Int}, wkF st (some x) cs = some y -> y = x + cs.sum \/ st ∈ M6 st x cs
 | [], x, y, h => by
  cases h
  exact .inl (by simp)
 | c :: cs, x, y, h => by
  have h' : wkF st (G6 st x c) cs = some y := h
  cases e : G6 st x c with
  | none => rw [e, A99] at h'; cases h'
  | some x1 =>
   rw [e] at h'
   have hd : (M6 st x1 cs).head? = some x1 := by
    cases cs with
    | nil => rfl
    | cons d ds =>
     unfold M6
     cases G6 st x1 d <;> rfl
   by_cases q : x1 = st
   ·refine .inr ?_
    unfold M6
    rw [e]
    refine A9 _ ?_
    have hm := List.mem_of_head? hd
    have e3 : (st ∈ M6 st x1 cs) = (x1 ∈ M6 st x1 cs) := congrArg (· ∈ M6 st x1 cs) q.symm
    rw [e3]
    exact hm
   ·have e1 : x1 = x + c := by
     unfold G6 at e
     split at e
     ·cases e
     ·have e2 := Option.some.inj e
      split at e2
      ·exact absurd e2.symm q
      ·exact e2.symm
    rcases B7a h' with z | z
    ·refine .inl ?_
     rw [z, e1, A4q]; lia
    ·refine .inr ?_
     unfold M6
     rw [e]
     exact A9 _ z
structure Rnd (st : Int) (cs : List Int) (x : Int) (le g tp : Int) (k : Nat) : Prop where
 fx : fxF st cs = some (le, g, tp)
 g0 : 0 < g
 gs : g = cs.sum
 xt : x < tp
 tst : tp <= st
 kl : k <= cs.length
 ki : (M6 st tp cs).idxOf st = k
 km : st ∈ M6 st tp cs
 kw : wkF st (some tp) (cs.take k) = some st
 ll : (M6 st tp cs).length = cs.length + 1
theorem C38 {st : Int} {cs : List Int} {x y : Int} (h0 : 0 <= x) (h1 : x <= st) (w : wkF st (some x) cs = some y) (hy : x < y) : ∃ le g tp k, Rnd st cs x le g tp k /\ le <= x := by
 have hp := B2y h0 h1 cs
 rw [w] at hp
 have hok := C31 (by lia) cs (st := st)
 cases e : fxF st cs with
 | none => rw [e] at hp; cases hp
 | some r =>
  obtain ⟨le, g, tp⟩ := r
  rw [e] at hp hok
  have gs := C34 e
  obtain ⟨o1, o2, o3, o4, o5, o6⟩ := hok
  simp only at o1 o2 o3 o4 o5 o6 gs
  unfold L3 at hp
  dsimp only at hp
  split at hp
  ·cases hp
  ·rename_i hle
   have hy2 := Option.some.inj hp
   have g0 : 0 < g := by split at hy2 <;> lia
   have xt : x < tp := by split at hy2 <;> lia
   have wt := B2y (st := st) (x := tp) o3 o4 cs
   rw [e] at wt
   unfold L3 at wt
   dsimp only at wt
   rw [if_neg (by lia), if_pos (by lia)] at wt
   have km : st ∈ M6 st tp cs := by
    rcases B7a wt.symm with z | z
    ·lia
    ·exact z
   have hlt := B03.mpr km
   have ll := B21 wt.symm
   rw [ll] at hlt
   obtain ⟨z, z1, z2⟩ := B20 wt.symm ((M6 st tp cs).idxOf st) (by lia)
   have ez : z = st := by
    have hl2 := B03.mpr km
    rw [J5 hl2, B9m hl2] at z1
    exact (Option.some.inj z1).symm
   subst ez
   exact ⟨le, g, tp, _, ⟨e, g0, gs, xt, o4, by lia, rfl, km, z2, ll⟩, by lia⟩
section
variable {m : Nat} {ws : List Wy} {st : Int} {b : Tb} {N : List Nat} {P : Nat -> Nat} {L : Nat -> Int}
theorem B7b {N : List Nat} {i j k : Nat} (h : k <= j - i) : (seg N i j).take k = seg N i (i + k) := by
 unfold seg
 rw [List.take_take, show min k (j - i) = k by lia, show i + k - i = k by lia]
theorem C39 (W : Wk ws st b N P L) {i j : Nat} (hij : i < j) (hj : j <= N.length) (hp : P i = P j) {le g tp : Int} {k : Nat} (hle : le <= L i) (R : Rnd st (chs ws (seg N i j)) (L i) le g tp k) {T : Tb} (hT : D1 m st T) (hb : leT b T) (c : O9 ws st T) :
  leO (some st) (gt T (P (i + k))) := by
 have kl : k <= j - i := by
  have := R.kl
  unfold chs at this
  rw [E4, B0a hj] at this
  exact this
 have h0 : leO (some (L 0)) (gt T (P 0)) := by rw [<- W.beg]; exact hb _
 have hi := W.lid c h0 (j := i) (M8 _) (by lia) (W.seg (M8 _) (by lia))
 cases q : gt T (P i) with
 | none => rw [q] at hi; exact absurd hi i7
 | some z =>
  rw [q] at hi
  have hz := O8.mp hi
  obtain ⟨z0, z1⟩ := hT.bd _ _ q
  have wz := B2y z0 z1 (chs ws (seg N i j))
  rw [R.fx] at wz
  unfold L3 at wz
  dsimp only at wz
  rw [if_neg (by lia)] at wz
  have hr := W.lid c (x := z) (by rw [q]; exact b6 _) (j := j) (by lia) hj wz.symm
  rw [<- hp, q] at hr
  have hr' := O8.mp hr
  have := R.g0
  have htz : tp <= z := by split at hr' <;> lia
  have ht : leO (some tp) (gt T (P i)) := by rw [q]; exact O8.mpr htz
  refine W.lid c ht (j := i + k) (by lia) (by lia) ?_
  have kw := R.kw
  unfold chs at kw ⊢
  rw [<- p6, B7b kl] at kw
  exact kw
theorem C4a (W : Wk ws st b N P L) (h0 : 0 <= st) (hb : D1 m st b) {i j k : Nat} (hij : i < j) (hj : j <= N.length) (hp : P i = P j) (hk : i + k <= j) : gt b (P (i + k)) ≠ some st := fun e => by
 have key : ∀ q, 1 <= q -> q <= N.length -> gt b (P q) ≠ some st := fun q h1 h2 e => by
  have r := W.rise q h1 h2
  rw [e] at r
  have := of_decide_eq_true r
  have := (W.bd h0 hb q h2).2
  lia
 by_cases hk0 : i + k = 0
 ·rw [hk0] at e
  have : i = 0 := by lia
  rw [this] at hp
  rw [hp] at e
  exact key j (by lia) hj e
 ·exact key (i + k) (by lia) (by lia) e
theorem b7.fill (hb : D1 m st b) {p : Nat} (hp : p < m) {t : Tb} (h : b7 m ws st (b.set p (some st)) t) (hl : ∀ T, D1 m st T -> leT b T -> O9 ws st T -> leO (some st) (gt T p)) : b7 m ws st b t := by
 have g : ∀ j, gt (b.set p (some st)) j = if p = j then some st else gt b j := fun j => i8 (by rw [hb.len]; exact hp)
 refine ⟨h.tab, fun q => Y4 ?_ (h.up q), h.cl, fun T hT h1 h2 => h.le T hT (fun q => ?_) h2⟩
 ·rw [g]
  by_cases e : p = q
  ·rw [if_pos e]
   cases z : gt b q with
   | none => rfl
   | some x => exact O8.mpr (hb.bd _ _ z).2
  ·rw [if_neg e]; exact b6 _
 ·rw [g]
  by_cases e : p = q
  ·rw [if_pos e, <- e]; exact hl T hT h1 h2
  ·rw [if_neg e]; exact h1 q
theorem C4b (h0 : 0 <= st) (hb : D1 m st b) {p : Nat} (hp : p < m) : D1 m st (b.set p (some st)) := by
 refine ⟨by rw [L9]; exact hb.len, fun q x h => ?_⟩
 rw [i8 (by rw [hb.len]; exact hp)] at h
 by_cases e : p = q
 ·rw [if_pos e] at h; cases h; exact ⟨h0, B06 _⟩
 ·rw [if_neg e] at h; exact hb.bd q x h
end
def A3o (st : Int) (b : Tb) : Nat := b.countP fun x => !(x == some st)
theorem B7c (st : Int) : ∀ (b : Tb) (p : Nat), p < b.length -> gt b p ≠ some st -> A3o st (b.set p (some st)) < A3o st b
 | [], _, h, _ => by simp at h
 | x :: b, 0, _, h => by
  have hx : x ≠ some st := h
  show List.countP _ (some st :: b) < List.countP _ (x :: b)
  rw [List.countP_cons_of_neg (by simp), List.countP_cons_of_pos (by simp [hx])]
  lia
 | x :: b, p + 1, h1, h2 => by
  have ih := B7c st b p (by simpa using h1) h2
  show List.countP _ (x :: b.set p (some st)) < List.countP _ (x :: b)
  unfold A3o at ih
  rw [List.countP_cons, List.countP_cons]
  lia
theorem B22 : ∀ (m : Nat) (l : List Nat), l.Nodup -> (∀ x ∈ l, x < m) -> l.length <= m
 | 0, l, _, h => by
  cases l with
  | nil => exact F6 _
  | cons x r => exact absurd (h x B4) (by lia)
 | m + 1, l, nd, h => by
  by_cases c : m ∈ l
  ·have h1 := B22 m (l.erase m) (nd.erase m) fun x hx => by
    have h2 := h x (List.mem_of_mem_erase hx)
    have h3 : x ≠ m := fun e => by
     subst e
     exact absurd hx (nd.not_mem_erase)
    lia
   rw [List.length_erase_of_mem c] at h1
   lia
  ·have := B22 m l nd fun x hx => by
    have h2 := h x hx
    have h3 : x ≠ m := fun e => c (e ▸ hx)
    lia
   lia
end My
namespace My
abbrev Sp2 := Nat × Int
section
variable {m : Nat} {ws : List Wy} {st : Int} {b g : Sp2}
end
end My
namespace My
section
variable {ws : List Wy} {row : List Nat} {cs : List Int} {st sc gv x y : Int} {p0 : Nat}
end
end My
namespace My
section
variable {m : Nat} {row : List Nat} {cs : List Int} {sc gv : Int} {B S ws : List Wy}
end
section
variable {m : Nat} {ws : List Wy} {row : List Nat} {cs : List Int} {sc gv st x y : Int} {p0 pl : Nat}
end
end My
namespace My
def mxO (a b : Option Int) : Option Int := if K8 b a = true then b else a
def mxT (t u : Tb) : Tb := (t.zip u).map fun p => mxO p.1 p.2
def jnF (m : Nat) (ts : List Tb) : Tb := ts.foldl mxT (D8 m none)
section
variable {m : Nat} {ws : List Wy} {st : Int}
end
end My
namespace My
section
variable {m : Nat} {st : Int}
end
end My
namespace L2
open PySem PySem.Spec PyProof.Rows
def B7d (N : List Str) (osc scope : Scope) (x : Str) (j : Nat) : Bool :=
 decide N.Nodup && decide (N[j]? = some x) && decide (scope.kind = .function) && decide (osc.kind = .function) && (scope.names.lookup x == some .local) &&
  scope.names.all fun y => match y.2 with
   | .cell => false
   | .local => scope.names.lookup y.1 == some .local && (y.1 == x || !(N.contains y.1))
   | .free => osc.names.lookup y.1 == some .cell
   | _ => true
theorem M3.old {N : List Str} {osc scope : Scope} {x : Str} {j : Nat} (h : B7d N osc scope x j = true) : M3 N N osc scope j x := by
 unfold B7d at h
 simp only [P7, decide_eq_true_eq, o9, beq_iff_eq] at h
 obtain ⟨⟨⟨⟨⟨h1, h0⟩, h2⟩, h3⟩, h4⟩, h5⟩ := h
 refine ⟨h1, h0, fun i y _ e => e, A12 _, h2, fun y hy e => ?_, fun y hy e => ?_, fun y hy e => ?_, h4, h3, fun y hy e => ?_⟩
 ·have := h5 y hy; rw [e] at this; cases this
 ·have := h5 y hy
  rw [e] at this
  simp only [P7, beq_iff_eq] at this
  exact this.1
 ·have := h5 y hy
  rw [e] at this
  simp only [P7, Bool.or_eq_true, beq_iff_eq, B02, B9k, decide_eq_false_iff_not] at this
  exact this.2
 ·have := h5 y hy
  rw [e] at this
  simp only [beq_iff_eq] at this
  exact this
end L2
namespace My
open PySem L2
def A56 (j : Nat) (tt : DT) (te : DE) (ρ : List Sl) (Q : List PyData -> Prop) : List PyData -> List PyData -> Prop
 | [], acc => Q acc
 | x :: r, acc => tt (ρ.set j (.sh x)) fun b ρ' => ρ' = ρ.set j (.sh x) /\ if b = true then te (ρ.set j (.sh x)) fun d ρ'' => ρ'' = ρ.set j (.sh x) /\ A56 j tt te ρ Q r (acc ++ [d]) else A56 j tt te ρ Q r acc
def z4 (n j : Nat) (it : DF) (tt : DT) (te : DE)  (ρ : List Sl) (Q : List PyData -> List Sl -> Prop) : Prop := it ρ fun xs ρ1 => (ρ1.length = n /\ ρ1[j]? = some .no /\ xs.length <= 1000) /\ A56 j tt te ρ1 (fun ds => Q ds ρ1) xs []
theorem B7e {α : Type} {te : DE} {ρ : List Sl} {Q : List PyData -> Prop} {j : Nat} {g f : α -> PyData} : ∀ {xs : List α} {acc : List PyData}, (∀ x ∈ xs, ∀ Q' : PyData -> List Sl -> Prop, Q' (f x) (ρ.set j (.sh (g x))) -> te (ρ.set j (.sh (g x))) Q') -> Q (acc ++ xs.map f) -> A56 j A29 te ρ Q (xs.map g) acc
 | [], acc, _, q => by rw [List.map_nil, d5] at q; exact q
 | x :: xs, acc, h, q => ⟨rfl, M2 (h x B4 _ ⟨rfl, B7e (xs := xs) (fun y hy => h y (A9 _ hy)) (by rw [j4]; exact q)⟩)⟩
section
variable {X : Cx} {C : DC}
theorem B8.unset {col : Addr -> Nat} {ρ : List Sl} {σ : St} {P : List Pe} {H : Hp} {j : Nat} {s : Sl} {v : Option V} (r : B8 C col (ρ.set j s) (σ.set j v) P H) (hj : ρ[j]? = some .no) (hl : ρ.length = σ.length) : B8 C col ρ σ P H := by
 refine { r with sl := fun i s' e => ?_, len := hl }
 by_cases c : j = i
 ·subst c
  rw [hj] at e
  cases e
  trivial
 ·have := r.sl i s' (by rw [S7 c]; exact e)
  rw [S7 c] at this
  exact this
theorem C4c {σ : St} {n j : Nat} {x : V} (h1 : n = σ.length) : (U7 n j σ).set j (some x) = σ.set j (some x) := by
 subst h1
 unfold U7
 rw [List.take_append_of_le_length (F6 _), List.take_length, List.set_set]
theorem C4d {it : DF} {tt : DT} {te : DE} {n j : Nat} {σ : St} {H : Hp} {Q : VK} (h : fOf C (z4 n j it tt te) σ H Q) : t7 (iOf C it) n j (fun _ => cOf C tt) (fun _ => eOf C te) σ H Q := by
 obtain ⟨ρ, P, Qd, R, ht, k⟩ := h
 refine ⟨ρ, P, _, R, ht, fun xs ρ1 P1 H1 J R1 s1 io q => ?_⟩
 obtain ⟨⟨hn, hj, hx⟩, q⟩ := q
 have lz : ∀ m, m <= 1000 -> m <= sizeLine := fun m hm => A0j (A16 hm)
 refine ⟨fun i m ys H' => m = xs.length - i /\ i <= xs.length /\ ys.length <= i /\ ∃ acc, Rel C ρ1 σ (.s ys acc :: P1) H' /\ A56 j tt te ρ1 (fun ds => Qd ds ρ1) (xs.drop i) acc, ⟨xs.length, by simp, M8 _, F6 _, [], ?_, q⟩, ?_⟩
 ·obtain ⟨col, r⟩ := R1
  exact ⟨col, r.add (x := .s [] []) .nil⟩
 rintro i m ys H2 ⟨rfl, hi, hy, acc, R2, q2⟩
 refine ⟨lz _ (by lia), ?_⟩
 have sub2 : ∀ p ∈ P1, p ∈ Pe.s ys acc :: P1 := fun _ h => A9 _ h
 have hlen : ρ1.length = σ.length := by obtain ⟨col, r⟩ := R2; exact r.len
 by_cases hlt : i < xs.length
 ·rw [A78 hlt] at q2
  refine .inr ⟨io.go sub2 R2 hlt, fun ys' H' => ys'.length <= i + 1 /\ ∃ acc, Rel C ρ1 σ (.s ys' acc :: P1) H' /\ A56 j tt te ρ1 (fun ds => Qd ds ρ1) (xs.drop (i + 1)) acc, fun ys' H' hh => ⟨xs.length - (i + 1), by lia, rfl, hlt, hh.1, hh.2⟩, fun x H3 y a => ?_⟩
  have R3 : Rel C (ρ1.set j (.sh xs[i])) (σ.set j (some x)) (.s ys acc :: P1) H3 := by
   obtain ⟨col, r⟩ := io.yld sub2 R2 (J5 hlt) y
   exact ⟨col, (r.store (i := j) (r.pd _ B4)).sub fun _ h => A9 _ h⟩
  rw [C4c (by rw [<- hlen, hn])]
  refine ⟨_, _, _, R3, q2, fun b ρ' H4 R4 q4 => ?_⟩
  obtain ⟨rfl, q4⟩ := q4
  cases b with
  | true =>
   refine M2 ⟨_, _, _, R4, by simpa using q4, fun v d ρ'' H5 R5 q5 => ?_⟩
   obtain ⟨rfl, q5⟩ := q5
   refine ⟨by rw [M7]; simp; lia, acc ++ [d], ?_, q5⟩
   obtain ⟨col, r⟩ := R5
   have t1 : ThV (Z col) H5 v d := r.pd _ B4
   have t2 : B0 (Z col) H5 ys acc := r.pd _ (A9 _ B4)
   exact ⟨col, ((r.unset hj hlen).sub fun _ h => A9 _ (A9 _ h)).add (x := .s (ys ++ [v]) (acc ++ [d])) (t2.snoc t1)⟩
  | false =>
   refine L4 ⟨by lia, acc, ?_, by simpa using q4⟩
   obtain ⟨col, r⟩ := R4
   exact ⟨col, r.unset hj hlen⟩
 ·have e : i = xs.length := by lia
  subst e
  rw [B04] at q2
  refine .inl ⟨io.stop sub2 R2, fun p hp => k _ _ _ _ _ ?_ hp q2⟩
  obtain ⟨col, r⟩ := R2
  exact ⟨col, r.sub fun p hp => A9 _ (s1 p hp), r.pd _ B4⟩
variable {st : Stmt} {te : DE}
end
end My
namespace My
open PySem L2
section
variable {X : Cx} {C : DC} {st : Stmt} {te : DE} {tg e : Expr} {u : DF}
def A57 (i : Nat) (te : DE)  (D : L7) (ρ : List Sl) : Prop := match ρ[i]? with
 | some (.ow _) => te ρ fun d ρ' => match ρ'[i]? with
  | some (.ow ds) => match d with
   | .list es => ds.length + es.length <= 90000 /\ D.nx (ρ'.set i (.ow (ds ++ es)))
   | _ => False
  | _ => False
 | _ => False
def C4e (lo : Int) (n : Nat) : List PyData := (P6 n).map fun i => .int (lo - ((i : Nat) : Int))
def A58 (u : DF)  (ρ : List Sl) (Q : List PyData -> List Sl -> Prop) : Prop := u ρ fun ds ρ' => match ds with
 | [.int i, .int j, .int k] => k = -1 /\ (-(2 ^ 61) <= i /\ i < 2 ^ 61 /\ -(2 ^ 61) <= j /\ j < 2 ^ 61) /\ Q (C4e i (i - j).toNat) ρ'
 | _ => False
end
end My
namespace My
open PySem L2
section
variable {C : DC}
section
variable {X : Cx} {st : Stmt} {ta : DF}
def A1p (n j : Nat) (it : DF) (tt : DT) (te : DE) (ρ : List Sl) (Q : List PyData -> List Sl -> Prop) : Prop := z4 n j it tt te (ρ.set j .no) Q
theorem Rel.forget {ρ : List Sl} {σ : St} {P : List Pe} {H : Hp} {j : Nat} (r : Rel C ρ σ P H) : Rel C (ρ.set j .no) σ P H := by
 obtain ⟨col, r⟩ := r
 refine ⟨col, { r with sl := fun i s e => ?_, len := by rw [L9]; exact r.len }⟩
 by_cases c : j = i
 ·subst c
  rw [Z2] at e
  simp only [if_true] at e
  split at e
  ·cases e; trivial
  ·cases e
 ·rw [S7 c] at e
  exact r.sl i s e
theorem C4f {e : Expr} {n j : Nat} {it : DF} {tt : DT} {te : DE} (h : PE X e (t7 (iOf C it) n j (fun _ => cOf C tt) (fun _ => eOf C te))) : PE X e (fOf C (A1p n j it tt te)) := PE.wk h fun _ _ _ ⟨_, P, Qd, R, ht, k⟩ => C4d ⟨_, P, Qd, R.forget, ht, k⟩
variable {a b : Expr} {te : DE} {pos : Pos}
end
end
section
variable {X : Cx} {C : DC} {st : Stmt} {te : DE}
end
section
variable {C : DC}
def A3p : G2 := gI A4y fun i j => .int (i * 2 ^ j.toNat)
def A3q : G2 := gI0 fun i j => .int (Builtin.bitAnd i j)
theorem A59 : N8 C (rI A4y (fun i j => .int (i * 2 ^ j.toNat))) A3p := A8n (f := fun i j => .int (i * 2 ^ j.toNat)) fun _ _ _ _ => .int _
theorem C4g : N8 C (rI0 (fun i j => .int (Builtin.bitAnd i j))) A3q := A2g (f := fun i j => .int (Builtin.bitAnd i j)) fun _ _ _ _ => .int _
end
section
variable {X : Cx} {C : DC}
end
end My
namespace My
open PySem L2
section
variable {C : DC}
end
section
variable {X : Cx} {C : DC} {st : Stmt} {te : DE}
end
section
variable {C : DC}
end
section
variable {C : DC} {col col2 : Addr -> Nat} {ρ : List Sl} {σ : St} {P : List Pe} {H H2 : Hp} {i : Nat} {ds : List PyData} {a : Addr} {vs : List V}
variable {X : Cx} {e : Expr}
end
end My
namespace L2
open PySem PySem.Spec PyProof.Rows
section
variable {κ : Type} [DecidableEq κ]
end
section
variable {P : Program} {w : World} {H : Hp} {h : Heap} {a : Addr}
end
section
variable {X : Cx} {pins : List (Addr × Obj)} {σ : St} {H : Hp} {s : Shared} {a : Addr} {y v : V} {u r : Value} {o : Option V} {A : Around} {E : Value -> Shared -> Prop}
theorem Inv.big (I : Inv X pins σ H s) : sysModules < s.heap.objs.size := by
 have h : mainGlobals < s.heap.objs.size := (I.mod.glob.keeps I.bk).lt
 exact Nat.lt_trans (by decide) h
end
section
variable {X : Cx} {pins : List (Addr × Obj)} {σ : St} {H : Hp} {s : Shared} {a : Addr} {kvs : List (Key × V)} {k : Key} {u : Value} {A : Around} {E : Value -> Shared -> Prop}
end
section
variable {X : Cx} {o i e value : Expr} {pos pos' tpos : Pos} {td ty tv : TE}
end
theorem C4h {P : Program} {w : World} {H : Hp} (h : Heap) (hb : sysModules < h.objs.size) : O4 P w H (h.push { cls := .type "dict", data := .dict #[] }) h.objs.size (.dT []) :=
 ⟨M8 _, beq_eq_false_iff_ne.mpr (Ne.symm (N0 hb)), [], .nil, _, #[], 0, W1 _ rfl, ⟨rfl, rfl, rfl⟩, rfl, rfl, B35⟩
def C4i : TE := fun _ H Q => ∀ p, H p = none -> Q (.ref p) (upd H p (.dT []))
section
variable {X : Cx} {pos : Pos}
theorem C4j : PE X (.Dict [] [] pos) C4i := fun pins s σ H Q I h =>
 wpAny_Dict_empty ⟨.ref s.heap.objs.size, _, I.laid (a := s.heap.objs.size) (o := .dT []) (t' := s.toks) (fun _ _ q => S1 _ q) (F6 _) (C4h s.heap I.big), rfl, h _ (I.hok.fresh (F6 _))⟩
end
section
variable {X : Cx} {pins : List (Addr × Obj)} {σ : St} {H : Hp} {s : Shared} {a : Addr} {y d : V} {u r : Value} {o : Option V} {A : Around} {E : Value -> Shared -> Prop}
end
section
variable {X : Cx} {o e f : Expr} {apos cpos : Pos} {td ty tx : TE}
end
section
variable {X : Cx} {pins : List (Addr × Obj)} {σ : St} {H : Hp} {s : Shared} {a : Addr} {kvs : List (Key × V)} {A : Around} {E : Value -> Shared -> Prop}
end
section
variable {X : Cx} {pins : List (Addr × Obj)} {σ : St} {H : Hp} {s : Shared} {a : Addr} {y : V} {u : Value} {A : Around} {E : Value -> Shared -> Prop}
end
end L2
namespace L2
open PySem PySem.Spec PyProof.Rows
section
variable {prog : Program} {w : World} {A : Around} {E : Value -> Shared -> Prop} {s : Shared}
end
end L2
namespace My
open PySem L2
section
variable {C : DC} {col : Addr -> Nat} {ρ : List Sl} {σ : St} {P : List Pe} {H H' : Hp} {p : Addr}
end
open PySem.Spec PyProof.Rows
section
variable {P : Program} {w : World} {K : A4} {mg : Str -> Option Value} {base : Heap}
open Classical in
end
section
variable {X : Cx} {C : DC} {st : Stmt} {e a b : Expr} {te tk : DE} {u : DA} {pos : Pos}
end
end My
namespace My
open PySem L2
mutual
def C4k : PyData -> List (List PyData)
 | .list ds => ds :: B23 ds
 | .tuple ds => B23 ds
 | _ => []
def B23 : List PyData -> List (List PyData)
 | [] => []
 | d :: ds => C4k d ++ B23 ds
end
mutual
def szD : PyData -> Nat
 | .list ds => szL ds + 1
 | .tuple ds => szL ds + 1
 | _ => 1
def szL : List PyData -> Nat
 | [] => 0
 | d :: ds => szD d + szL ds
end
section
variable {X : Cx} {C : DC} {st : Stmt} {u : DA}
variable {a b : Expr} {tb : DE} {pos : Pos}
def D0w (neg : Bool) (i : Nat) (tb : DE)  (ρ : List Sl) (Q : PyData -> List Sl -> Prop) : Prop := bnd (O3 ρ i) fun _ => tb ρ fun b ρ1 => bnd (O3 ρ1 i) fun a => gEq neg a b fun d => Q d ρ1
variable {a b : Expr} {tb : DE} {pos : Pos}
end
end My
namespace L2
open PySem PySem.Spec PyProof.Rows
end L2
namespace My
open PySem L2
open PySem.Spec PyProof.Rows
section
variable {C : DC} {col : Addr -> Nat} {ρ : List Sl} {σ : L2.St} {P : List Pe} {H H' : Hp} {p : Addr}
end
section
variable {X : Cx} {C : DC} {st : Stmt} {e : Expr} {te : DE} {u : DA} {pos : Pos}
def A3r (ρ : List Sl) (Q : PyData -> List Sl -> Prop) : Prop := Q (.dict []) ρ
theorem B7f : PE X (.Dict [] [] pos) (eOf C A3r) := PE.wk C4j fun σ H Q z => el3 z fun ρ P Qd R ht k => R.elim fun col r => fun p hp => k _ _ _ _ ⟨col, (r.lay hp).push (.dic (r.fresh p hp) K2 .t)⟩ ht
end
end My
namespace My
open PySem L2
section
variable {X : Cx} {C : DC} {st : Stmt} {e : Expr} {ta : DE}
theorem B8.half2 {col : Addr -> Nat} {ρ : List Sl} {σ : St} {P : List Pe} {H : Hp} {i : Nat} {dss : List (List PyData)} (r : B8 C col ρ σ P H) (e : ρ[i]? = some (.o2 dss)) : Rel C (ρ.set i (.ow (lls dss))) σ P H := by
 obtain ⟨a, as, e1, c, e2, nd, t⟩ := r.sl i _ e
 have na : a ∉ as := (A0k.mp nd).1
 let col' : Addr -> Nat := fun b => if b ∈ as then 0 else col b
 have ca : ∀ b, b ∈ as -> col' b = 0 := fun b hb => if_pos hb
 have cn : ∀ b, b ∉ as -> col' b = col b := fun b hb => if_neg hb
 have cc : ∀ b, b ∈ as -> col b = 2 * i + 3 /\ C.H0 b = none := fun b hb => (t.mem hb).1
 have ni : ∀ b, col b ≠ 2 * i + 3 -> b ∉ as := fun b h q => h (cc b q).1
 have z0 : ∀ b o, Z col b -> H b = some o -> Z col' b /\ H b = some o := fun b o zz e => ⟨(cn b (ni b (by rw [show col b = 0 from zz]; lia))).trans zz, e⟩
 have T : B0 (Z col') H (as.map V.ref) (lls dss) := B6v (t.mvm z0 fun b o hb _ e => ⟨ca b hb, e⟩)
 refine ⟨col', B8.chg r i _ r.len (fun b hb => ?_) (fun b hb => ?_) (fun q hq => ?_) z0 (fun b o c _ e => ⟨?_, e⟩) (fun _ _ _ _ b o c e => ⟨?_, e⟩) (fun b o j hj c e => ⟨?_, e⟩) r.kq r.hq (fun _ _ => rfl) fun _ => ⟨a, _, e1, (cn a na).trans c.1, c.2, e2, T⟩⟩
 ·by_cases q : b ∈ as
  ·exact ca b q
  ·rw [cn b q]; exact r.fresh b hb
 ·by_cases q : b ∈ as
  ·exact r.nf.1 b (cc b q).2
  ·rw [cn b q] at hb; exact r.inF b hb
 ·have := r.hnd q hq
  rw [cn _ (ni _ (by lia))]; exact this
 ·rw [cn b (ni b (by lia))]; exact c
 ·rw [cn b (ni b (by lia))]; exact c
 ·rw [cn b (ni b (by lia))]; exact c
def A1q (i : Nat) (t : DS) (D : L7) (ρ : List Sl) : Prop := match ρ[i]? with
 | some (.o2 dss) => t D (ρ.set i (.ow (lls dss)))
 | _ => t D ρ
theorem A6a {i : Nat} {t : DS} (h : PS X st (sOf C t)) : PS X st (sOf C (A1q i t)) := PS.wk h fun D σ H z => el3 z fun ρ P Dd R ht E => by
 unfold A1q at ht
 split at ht
 ·rename_i dss e0
  obtain ⟨col, r⟩ := R
  exact ⟨_, P, Dd, r.half2 e0, ht, E⟩
 ·exact ⟨ρ, P, Dd, R, ht, E⟩
abbrev B7g (K : A4) : List V -> Hp -> VK -> Prop := fun xs H Q => ∃ p ys, xs = [.ref p] /\ ((SqL K H p ys /\ ∀ l, H l = none -> Q (.ref l) (upd H l (.tup ys))) \/ (SqT K H p ys /\ Q (.ref p) H))
def A3s (i : Nat)  (ρ : List Sl) (Q : PyData -> List Sl -> Prop) : Prop := bnd (O3 ρ i) fun a => bnd (M5 a) fun ds => Q (.tuple ds) ρ
theorem C4l {i : Nat} {K : A4} (h : PE X e (tCB (B7g K) (Q6 (N5 i) U6))) : PE X e (eOf C (A3s i)) := PE.wk h fun _ _ _ zz16 => el3 zz16 fun ρ P _ zz17 ht k => zz17.elim fun col r => by
 obtain ⟨a, ha, ht⟩ := G9 ht
 obtain ⟨ds, hn, q⟩ := G9 ht
 obtain ⟨v, ev, t⟩ := r.slot ha
 have := g7 hn
 subst this
 cases t with
 | th t =>
  cases t with
  | lst za e t => exact ⟨_, ev, _, _, rfl, .inl ⟨SqL.of e, fun l hl => k _ _ _ _ ⟨col, r.tup t hl⟩ q⟩⟩
 | ls e t => exact ⟨_, ev, _, _, rfl, .inl ⟨SqL.of e, fun l hl => k _ _ _ _ ⟨col, r.tup t hl⟩ q⟩⟩
def A3t (ta : DE)  (ρ : List Sl) (Q : PyData -> List Sl -> Prop) : Prop := ta ρ fun a ρ' => bnd (M5 a) fun ds => Q (.tuple ds) ρ'
theorem C4m {K : A4} (h : PE X e (tCB (B7g K) (Q6 (eOf C ta) U6))) : PE X e (eOf C (A3t ta)) := PE.wk h fun _ _ _ zz18 => el3 zz18 fun ρ P _ R ht k => ⟨ρ, P, _, R, ht, fun v d ρ' H' zz19 q => zz19.elim fun col r => by
 obtain ⟨ds, hn, q⟩ := G9 q
 have := g7 hn
 subst this
 have t : ThV (Z col) H' v (.list ds) := r.pd (.v v _) B4
 cases t with
 | lst za e t => exact ⟨_, _, rfl, .inl ⟨SqL.of e, fun l hl => k _ _ _ _ ⟨col, (r.sub fun _ h => A9 _ h).tup t hl⟩ q⟩⟩⟩
def A3u (i : Nat)  (ρ : List Sl) (Q : PyData -> List Sl -> Prop) : Prop := bnd (slot2 ρ i) fun dss => Q (.int (dss.length : Nat)) ρ
theorem B7h {i : Nat} {K : A4} (h : PE X e (tCB (A8p K) (Q6 (N5 i) U6))) : PE X e (eOf C (A3u i)) := PE.wk h fun _ _ _ zz14 => el3 zz14 fun ρ P _ zz15 ht k => zz15.elim fun col r => by
 obtain ⟨dss, hd, q⟩ := G9 ht
 obtain ⟨a, as, e1, _, e2, t⟩ := r.slot2 hd
 refine ⟨.ref a, e1, a, _, rfl, .inl (SqL.of e2), ?_⟩
 rw [E4, t.len]
 exact k _ _ _ _ ⟨col, r.push (.int _)⟩ q
end
end My
namespace My
open PySem L2
theorem B7i : bootBuiltins "repr" = some (.builtin "repr") := by decide +kernel
theorem A0a (s : String) : PyData.strOk (Str.ofString s) = true := by
 unfold PyData.strOk
 rw [Str.ofString_eq_toList]
 refine Array.all_eq_true_iff_forall_mem.mpr fun c hc => ?_
 have hc := Array.mem_toList_iff.mpr hc
 obtain ⟨ch, _, rfl⟩ := S2.mp (show c ∈ s.toList.map Char.toNat from by simpa using hc)
 have := ch.valid
 refine decide_eq_true ?_
 rcases this with h | h
 ·show ch.val.toNat < _
  have : ch.val.toNat < 0xd800 := h
  omega
 ·exact h.2
theorem A3v {a b : Str} (ha : PyData.strOk a = true) (hb : PyData.strOk b = true) : PyData.strOk (a ++ b) = true := by
 unfold PyData.strOk at *
 show (a.cps ++ b.cps).all _ = true
 rw [Array.all_append, ha, hb]; rfl
theorem B7j : ∀ {ts : List Str} {k : Nat} {acc : Str}, PyData.strOk acc = true -> (∀ t ∈ ts, PyData.strOk t = true) -> PyData.strOk (textFrom k acc ts) = true
 | [], _, _, h, _ => h
 | t :: r, k, acc, h, ht => by
  show PyData.strOk (textFrom (k + 1) (acc ++ (if k > 0 then ", " else "" : String) ++ t) r) = true
  exact B7j (A3v (A3v h (A0a _)) (ht t B4)) fun x hx => ht x (A9 _ hx)
theorem C4n {ts : List Str} (h : ∀ t ∈ ts, PyData.strOk t = true) : PyData.strOk (listText ts) = true := by
 show PyData.strOk (textFrom 0 "[" ts ++ "]") = true
 exact A3v (B7j (A0a _) h) (A0a _)
def A3w (d : PyData) : Prop := d.canLay0 = true /\ d.showable = true /\ d.shown.length <= 100 /\ PyData.strOk d.shown = true
theorem A3w.int {i : Int} (h : i.natAbs < 10 ^ 61) : A3w (.int i) := by
 refine ⟨rfl, ?_, ?_, A0a _⟩
 ·rw [PyData.showable]
  refine decide_eq_true ?_
  by_cases z : i.natAbs = 0
  ·rw [z]; decide
  ·have : i.natAbs < 2 ^ 1920 := Q5 h (by decide +kernel)
   exact (Nat.log2_lt z).mpr this
 ·show (Str.ofString (toString i)).length <= 100
  have := int_text_length_le10 (k := 61) (by decide) h
  rw [ofString_length]; omega
theorem A3w.non : A3w .none := ⟨rfl, rfl, by decide +kernel, by decide +kernel⟩
theorem A3w.bl (b : Bool) : A3w (.bool b) := by cases b <;> exact ⟨rfl, rfl, by decide +kernel, by decide +kernel⟩
section
variable {X : Cx} {C : DC} {st : Stmt} {e : Expr} {ta : DE}
abbrev C4o (K : A4) : List V -> Hp -> VK -> Prop := fun xs H Q => ∃ (a : Addr) (ds : List PyData), xs = [.ref a] /\ U8 K H (.ref a) (.list ds) /\ PyData.canLay0 (.list ds) = true /\ PyData.showable (.list ds) = true /\ PyData.depth (.list ds) <= 60 /\ (PyData.shown (.list ds)).length <= sizeLine /\ Q (.str (PyData.shown (.list ds))) H
def A3x (ta : DE)  (ρ : List Sl) (Q : PyData -> List Sl -> Prop) : Prop := ta ρ fun a ρ' => match a with
 | .list ds => (PyData.canLay0 (.list ds) = true /\ PyData.showable (.list ds) = true /\ PyData.depth (.list ds) <= 60 /\ (PyData.shown (.list ds)).length <= sizeLine) /\ Q (.str (PyData.shown (.list ds))) ρ'
 | _ => False
theorem B7k {K : A4} (h : PE X e (tCB (C4o K) (Q6 (eOf C ta) U6))) : PE X e (eOf C (A3x ta)) := PE.wk h fun _ _ _ zz18 => el3 zz18 fun ρ P _ R ht k => ⟨ρ, P, _, R, ht, fun v d ρ' H' zz19 q => zz19.elim fun col r => by
 split at q
 ·rename_i ds
  have t : ThV (Z col) H' v (.list ds) := r.pd (.v v _) B4
  have td := t.dat (K := K) q.1.1
  cases t with
  | @lst a xs _ za e t => exact ⟨a, ds, rfl, td, q.1.1, q.1.2.1, q.1.2.2.1, q.1.2.2.2, k _ _ _ _ ⟨col, (r.sub fun _ h => A9 _ h).push (.str _)⟩ q.2⟩
 ·exact q.elim⟩
end
end My
namespace My
abbrev Ct := List (List (Option Int))
abbrev Spt := Nat × Nat
def ca (t : Ct) (s : Spt) : Option Int := gt (t.getD s.1 []) s.2
theorem B24 : ∀ {xs : List Nat} {i x y : Nat}, xs[i]? = some x -> (xs.set i y).sum + x = xs.sum + y
 | [], _, _, _, h => by cases h
 | a :: xs, 0, x, y, h => by
  have : a = x := Option.some.inj h
  subst this
  show (y :: xs).sum + a = (a :: xs).sum + y
  rw [A4q, A4q]; lia
 | a :: xs, i + 1, x, y, h => by
  have := B24 (xs := xs) (i := i) (x := x) (y := y) h
  show (a :: xs.set i y).sum + x = (a :: xs).sum + y
  rw [A4q, A4q]; lia
end My
namespace My
open PySem L2
def A8t (t b : Tb) : Bool := !((b.zip t).any fun p => K8 p.1 p.2)
def Y5 (ws : List Wy) (st : Int) (t l : Tb) : Bool := !(ws.any fun w => K8 (K0 st t w) (gt l w.2.1))
theorem B7l {t b : Tb} (h : t.length = b.length) : A8t t b = true ↔ leT b t := by
 unfold A8t
 rw [B02, List.any_eq_false]
 constructor
 ·intro z p
  by_cases hp : p < b.length
  ·have hp' : p < t.length := by omega
   have := z (b[p], t[p]) (by
    rw [p5]
    exact ⟨p, by rw [B05]; omega, by rw [List.getElem_zip]⟩)
   have e1 : gt b p = b[p] := by unfold gt; rw [J5 hp]; rfl
   have e2 : gt t p = t[p] := by unfold gt; rw [J5 hp']; rfl
   rw [e1, e2]
   exact B36.mpr this
  ·rw [w6 (by omega)]; exact X0
 ·intro z q hq
  obtain ⟨p, hp, e⟩ := p5.mp hq
  rw [B05] at hp
  rw [List.getElem_zip] at e
  have e1 : gt b p = b[p] := by unfold gt; rw [J5 (by omega)]; rfl
  have e2 : gt t p = t[p] := by unfold gt; rw [J5 (by omega)]; rfl
  have := z p
  rw [e1, e2] at this
  subst e
  exact B36.mp this
theorem B25 {ws : List Wy} {st : Int} {t l : Tb} : Y5 ws st t l = true ↔ ∀ w ∈ ws, leO (K0 st t w) (gt l w.2.1) := by
 unfold Y5
 rw [B02, List.any_eq_false]
 exact ⟨fun z w hw => B36.mpr (z w hw), fun z w hw => B36.mp (z w hw)⟩
end My
namespace My
open PySem L2
end My
namespace L2
open PySem PySem.Spec PyProof.Rows
section
variable {X : Cx}
end
end L2
namespace My
open PySem L2
section
variable {C : DC}
end
end My
namespace L2
open PySem PySem.Spec PyProof.Rows
section
variable {X : Cx} {pins : List (Addr × Obj)} {σ : St} {H : Hp} {s : Shared}
end
section
variable {X : Cx}
end
end L2
namespace L2
open PySem PySem.Spec PyProof.Rows
section
variable {prog : Program} {w : World} {K : Type} [DecidableEq K] {knd : HeapKind prog w K} {A : Around} {E : Value -> Shared -> Prop} {s : Shared}
end
section
variable {X : Cx} {pins : List (Addr × Obj)} {σ : St} {H : Hp} {s : Shared} {a b : Addr} {kvs : List (List Key × V)} {k : List Key} {A : Around} {E : Value -> Shared -> Prop}
end
section
variable {prog : Program} {w : World} {A : Around} {E : Value -> Shared -> Prop} {s : Shared}
end
end L2
namespace L2
open PySem PySem.Spec PyProof.Rows
section
variable {prog : Program} {w : World} {A : Around} {E : Value -> Shared -> Prop} {s : Shared}
end
section
variable {prog : Program} {w : World} {A : Around} {E : Value -> Shared -> Prop} {s : Shared}
end
section
variable {prog : Program} {w : World} {A : Around} {R : Result -> Shared -> Prop} {I : Addr} {fp wr : List Addr} {n : Nat} {P : Nat -> Value -> Prop} {St : Nat -> Heap -> Prop}
end
section
variable {X : Cx}
end
end L2
namespace My
open PySem L2
open PySem.Spec PyProof.Rows
mutual
def U3 : PyData -> Bool
 | .none => true
 | .bool _ => true
 | .int _ => true
 | .str _ => true
 | .tuple xs => X1 xs
 | .list _ => false
 | .dict _ => false
def X1 : List PyData -> Bool
 | [] => true
 | d :: ds => U3 d && X1 ds
end
mutual
theorem ThV.flat {F G : Addr -> Prop} {H : Hp} (ft : ∀ b xs, H b = some (.tup xs) -> F b) : ∀ {v : V} {d : PyData}, ThV G H v d -> U3 d = true -> ThV F H v d
 | _, _, .non, _ => .non
 | _, _, .bl b, _ => .bl b
 | _, _, .int i, _ => .int i
 | _, _, .str x, _ => .str x
 | _, _, .lst _ _ _, h => by rw [U3] at h; cases h
 | _, _, .tup _ e t, h => .tup (ft _ _ e) e (B0.flat ft t (by rw [U3] at h; exact h))
 | _, _, .dic _ _ _, h => by rw [U3] at h; cases h
theorem B0.flat {F G : Addr -> Prop} {H : Hp} (ft : ∀ b xs, H b = some (.tup xs) -> F b) : ∀ {vs : List V} {ds : List PyData}, B0 G H vs ds -> X1 ds = true -> B0 F H vs ds
 | _, _, .nil, _ => .nil
 | _, _, .cons x t, h => by
  rw [X1, P7] at h
  exact .cons (ThV.flat ft x h.1) (B0.flat ft t h.2)
end
open Classical in
theorem B8.norm0 {C : DC} {col : Addr -> Nat} {ρ : List Sl} {σ : L2.St} {P : List Pe} {H : Hp} (r : B8 C col ρ σ P H) : ∃ col', B8 C col' ρ σ P H /\ (∀ b xs, H b = some (.tup xs) -> col' b = 0) /\ ∀ b, C.H0 b ≠ none -> col' b <= 1 := by
 obtain ⟨col, r, tp⟩ := r.norm
 let col' : Addr -> Nat := fun b => if C.H0 b ≠ none /\ 1 < col b then 1 else col b
 have c0 : ∀ b, C.H0 b = none -> col' b = col b := fun b h => if_neg fun z => z.1 h
 have c1 : ∀ b, col b <= 1 -> col' b = col b := fun b h => if_neg fun z => absurd z.2 (by lia)
 have lo : ∀ b, col b <= 1 -> col' b <= 1 := fun b h => by rw [c1 b h]; exact h
 have z0 : ∀ b, col' b = 0 -> col b = 0 := fun b h => by
  by_cases q : C.H0 b ≠ none /\ 1 < col b
  ·have h : (if C.H0 b ≠ none /\ 1 < col b then 1 else col b) = 0 := h
   rw [if_pos q] at h; cases h
  ·have h : (if C.H0 b ≠ none /\ 1 < col b then 1 else col b) = 0 := h
   rw [if_neg q] at h; exact h
 have mv0 : ∀ b o, Z col b -> H b = some o -> Z col' b /\ H b = some o := fun b o z e => ⟨(c1 b (by rw [show col b = 0 from z]; decide)).trans z, e⟩
 refine ⟨col', ⟨fun b hb => (c1 b (by rw [r.fresh b hb]; decide)).trans (r.fresh b hb), fun b hb => r.inF b (z0 b hb), fun q hq => (c1 _ (by rw [r.hnd q hq]; decide)).trans (r.hnd q hq), fun i s e => ?_, fun p hp => ?_, r.kq, r.hq, r.hq0, r.nf, r.len⟩, fun b xs e => (c1 b (by rw [tp b xs e]; decide)).trans (tp b xs e), fun b hb => ?_⟩
 ·have h := r.sl i s e
  cases s with
  | no => trivial
  | sh d => obtain ⟨v, e1, t⟩ := h; exact ⟨v, e1, t.mv mv0⟩
  | ow ds => obtain ⟨a, vs, e1, c, n, e2, t⟩ := h; exact ⟨a, vs, e1, (c0 a n).trans c, n, e2, t.mv mv0⟩
  | bo ds => obtain ⟨a, vs, e1, c, n, e2, t⟩ := h; exact ⟨a, vs, e1, lo a c, n, e2, t.mv mv0⟩
  | hd => exact h
  | o2 dss => obtain ⟨a, as, e1, c, e2, nd, t⟩ := h; exact ⟨a, as, e1, ⟨(c0 a c.2).trans c.1, c.2⟩, e2, nd, t.mv mv0 fun b o g e => ⟨⟨(c0 b g.2).trans g.1, g.2⟩, e⟩⟩
  | b2 dss => obtain ⟨a, as, e1, c, e2, t⟩ := h; exact ⟨a, as, e1, ⟨lo a c.1, c.2⟩, e2, t.mv mv0 fun b o g e => ⟨⟨lo b g.1, g.2⟩, e⟩⟩
  | di f ks => obtain ⟨a, e1, c, n, e2⟩ := h; exact ⟨a, e1, (c0 a n).trans c, n, e2⟩
  | dm f ks => obtain ⟨a, e1, c, n, e2⟩ := h; exact ⟨a, e1, (c0 a n).trans c, n, e2⟩
  | bd d => exact h
  | ot d => obtain ⟨v, e1, t⟩ := h; exact ⟨v, e1, t.mv fun b o g e => ⟨g.imp (fun g => ⟨(c0 b g.2).trans g.1, g.2⟩) fun g => ⟨(c1 b (by rw [g.1]; decide)).trans g.1, g.2⟩, e⟩⟩
 ·have h := r.pd p hp
  cases p with
  | v v d => exact ThV.mv mv0 h
  | n a o => exact ⟨lo a h.1, h.2⟩
  | s vs ds => exact B0.mv mv0 h
  | o c as dss => exact ⟨h.1, h.2.mv mv0 fun b o g e => ⟨⟨(c0 b g.2).trans g.1, g.2⟩, e⟩⟩
  | w v d => exact h
 ·show (if C.H0 b ≠ none /\ 1 < col b then 1 else col b) <= 1
  split
  ·exact F6 _
  ·rename_i q
   rcases P8 1 (col b) with z | z
   ·exact absurd ⟨hb, z⟩ q
   ·exact z
def lOf (C : DC) (t : DE) : TE := fun σ H Q => ∃ ρ P Qd, Rel C ρ σ P H /\ t ρ Qd /\ ∀ v d ρ' H', Rel C ρ' σ (.w v d :: P) H' -> Qd d ρ' -> Q v H'
section
variable {X : Cx} {C : DC} {e a b : Expr} {es : List Expr} {t ta tb te : DE} {u : DA} {pos : Pos} {st : Stmt} {tg : Expr}
def A3y (i : Nat) (ρ : List Sl) (Q : PyData -> List Sl -> Prop) : Prop := bnd (v8 ρ i) fun d => Q d ρ
theorem B7m {i : Nat} (h : PE X e (N5 i)) : PE X e (lOf C (A3y i)) := PE.wk h fun σ H Q z => el3 z fun ρ P Qd R ht k => R.elim fun col r => by
 obtain ⟨d, hd, q⟩ := G9 ht
 obtain ⟨v, ev, t⟩ := r.lent hd
 exact ⟨v, ev, k _ _ _ _ ⟨col, r.add (x := .w v d) t⟩ q⟩
theorem B8.ixL {K : A4} {F : Addr -> Prop} {col : Addr -> Nat} {ρ : List Sl} {σ : L2.St} {P : List Pe} {H : Hp} {v w : V} {a b d : PyData} (r : B8 C col ρ σ P H) (t1 : ThV (Le C) C.H0 v a) (t2 : ThV F H w b) (h : ixD a b = some d) : ∃ u, ThV (Le C) C.H0 u d /\ ∀ Q : VK, Q u H -> rIx K v w H Q := by
 unfold ixD at h
 split at h
 ·cases t2
  obtain ⟨p, vs, rfl, n, e, t⟩ := A1c t1
  obtain ⟨u, hu, tu⟩ := A8o t h
  exact ⟨u, tu, fun Q q => .inl ⟨p, vs, _, u, rfl, rfl, SqL.of (r.kq p _ e n.2), hu, q⟩⟩
 ·cases t2
  obtain ⟨p, vs, rfl, n, e, t⟩ := B6i t1
  obtain ⟨u, hu, tu⟩ := A8o t h
  exact ⟨u, tu, fun Q q => .inr (.inl ⟨p, vs, _, u, rfl, rfl, SqT.of (r.kq p _ e n.2), hu, q⟩)⟩
 ·cases h
def A3z (ta tb : DE)  (ρ : List Sl) (Q : PyData -> List Sl -> Prop) : Prop := ta ρ fun a ρ1 => tb ρ1 fun b ρ2 => bnd (ixD a b) fun d => Q d ρ2
theorem B0b (ha : PE X a (lOf C ta)) (hb : PE X b (eOf C tb)) (hs : A41 b) : PE X (.Subscript a b pos) (lOf C (A3z ta tb)) := PE.wk (M9 j7 ha hb hs) fun _ _ _ z => el3 z fun ρ P _ R ht k => ⟨ρ, P, _, R, ht, fun v _ ρ1 H1 R1 h1 => ⟨ρ1, _, _, R1, h1, fun w _ ρ2 H2 R2 h2 => R2.elim fun col r => by
 obtain ⟨d, hd, q⟩ := G9 h2
 obtain ⟨x, tu, f⟩ := r.ixL (K := X.K) (r.pd _ (A9 _ B4)) (show ThV (Z col) H2 w _ from r.pd _ B4) hd
 exact f _ (k _ _ _ _ ⟨col, (r.sub fun _ h => A9 _ (A9 _ h)).add (x := .w x d) tu⟩ q)⟩⟩
def A30 (t : DE)  (ρ : List Sl) (Q : PyData -> List Sl -> Prop) : Prop := t ρ fun d ρ' => U3 d = true /\ Q d ρ'
theorem B7n (h : PE X e (lOf C t)) : PE X e (eOf C (A30 t)) := PE.wk h fun _ _ _ z => el3 z fun ρ P _ R ht k => ⟨ρ, P, _, R, ht, fun v d ρ' H' R' q => R'.elim fun col0 r0 => by
 obtain ⟨col, r, tp, _⟩ := r0.norm0
 exact k _ _ _ _ ⟨col, (r.sub fun _ h => A9 _ h).push ((r.le (r.pd _ B4)).flat tp q.1)⟩ q.2⟩
def A6b (t : DE)  (ρ : List Sl) (Q : PyData -> List Sl -> Prop) : Prop := t ρ fun d ρ' => bnd (lenD d) fun n => Q (.int n) ρ'
def A6c (t : DE) (T : String)  (ρ : List Sl) (Q : PyData -> List Sl -> Prop) : Prop := t ρ fun a ρ' => Q (.bool (V6 T a)) ρ'
def A6d (neg : Bool) (t : DE)  (ρ : List Sl) (Q : PyData -> List Sl -> Prop) : Prop := t ρ fun a ρ' => Q (.bool (if neg then !isN a else isN a)) ρ'
def A6e (t : DE)  (ρ : List Sl) (Q : List PyData -> List Sl -> Prop) : Prop := t ρ fun d ρ' => bnd (m7 d) fun ds => X1 ds = true /\ Q ds ρ'
def dIL (t : DE)  (ρ : List Sl) (Q : List PyData -> List Sl -> Prop) : Prop := t ρ fun d ρ' => bnd (M5 d) fun xs => X1 xs = true /\ Q xs ρ'
def B7o (t : DE)  (ρ : List Sl) (Q : List PyData -> List Sl -> Prop) : Prop := t ρ fun d ρ' => bnd (M5 d) fun xs => X1 xs = true /\ Q (Y3 xs) ρ'
def aW (t : DE) (u : DA)  (ρ : List Sl) (Q : List Ar -> List Sl -> Prop) : Prop := t ρ fun d ρ1 => u ρ1 fun as ρ2 => Q (.w d :: as) ρ2
end
end My
namespace My
open PySem L2
def F3 (C : DC) (col : Addr -> Nat) (i : Nat) (b : Addr) : Prop := col b = 2 * i + 3 /\ C.H0 b = none
open Classical in
noncomputable def ldC (C : DC) (col : Addr -> Nat) (H : Hp) (i : Nat) : DC := ⟨fun b => C.F b /\ ¬ F3 C col i b, C.hand, fun b => if F3 C col i b \/ (∃ xs, H b = some (.tup xs)) then H b else C.H0 b⟩
def L5 : List Sl -> Bool
 | [] => true
 | .b2 _ :: _ => false
 | .no :: r => L5 r
 | .sh _ :: r => L5 r
 | .ow _ :: r => L5 r
 | .bo _ :: r => L5 r
 | .hd :: r => L5 r
 | .o2 _ :: r => L5 r
 | .di _ _ :: r => L5 r
 | .dm _ _ :: r => L5 r
 | .bd _ :: r => L5 r
 | .ot _ :: r => L5 r
theorem B7p : ∀ {ρ : List Sl} {j : Nat} {d : List (List PyData)}, L5 ρ = true -> ρ[j]? = some (.b2 d) -> False
 | [], _, _, _, e => by cases e
 | s :: r, 0, d, h, e => by cases e; cases h
 | s :: r, j + 1, d, h, e => by
  have e : r[j]? = some (.b2 d) := e
  cases s with
  | b2 _ => cases h
  | _ => exact B7p (show L5 r = true from h) e
section
variable {C : DC} {col col2 : Addr -> Nat} {ρ : List Sl} {σ : L2.St} {P : List Pe} {H H2 : Hp} {i : Nat} {d : PyData}
theorem A0b (h : F3 C col i b \/ ∃ xs, H b = some (.tup xs)) : (ldC C col H i).H0 b = H b := if_pos h
theorem A0c {b : Addr} (h : ¬ (F3 C col i b \/ ∃ xs, H b = some (.tup xs))) : (ldC C col H i).H0 b = C.H0 b := if_neg h
theorem B8.ld_at (r : B8 C col ρ σ P H) {b : Addr} {o : HO} (e : C.H0 b = some o) (n : ∀ q, C.hand = some q -> b ≠ q.1) : (ldC C col H i).H0 b = some o := by
 by_cases z : F3 C col i b \/ ∃ xs, H b = some (.tup xs)
 ·rw [A0b z]; exact r.kq b o e n
 ·rw [A0c z]; exact e
theorem B8.ld_le (r : B8 C col ρ σ P H) {v : V} {x : PyData} (t : ThV (Le C) C.H0 v x) : ThV (Le (ldC C col H i)) (ldC C col H i).H0 v x := t.mv fun b o g e => ⟨⟨(by rw [r.ld_at e g.2]; exact fun q => nomatch q), g.2⟩, r.ld_at e g.2⟩
theorem B8.notT (r : B8 C col ρ σ P H) (tp : ∀ b xs, H b = some (.tup xs) -> col b = 0) {b : Addr} (h1 : col b ≠ 2 * i + 3) (h2 : col b ≠ 0) : ¬ (F3 C col i b \/ ∃ xs, H b = some (.tup xs)) := fun z => by
 rcases z with z | ⟨xs, z⟩
 ·exact h1 z.1
 ·exact h2 (tp b xs z)
open Classical in
theorem B8.lendT (r : B8 C col ρ σ P H) (tp : ∀ b xs, H b = some (.tup xs) -> col b = 0) (ei : ρ[i]? = some (.ot d)) : B8 (ldC C col H i) (fun b => if F3 C col i b then 1 else col b) (ρ.set i (.bd d)) σ P H := by
 have cs : ∀ b, F3 C col i b -> (if F3 C col i b then 1 else col b) = 1 := fun b h => if_pos h
 have cn : ∀ b, ¬ F3 C col i b -> (if F3 C col i b then 1 else col b) = col b := fun b h => if_neg h
 have ns : ∀ b, col b ≠ 2 * i + 3 -> ¬ F3 C col i b := fun b h z => h z.1
 have mv0 : ∀ b o, Z col b -> H b = some o -> Z (fun b => if F3 C col i b then 1 else col b) b /\ H b = some o := fun b o z e => ⟨by show (if F3 C col i b then 1 else col b) = 0; rw [cn b (ns b (by rw [show col b = 0 from z]; omega))]; exact z, e⟩
 have own : ∀ b j, j ≠ i -> col b = 2 * j + 3 -> C.H0 b = none -> (if F3 C col i b then 1 else col b) = 2 * j + 3 /\ (ldC C col H i).H0 b = none := fun b j hj c n => ⟨by rw [cn b (ns b (by omega))]; exact c, by rw [A0c (r.notT tp (by omega) (by omega))]; exact n⟩
 refine ⟨fun b hb => ?_, fun b hb => ?_, fun q hq => ?_, fun j s es => ?_, fun p hp => ?_, fun b o eb nb => ?_, r.hq, fun q hq => ?_, ⟨fun b hb => ?_, fun b xs hb => ?_⟩, by rw [L9]; exact r.len⟩
 ·have c := r.fresh b hb
  show (if F3 C col i b then 1 else col b) = 0
  rw [cn b (ns b (by omega))]; exact c
 ·have hb : (if F3 C col i b then 1 else col b) = 0 := hb
  by_cases z : F3 C col i b
  ·rw [cs b z] at hb; cases hb
  ·rw [cn b z] at hb; exact ⟨r.inF b hb, z⟩
 ·show (if F3 C col i q.1 then 1 else col q.1) = 1
  have := r.hnd q hq
  rw [cn _ (ns _ (by omega))]; exact this
 ·by_cases hj : j = i
  ·subst hj
   rw [Z2] at es
   simp only [if_true] at es
   split at es
   ·cases es
    obtain ⟨v, e1, t⟩ := r.sl j _ ei
    refine ⟨v, e1, t.mv fun b o g e => ?_⟩
    have T : F3 C col j b \/ ∃ xs, H b = some (.tup xs) := g.imp id fun g => g.2
    have nh : ∀ q, C.hand = some q -> b ≠ q.1 := r.notH (by rcases g with g | g <;> (have := g.1; omega))
    exact ⟨⟨(by rw [A0b T, e]; exact fun q => nomatch q), nh⟩, by rw [A0b T]; exact e⟩
   ·cases es
  ·rw [S7 (Ne.symm hj)] at es
   have h := r.sl j s es
   cases s with
   | no => trivial
   | sh d => obtain ⟨v, g1, t⟩ := h; exact ⟨v, g1, t.mv mv0⟩
   | ow ds => obtain ⟨b, us, g1, c, n', g2, t⟩ := h; exact ⟨b, us, g1, (own b j hj c n').1, (own b j hj c n').2, g2, t.mv mv0⟩
   | bo ds => obtain ⟨b, us, g1, c, n', g2, t⟩ := h; exact ⟨b, us, g1, by show (if F3 C col i b then 1 else col b) <= 1; rw [cn b (ns b (by omega))]; exact c, n', g2, t.mv mv0⟩
   | hd => exact h
   | o2 dss => obtain ⟨b, us, g1, c, g2, nd, t⟩ := h; exact ⟨b, us, g1, own b j hj c.1 c.2, g2, nd, t.mv mv0 fun b' o g e => ⟨own b' j hj g.1 g.2, e⟩⟩
   | b2 dss => obtain ⟨b, us, g1, c, g2, t⟩ := h; exact ⟨b, us, g1, ⟨by show (if F3 C col i b then 1 else col b) <= 1; rw [cn b (ns b (by have := c.1; omega))]; exact c.1, c.2⟩, g2, t.mv mv0 fun b' o g e => ⟨⟨by show (if F3 C col i b' then 1 else col b') <= 1; rw [cn b' (ns b' (by have := g.1; omega))]; exact g.1, g.2⟩, e⟩⟩
   | di f ks => obtain ⟨b, g1, c, n', g2⟩ := h; exact ⟨b, g1, (own b j hj c n').1, (own b j hj c n').2, g2⟩
   | dm f ks => obtain ⟨b, g1, c, n', g2⟩ := h; exact ⟨b, g1, (own b j hj c n').1, (own b j hj c n').2, g2⟩
   | bd d => obtain ⟨v, g1, t⟩ := h; exact ⟨v, g1, r.ld_le t⟩
   | ot d => obtain ⟨v, g1, t⟩ := h; exact ⟨v, g1, t.mv fun b o g e => ⟨g.imp (fun g => own b j hj g.1 g.2) fun g => ⟨(mv0 b o g.1 e).1, g.2⟩, e⟩⟩
 ·have h := r.pd p hp
  cases p with
  | v v d => exact ThV.mv mv0 h
  | n b o => exact ⟨by show (if F3 C col i b then 1 else col b) <= 1; rw [cn b (ns b (by have := h.1; omega))]; exact h.1, h.2⟩
  | s vs ds => exact B0.mv mv0 h
  | o c as dss => exact ⟨h.1, h.2.mv mv0 fun b' o g e => ⟨⟨by show (if F3 C col i b' then 1 else col b') = _; rw [cn b' (ns b' (by have := g.1; omega))]; exact g.1, by rw [A0c (r.notT tp (by have := g.1; omega) (by have := g.1; omega))]; exact g.2⟩, e⟩⟩
  | w v d => exact r.ld_le h
 ·by_cases z : F3 C col i b \/ ∃ xs, H b = some (.tup xs)
  ·rw [A0b z] at eb; exact eb
  ·rw [A0c z] at eb; exact r.kq b o eb nb
 ·obtain ⟨ns', p, b, c, u, v, hl, hp, ha⟩ := r.hq0 q hq
  obtain ⟨_, _, _, _, _, _, hl2, _, ha2⟩ := r.hq q hq
  have n1 : ¬ (F3 C col i q.1 \/ ∃ xs, H q.1 = some (.tup xs)) := fun z => by
   rcases z with z | ⟨xs, z⟩
   ·have := r.hnd q hq; have := z.1; omega
   ·rw [ha2] at z; cases z
  have n2 : ¬ (F3 C col i q.2 \/ ∃ xs, H q.2 = some (.tup xs)) := fun z => by
   rcases z with z | ⟨xs, z⟩
   ·rw [z.2] at hl; cases hl
   ·rw [hl2] at z; cases z
  exact ⟨ns', p, b, c, u, v, by rw [A0c n2]; exact hl, hp, by rw [A0c n1]; exact ha⟩
 ·by_cases z : F3 C col i b \/ ∃ xs, H b = some (.tup xs)
  ·rw [A0b z] at hb
   rcases z with z | ⟨xs, z⟩
   ·have := r.fresh b hb; have := z.1; omega
   ·rw [hb] at z; cases z
  ·rw [A0c z] at hb
   exact ⟨r.nf.1 b hb, fun q => z (.inl q)⟩
 ·by_cases z : F3 C col i b \/ ∃ xs, H b = some (.tup xs)
  ·rw [A0b z] at hb
   have c := tp b xs hb
   exact ⟨r.inF b c, ns b (by omega)⟩
  ·rw [A0c z] at hb
   exact ⟨r.nf.2 b xs hb, fun q => by rw [q.2] at hb; cases hb⟩
open Classical in
theorem B8.backT (r : B8 C col ρ σ P H) (tp : ∀ b xs, H b = some (.tup xs) -> col b = 0) (hn : L5 ρ = true) (ei : ρ[i]? = some (.ot d)) (r2 : B8 (ldC C col H i) col2 (ρ.set i (.bd d)) σ P H2) (tp2 : ∀ b xs, H2 b = some (.tup xs) -> col2 b = 0) :
  B8 C (fun b => if F3 C col i b then 2 * i + 3 else col2 b) ρ σ P H2 /\ ∀ b, col2 b = 0 -> (if F3 C col i b then 2 * i + 3 else col2 b) = 0 := by
 have hi : i < ρ.length := by
  rcases P8 i ρ.length with z | z
  ·exact z
  ·rw [U5 z] at ei; cases ei
 have cs : ∀ b, F3 C col i b -> (if F3 C col i b then 2 * i + 3 else col2 b) = 2 * i + 3 := fun b h => if_pos h
 have cn : ∀ b, ¬ F3 C col i b -> (if F3 C col i b then 2 * i + 3 else col2 b) = col2 b := fun b h => if_neg h
 have sh : ∀ b, F3 C col i b -> H b ≠ none := fun b h q => by have := r.fresh b q; have := h.1; omega
 have nhS : ∀ b, F3 C col i b -> ∀ q, C.hand = some q -> b ≠ q.1 := fun b h => r.notH (by have := h.1; omega)
 have keep : ∀ b o, (F3 C col i b \/ ∃ xs, H b = some (.tup xs)) -> (∀ q, C.hand = some q -> b ≠ q.1) -> H b = some o -> H2 b = some o := fun b o z nh e => r2.kq b o (by rw [A0b z]; exact e) nh
 have z0 : ∀ b, col2 b = 0 -> (if F3 C col i b then 2 * i + 3 else col2 b) = 0 := fun b hb => by
  rw [cn b (r2.inF b hb).2]; exact hb
 have mv0 : ∀ b o, Z col2 b -> H2 b = some o -> Z (fun b => if F3 C col i b then 2 * i + 3 else col2 b) b /\ H2 b = some o := fun b o z e => ⟨z0 b z, e⟩
 have new : ∀ b, (ldC C col H i).H0 b = none -> ¬ F3 C col i b /\ C.H0 b = none := fun b hb => by
  by_cases z : F3 C col i b \/ ∃ xs, H b = some (.tup xs)
  ·rw [A0b z] at hb
   rcases z with z | ⟨xs, z⟩
   ·exact absurd hb (sh b z)
   ·rw [hb] at z; cases z
  ·rw [A0c z] at hb
   exact ⟨fun q => z (.inl q), hb⟩
 refine ⟨⟨fun b hb => z0 b (r2.fresh b hb), fun b hb => ?_, fun q hq => ?_, fun j s es => ?_, fun p hp => ?_, fun b o eb nb => r2.kq b o (r.ld_at eb nb) nb, r2.hq, r.hq0, r.nf, r.len⟩, z0⟩
 ·have hb : (if F3 C col i b then 2 * i + 3 else col2 b) = 0 := hb
  by_cases z : F3 C col i b
  ·rw [cs b z] at hb; omega
  ·rw [cn b z] at hb; exact (r2.inF b hb).1
 ·show (if F3 C col i q.1 then 2 * i + 3 else col2 q.1) = 1
  rw [cn _ (fun z => nhS _ z q hq rfl)]; exact r2.hnd q hq
 ·by_cases hj : j = i
  ·subst hj
   rw [ei] at es
   cases es
   obtain ⟨v, e1, t⟩ := r.sl j _ ei
   refine ⟨v, e1, t.mv fun b o g e => ?_⟩
   have T : F3 C col j b \/ ∃ xs, H b = some (.tup xs) := g.imp id fun g => g.2
   have nh : ∀ q, C.hand = some q -> b ≠ q.1 := r.notH (by rcases g with g | g <;> (have := g.1; omega))
   have e2 := keep b o T nh e
   refine ⟨g.imp (fun g => ⟨cs b g, g.2⟩) fun ⟨c, xs, z⟩ => ?_, e2⟩
   have e3 : H2 b = some (.tup xs) := by rw [e] at z; rw [e2]; exact z
   exact ⟨z0 b (tp2 b xs e3), xs, e3⟩
  ·have es2 : (ρ.set i (.bd d))[j]? = some s := by rw [S7 (Ne.symm hj)]; exact es
   have h := r2.sl j s es2
   have hr := r.sl j s es
   cases s with
   | no => trivial
   | sh d => obtain ⟨v, k1, t⟩ := h; exact ⟨v, k1, t.mv mv0⟩
   | ow ds' => obtain ⟨b, us', k1, c, n', k2, t⟩ := h; exact ⟨b, us', k1, by show (if F3 C col i b then 2 * i + 3 else col2 b) = _; rw [cn b (new b n').1]; exact c, (new b n').2, k2, t.mv mv0⟩
   | bo ds' =>
    obtain ⟨b, us', k1, c, n', k2, t⟩ := h
    obtain ⟨b', _, k1', c', _⟩ := hr
    rw [k1] at k1'
    cases k1'
    exact ⟨b, us', k1, by show (if F3 C col i b then 2 * i + 3 else col2 b) <= 1; rw [cn b (fun q => by have := q.1; omega)]; exact c, n', k2, t.mv mv0⟩
   | hd => exact h
   | o2 dss => obtain ⟨b, us', k1, c, k2, nd, t⟩ := h; exact ⟨b, us', k1, ⟨by show (if F3 C col i b then 2 * i + 3 else col2 b) = _; rw [cn b (new b c.2).1]; exact c.1, (new b c.2).2⟩, k2, nd, t.mv mv0 fun b' o g e => ⟨⟨by show (if F3 C col i b' then 2 * i + 3 else col2 b') = _; rw [cn b' (new b' g.2).1]; exact g.1, (new b' g.2).2⟩, e⟩⟩
   | b2 dss => exact (B7p hn es).elim
   | di f ks => obtain ⟨b, k1, c, n', k2⟩ := h; exact ⟨b, k1, by show (if F3 C col i b then 2 * i + 3 else col2 b) = _; rw [cn b (new b n').1]; exact c, (new b n').2, k2⟩
   | dm f ks => obtain ⟨b, k1, c, n', k2⟩ := h; exact ⟨b, k1, by show (if F3 C col i b then 2 * i + 3 else col2 b) = _; rw [cn b (new b n').1]; exact c, (new b n').2, k2⟩
   | bd d => exact hr
   | ot d => obtain ⟨v, k1, t⟩ := h; exact ⟨v, k1, t.mv fun b o g e => ⟨g.imp (fun g => ⟨by show (if F3 C col i b then 2 * i + 3 else col2 b) = _; rw [cn b (new b g.2).1]; exact g.1, (new b g.2).2⟩) fun g => ⟨z0 b g.1, g.2⟩, e⟩⟩
 ·have h := r2.pd p hp
  have hr := r.pd p hp
  cases p with
  | v v d => exact ThV.mv mv0 h
  | n b o => exact ⟨by show (if F3 C col i b then 2 * i + 3 else col2 b) <= 1; rw [cn b (fun q => by have := q.1; have := hr.1; omega)]; exact h.1, h.2⟩
  | s vs ds => exact B0.mv mv0 h
  | o c as dss => exact ⟨h.1, h.2.mv mv0 fun b' o g e => ⟨⟨by show (if F3 C col i b' then 2 * i + 3 else col2 b') = _; rw [cn b' (new b' g.2).1]; exact g.1, (new b' g.2).2⟩, e⟩⟩
  | w v d => exact hr
end
end My
namespace My
open PySem L2
section
variable {X : Cx} {C : DC} {e : Expr} {st : Stmt} {t te : DE} {u : DA} {i : Nat}
theorem C4p {ρ : List Sl} {s s' : Sl} (h : ρ[i]? = some s) : (ρ.set i s').set i s = ρ := by
 rw [List.set_set]
 refine B33 fun k => ?_
 rw [Z2]
 split
 ·rename_i e
  subst e
  rw [h]
  split
  ·rfl
  ·rename_i z
   rw [U5 (by omega)] at h; cases h
 ·rfl
def A6f (i : Nat) (t : DE)  (ρ : List Sl) (Q : PyData -> List Sl -> Prop) : Prop := match ρ[i]? with
 | some (.ot d) => L5 ρ = true /\ t (ρ.set i (.bd d)) fun d' ρ' => ρ' = ρ.set i (.bd d) /\ Q d' ρ
 | _ => t ρ Q
def i9 : List Md -> List PyData -> Bool
 | [], [] => true
 | .sh :: ms, d :: ds => U3 d && i9 ms ds
 | .bo :: ms, .list es :: ds => X1 es && i9 ms ds
 | .bd :: ms, _ :: ds => i9 ms ds
 | .hd :: ms, _ :: ds => i9 ms ds
 | _, _ => false
def A6g (i : Nat) (ms : List Md) (sp : DSp) (u : DA)  (D : L7) (ρ : List Sl) : Prop := u ρ fun as ρ' => bnd (Q9 ρ' ms as) fun ds => i9 ms ds = true /\ sp ds fun d => D.nx (ρ'.set i (.ot d))
open Classical in
mutual
def C4q : PyData -> PyData
 | .tuple xs => .tuple (A6h xs)
 | .list _ => .list []
 | .none => .none
 | .bool b => .bool b
 | .int i => .int i
 | .str s => .str s
 | .dict d => .dict d
def A6h : List PyData -> List PyData
 | [] => []
 | d :: ds => C4q d :: A6h ds
end
end
end My
namespace My
open PySem L2
section
variable {X : Cx} {C : DC} {e : Expr} {st : Stmt} {t te : DE} {u : DA} {i : Nat}
def A6i (i : Nat) (c : Int) (te : DE) (D : L7) (ρ : List Sl) : Prop := match ρ[i]? with
 | some (.ot (.tuple xs)) => L5 ρ = true /\ match atI xs c with
  | some (.list ds) => (X1 ds = true /\ ds.length <= 100000) /\ te (ρ.set i (.bd (.tuple xs))) fun d' ρ' => ρ' = ρ.set i (.bd (.tuple xs)) /\ U3 d' = true /\ ∀ xs', A6h xs' = A6h xs -> D.nx (ρ.set i (.ot (.tuple xs')))
  | _ => False
 | _ => False
open Classical in
def A6j (i : Nat) (c : Int) (te : DE) (D : L7) (ρ : List Sl) : Prop := match ρ[i]? with
 | some (.ot (.tuple xs)) => L5 ρ = true /\ match atI xs c with
  | some (.list ds) => ds.length <= 100000 /\ te (ρ.set i (.bd (.tuple xs))) fun d' ρ' => ρ' = ρ.set i (.bd (.tuple xs)) /\ D.nx (ρ.set i .no)
  | _ => False
 | _ => False
open Classical in
def A6k (i : Nat) (c : Int) (D : L7) (ρ : List Sl) : Prop := match ρ[i]? with
 | some (.ot (.tuple xs)) => match atI xs c with
  | some (.list _) => ∀ xs', A6h xs' = A6h xs -> D.nx (ρ.set i (.ot (.tuple xs')))
  | _ => False
 | _ => False
end
end My
namespace L2
open PySem PySem.Spec PyProof.Rows
section
variable {X : Cx}
end
end L2
namespace My
open PySem L2
section
variable {X : Cx} {C : DC} {a b : Expr} {te : DE} {pos : Pos} {i : Nat}
def A6l (te : DE) (i : Nat) (ρ : List Sl) (Q : PyData -> List Sl -> Prop) : Prop := te ρ fun d ρ1 => bnd (O3 ρ1 i) fun a => bnd (M5 a) fun xs => (PyData.canLayAll0 xs = true /\ d.canLay0 = true /\ d.depth <= 60) /\ Q (.bool (!(xs.any fun z => PyData.eqv z d))) ρ1
end
end My
namespace My
open PySem L2
section
variable {X : Cx} {C : DC} {e a b : Expr} {t : DE} {tt : DT} {i : Nat} {pos : Pos}
def A6m (i : Nat) (tt : DT)  (ρ : List Sl) (Q : Bool -> List Sl -> Prop) : Prop := match ρ[i]? with
 | some (.ot d) => L5 ρ = true /\ tt (ρ.set i (.bd d)) fun b ρ' => ρ' = ρ.set i (.bd d) /\ Q b ρ
 | _ => tt ρ Q
end
end My
namespace My
open PySem L2
section
variable {X : Cx} {C : DC} {e : Expr} {u : DA} {i : Nat}
def arS (ρ : List Sl) (i : Nat) (m : Md) (a : Ar) : Option PyData := match m, a with
 | .sh, .s j => if j = i then (match ρ[i]? with
  | some (.ot d) => some d
  | _ => none) else none
 | m, a => arD ρ m a
def A1r (ρ : List Sl) (i : Nat) : List Md -> List Ar -> Option (List PyData)
 | [], [] => some []
 | m :: ms, a :: as => (arS ρ i m a).bind fun d => (A1r ρ i ms as).map (d :: ·)
 | _, _ => none
def A6n (i : Nat) (ms : List Md) (sp : DSp) (u : DA)  (ρ : List Sl) (Q : PyData -> List Sl -> Prop) : Prop := u ρ fun as ρ' => bnd (A1r ρ' i ms as) fun ds => sp ds fun d => U3 d = true /\ Q d ρ'
end
end My
namespace My
open PySem L2
section
variable {C : DC} {col : Addr -> Nat} {ρ : List Sl} {σ : St} {P : List Pe} {H H' : Hp} {p : Addr}
end
section
variable {X : Cx} {C : DC} {st : Stmt} {e a b : Expr} {te tk : DE} {pos : Pos}
theorem B0.lenD {F : Addr -> Prop} {H : Hp} : ∀ {vs : List V} {ds : List PyData}, B0 F H vs ds -> vs.length = ds.length
 | _, _, .nil => rfl
 | _, _, .cons _ t => by rw [M1, M1, B0.lenD t]
end
section
variable {X : Cx} {C : DC} {st : Stmt}
end
end My
namespace My
open PySem L2
section
variable {X : Cx} {C : DC} {st : Stmt} {i j : Nat}
theorem B8.slotS {col : Addr -> Nat} {ρ : List Sl} {σ : L2.St} {P : List Pe} {H : Hp} {s : Sl} (r : B8 C col ρ σ P H) (h : SlR C col H i (σ[i]?).join s) : B8 C col (ρ.set i s) σ P H := by
 refine { r with sl := fun k s' e => ?_, len := by rw [L9]; exact r.len }
 by_cases c : i = k
 ·subst c
  by_cases l : i < ρ.length
  ·rw [B3w l] at e
   cases e
   exact h
  ·rw [U5 (by rw [L9]; lia)] at e
   cases e
 ·rw [S7 c] at e
  exact r.sl k s' e
def A6o (i : Nat) (D : L7) (ρ : List Sl) : Prop := match ρ[i]? with
 | some (.ot (.list _)) => D.nx (ρ.set i (.ot (.list [])))
 | _ => False
def A6p (i j : Nat) (D : L7) (ρ : List Sl) : Prop := match ρ[i]? with
 | some (.ot (.list ds)) => (i ≠ j /\ j < ρ.length) /\ (∀ d ∈ ds, ∃ es, d = .list es) /\ D.nx ((ρ.set j .no).set i (.ot (.list (ds.map fun _ => .list []))))
 | _ => False
end
end My
namespace My
open PySem L2
def oiV : V -> Bool
 | .non => true
 | .int _ => true
 | _ => false
def A8u : V -> V -> Bool
 | .int _, .non => true
 | .int l, .int y => decide (y < l)
 | _, _ => false
def oiD : PyData -> Bool
 | .none => true
 | .int _ => true
 | _ => false
def B0c : PyData -> PyData -> Bool
 | .int _, .none => true
 | .int l, .int y => decide (y < l)
 | _, _ => false
def B26 : Sp := fun vs H Q _ => ∃ (a : Addr) (us : List V) (p : Nat) (vl u : V), vs = [.ref a, .int ((p : Nat) : Int), vl] /\ H a = some (.lst us) /\ us[p]? = some u /\ oiV u = true /\ oiV vl = true /\ if A8u vl u = true then Q (.bl true) (upd H a (.lst (us.set p vl))) else Q (.bl false) H
theorem B7q {F : Addr -> Prop} {H : Hp} {v : V} {d : PyData} (t : ThV F H v d) (h : oiD d = true) : oiV v = true := by
 cases t <;> first | rfl | cases h
theorem C4r {F G : Addr -> Prop} {H H' : Hp} {v u : V} {d x : PyData} (t : ThV F H v d) (t' : ThV G H' u x) (h : oiD d = true) (h' : oiD x = true) : A8u v u = B0c d x := by
 cases t with
 | int i => cases t' <;> first | rfl | (exfalso; cases h')
 | non => rfl
 | _ => cases h
theorem C4s {C : DC} {col : Addr -> Nat} {H : Hp} {i : Nat} (tp : ∀ b xs, H b = some (.tup xs) -> col b = 0) {as : List Addr} {dss : List (List PyData)} (t : Rws (fun b => col b = 2 * i + 3 /\ C.H0 b = none) (Z col) H as dss) (hf : ∀ ds ∈ dss, X1 ds = true) : B0 (Ow C col H i) H (as.map V.ref) (lls dss) := by
 induction t with
 | nil => exact .nil
 | cons g e y _ ih =>
  refine .cons (.lst (.inl g) e (B0.flat (fun b xs z => .inr ⟨tp b xs z, xs, z⟩) y (hf _ B4))) (ih fun ds h => hf ds (A9 _ h))
theorem C4t {G G' F F' : Addr -> Prop} {H H' : Hp} (g : ∀ b o, G b -> H b = some o -> G' b /\ H' b = some o) (f : ∀ b xs, H b = some (.tup xs) -> F' b /\ H' b = some (.tup xs)) {as : List Addr} {dss : List (List PyData)} (t : Rws G F H as dss) (hf : ∀ ds ∈ dss, X1 ds = true) : Rws G' F' H' as dss := by
 induction t with
 | nil => exact .nil
 | cons x e y _ ih =>
  refine .cons (g _ _ x e).1 (g _ _ x e).2 (B0.mv (F := fun b => ∃ xs, H b = some (.tup xs)) (fun b o ⟨xs, z⟩ e => ⟨(f b xs z).1, by rw [z] at e; cases e; exact (f b xs z).2⟩) (B0.flat (fun b xs z => ⟨xs, z⟩) y (hf _ B4))) (ih fun ds h => hf ds (A9 _ h))
theorem B7r : ∀ {ρ : List Sl} {i : Nat} {d : PyData}, L5 ρ = true -> L5 (ρ.set i (.ot d)) = true
 | [], _, _, _ => rfl
 | s :: r, 0, d, h => by
  show L5 (Sl.ot d :: r) = true
  cases s <;> first | exact h | cases h
 | s :: r, i + 1, d, h => by
  show L5 (s :: r.set i (.ot d)) = true
  cases s <;> first | exact B7r (ρ := r) h | cases h
section
variable {X : Cx} {C : DC} {e : Expr} {te tp tl : DE} {i : Nat}
def B0d (i : Nat) (te tp tl : DE) (ρ : List Sl) (Q : PyData -> List Sl -> Prop) : Prop := match ρ[i]? with
 | some (.o2 dss) => (L5 ρ = true /\ ∀ ds ∈ dss, X1 ds = true) /\ te (ρ.set i (.bd (.list (lls dss)))) fun de ρ1 => ρ1 = ρ.set i (.bd (.list (lls dss))) /\ ∃ (c : Int) (j : Nat) (ds : List PyData), de = .int c /\ ixN dss.length c = some j /\ dss[j]? = some ds /\
  tp (ρ.set i (.bd (.list (lls dss)))) fun dp ρ2 => ρ2 = ρ.set i (.bd (.list (lls dss))) /\ ∃ (p : Nat) (x : PyData), dp = .int ((p : Nat) : Int) /\ ds[p]? = some x /\ oiD x = true /\
  tl (ρ.set i (.bd (.list (lls dss)))) fun dl ρ3 => ρ3 = ρ.set i (.bd (.list (lls dss))) /\ oiD dl = true /\ if B0c dl x = true then Q (.bool true) (ρ.set i (.o2 (dss.set j (ds.set p dl)))) else Q (.bool false) ρ
 | _ => False
open Classical in
theorem B27 {K : A4} {E : XK} (h : ∀ C, PE X e (B1o B26 [] E (Q6 (tOp (rIx K) (N5 i) (eOf C te)) (Q6 (eOf C tp) (Q6 (eOf C tl) U6))))) : PE X e (eOf C (B0d i te tp tl)) := fun pins s σ H Q I q => by
 obtain ⟨ρ, P, Qd, ⟨col0, r0⟩, ht, k⟩ := q
 unfold B0d at ht
 split at ht
 ·rename_i dss ei
  obtain ⟨⟨hn, hf⟩, ht⟩ := ht
  obtain ⟨col, r, tpl⟩ := r0.norm
  obtain ⟨a, as, e1, c0, ea, nd, rs⟩ := r.sl i _ ei
  have hi : i < ρ.length := by
   rcases P8 i ρ.length with z | z
   ·exact z
   ·rw [U5 z] at ei; cases ei
  have r1 : B8 C col (ρ.set i (.ot (.list (lls dss)))) σ P H := r.slotS (i := i) (s := .ot (.list (lls dss))) ⟨.ref a, e1, .lst (.inl c0) ea (C4s tpl rs hf)⟩
  have ei1 : (ρ.set i (.ot (.list (lls dss))))[i]? = some (.ot (.list (lls dss))) := B3w hi
  have hn1 := B7r (i := i) (d := .list (lls dss)) hn
  have sb : (ρ.set i (.ot (.list (lls dss)))).set i (.bd (.list (lls dss))) = ρ.set i (.bd (.list (lls dss))) := List.set_set ..
  have lend := r1.lendT tpl ei1
  rw [sb] at lend
  have kp : ∀ {col' : Addr -> Nat} {P' : List Pe} {H' : Hp}, B8 (ldC C col H i) col' (ρ.set i (.bd (.list (lls dss)))) σ P' H' -> ∀ b o, (F3 C col i b \/ ∃ xs, H b = some (.tup xs)) -> H b = some o -> H' b = some o := fun {col' P' H'} r' b o z e => r'.kq b o (by rw [A0b z]; exact e) (r.notH (by
   rcases z with z | ⟨xs, z⟩
   ·have := z.1; omega
   ·rw [tpl b xs z]; decide))
  refine h (ldC C col H i) pins s σ H Q I ⟨.ref a, L0 e1, ρ.set i (.bd (.list (lls dss))), P, _, ⟨_, lend⟩, ht, fun ve de ρ1 H1 R1 h1 => ?_⟩
  obtain ⟨rfl, c, j, ds, rfl, hj, hd, h1⟩ := h1
  obtain ⟨colx, rx⟩ := R1
  have tve := rx.pd _ B4
  obtain ⟨b, us, hb, ob, eb, tu⟩ := rs.at hd
  have ae : atI (as.map V.ref) c = some (.ref b) := by
   unfold atI
   rw [E4, rs.len, hj]
   show (as.map V.ref)[j]? = _
   rw [N1, hb]; rfl
  have vce : ve = .int c := by cases tve; rfl
  subst vce
  refine .inl ⟨a, as.map V.ref, c, .ref b, rfl, rfl, SqL.of (kp rx a _ (.inl c0) ea), ae, ?_⟩
  refine ⟨_, _, _, ⟨colx, rx⟩, h1, fun vp dp ρ2 H2 R2 h2 => ?_⟩
  obtain ⟨rfl, p, x, rfl, hx, ox, h2⟩ := h2
  refine ⟨_, _, _, R2, h2, fun vl dl ρ3 H3 R3 h3 => ?_⟩
  obtain ⟨rfl, ol, h3⟩ := h3
  obtain ⟨coly, ry⟩ := R3
  obtain ⟨col2, r2, tp2⟩ := ry.norm
  have tvl := r2.pd _ B4
  have tvp := r2.pd _ (A9 _ B4)
  have vpe : vp = .int ((p : Nat) : Int) := by cases tvp; rfl
  subst vpe
  obtain ⟨u, hu, tux⟩ : ∃ u, us[p]? = some u /\ ThV (Z col) H u x := by
   have hl : p < us.length := by
    have : p < ds.length := by
     rcases P8 p ds.length with z | z
     ·exact z
     ·rw [U5 z] at hx; cases hx
    rw [tu.len]; exact this
   obtain ⟨d', e', t'⟩ := tu.get (J5 hl)
   rw [hx] at e'
   cases e'
   exact ⟨_, J5 hl, t'⟩
  obtain ⟨r3, z0⟩ := r1.backT tpl hn1 ei1 (by rw [sb]; exact (r2.sub fun _ h => A9 _ (A9 _ (A9 _ h)))) tp2
  have kp2 := kp r2
  have tk : ∀ b xs, H b = some (.tup xs) -> Z (fun b => if F3 C col i b then 2 * i + 3 else col2 b) b /\ H3 b = some (.tup xs) := fun b xs z => by
   have e3 := kp2 b _ (.inr ⟨xs, z⟩) z
   exact ⟨z0 b (tp2 b xs e3), e3⟩
  have ok : ∀ b o, (col b = 2 * i + 3 /\ C.H0 b = none) -> H b = some o -> ((if F3 C col i b then 2 * i + 3 else col2 b) = 2 * i + 3 /\ C.H0 b = none) /\ H3 b = some o := fun b o z e => ⟨⟨if_pos z, z.2⟩, kp2 b o (.inl z) e⟩
  have r4 := r3.slotS (i := i) (s := .o2 dss) ⟨a, as, e1, (ok a _ c0 ea).1, (ok a _ c0 ea).2, nd, C4t ok tk rs hf⟩
  rw [C4p ei] at r4
  have hl := C4r tvl tux ol ox
  have eb3 := (ok b _ ob eb).2
  refine ⟨b, us, p, vl, u, rfl, eb3, hu, B7q tux ox, B7q tvl ol, ?_⟩
  cases hq : B0c dl x with
  | false =>
   rw [hl, hq]
   rw [hq] at h3
   exact k _ _ _ _ ⟨_, r4.push (.bl false)⟩ h3
  | true =>
   rw [hl, hq]
   rw [hq] at h3
   have tf : B0 (Z fun b => if F3 C col i b then 2 * i + 3 else col2 b) H3 us ds := B0.mv (F := fun b => ∃ xs, H b = some (.tup xs)) (fun b o ⟨xs, z⟩ e => ⟨(tk b xs z).1, by rw [z] at e; cases e; exact (tk b xs z).2⟩) (B0.flat (fun b xs z => ⟨xs, z⟩) tu (hf _ (N3 hd)))
   have r5 := r4.write2 ei e1 (ok a _ c0 ea).2 hb (B0.set (ThV.mv (fun b o z e => ⟨z0 b z, e⟩) tvl) p tf)
   exact k _ _ _ _ ⟨_, r5.push (.bl true)⟩ h3
 ·exact ht.elim
def A31 (i : Nat) (f : DP) (ρ : List Sl) (Q : PyData -> List Sl -> Prop) : Prop := bnd (slot2 ρ i) fun dss => match f ρ with
 | some (.int k) => bnd (atI dss k) fun ds => Q (.int ((ds.length : Nat) : Int)) ρ
 | _ => False
theorem C4u {f : DP} {K : A4} (h : PE X e (tCB (A8p K) (Q6 (tOp (rIx K) (N5 i) (pOf C f)) U6))) : PE X e (eOf C (A31 i f)) := PE.wk h fun σ H Q z => el3 z fun ρ P Qd R ht k => R.elim fun col r => by
 obtain ⟨dss, h2, ht⟩ := G9 ht
 split at ht
 ·rename_i k1 hf
  obtain ⟨ds, hd, q⟩ := G9 ht
  obtain ⟨a, as, e1, n, e2, t⟩ := r.slot2 h2
  obtain ⟨j, b, vs, hj, ej, ea, ed, g, eb, tv⟩ := B6x t hd
  refine ⟨.ref a, e1, ρ, P, col, _, r, hf, fun v tv1 => ?_⟩
  cases tv1
  refine .inl ⟨a, _, k1, .ref b, rfl, rfl, SqL.of e2, B6w ea, b, vs, rfl, .inl (SqL.of eb), ?_⟩
  rw [tv.len]
  exact k _ _ _ _ ⟨col, r.push (.int _)⟩ q
 ·exact ht.elim
end
end My
namespace My
open PySem L2
theorem K4 {us : List Value} {n : Nat} (h : us.length = n + 1) : ∃ a r, us = a :: r /\ r.length = n := by
 cases us with
 | nil => cases h
 | cons a r => exact ⟨a, r, rfl, Nat.succ.inj h⟩
theorem D0x {us : List Value} (h : us.length = 0) : us = [] := by
 cases A13 h
 exact rfl
theorem n6 {us : List Value} (h : us.length = 1) : ∃ a0, us = [a0] := by
 obtain ⟨a0, u0, rfl, h0⟩ := K4 h
 cases A13 h0
 exact ⟨a0, rfl⟩
theorem U4 {us : List Value} (h : us.length = 2) : ∃ a0 a1, us = [a0, a1] := by
 obtain ⟨a0, u0, rfl, h0⟩ := K4 h
 obtain ⟨a1, u1, rfl, h1⟩ := K4 h0
 cases A13 h1
 exact ⟨a0, a1, rfl⟩
theorem T4 {us : List Value} (h : us.length = 3) : ∃ a0 a1 a2, us = [a0, a1, a2] := by
 obtain ⟨a0, u0, rfl, h0⟩ := K4 h
 obtain ⟨a1, u1, rfl, h1⟩ := K4 h0
 obtain ⟨a2, u2, rfl, h2⟩ := K4 h1
 cases A13 h2
 exact ⟨a0, a1, a2, rfl⟩
theorem A32 {us : List Value} (h : us.length = 4) : ∃ a0 a1 a2 a3, us = [a0, a1, a2, a3] := by
 obtain ⟨a0, u0, rfl, h0⟩ := K4 h
 obtain ⟨a1, u1, rfl, h1⟩ := K4 h0
 obtain ⟨a2, u2, rfl, h2⟩ := K4 h1
 obtain ⟨a3, u3, rfl, h3⟩ := K4 h2
 cases A13 h3
 exact ⟨a0, a1, a2, a3, rfl⟩
theorem A8v {us : List Value} (h : us.length = 5) : ∃ a0 a1 a2 a3 a4, us = [a0, a1, a2, a3, a4] := by
 obtain ⟨a0, u0, rfl, h0⟩ := K4 h
 obtain ⟨a1, u1, rfl, h1⟩ := K4 h0
 obtain ⟨a2, u2, rfl, h2⟩ := K4 h1
 obtain ⟨a3, u3, rfl, h3⟩ := K4 h2
 obtain ⟨a4, u4, rfl, h4⟩ := K4 h3
 cases A13 h4
 exact ⟨a0, a1, a2, a3, a4, rfl⟩
theorem C4v {us : List Value} (h : us.length = 6) : ∃ a0 a1 a2 a3 a4 a5, us = [a0, a1, a2, a3, a4, a5] := by
 obtain ⟨a0, u0, rfl, h0⟩ := K4 h
 obtain ⟨a1, u1, rfl, h1⟩ := K4 h0
 obtain ⟨a2, u2, rfl, h2⟩ := K4 h1
 obtain ⟨a3, u3, rfl, h3⟩ := K4 h2
 obtain ⟨a4, u4, rfl, h4⟩ := K4 h3
 obtain ⟨a5, u5, rfl, h5⟩ := K4 h4
 cases A13 h5
 exact ⟨a0, a1, a2, a3, a4, a5, rfl⟩
theorem D0y {us : List Value} (h : us.length = 7) : ∃ a0 a1 a2 a3 a4 a5 a6, us = [a0, a1, a2, a3, a4, a5, a6] := by
 obtain ⟨a0, u0, rfl, h0⟩ := K4 h
 obtain ⟨a1, u1, rfl, h1⟩ := K4 h0
 obtain ⟨a2, u2, rfl, h2⟩ := K4 h1
 obtain ⟨a3, u3, rfl, h3⟩ := K4 h2
 obtain ⟨a4, u4, rfl, h4⟩ := K4 h3
 obtain ⟨a5, u5, rfl, h5⟩ := K4 h4
 obtain ⟨a6, u6, rfl, h6⟩ := K4 h5
 cases A13 h6
 exact ⟨a0, a1, a2, a3, a4, a5, a6, rfl⟩
theorem D0z {us : List Value} (h : us.length = 8) : ∃ a0 a1 a2 a3 a4 a5 a6 a7, us = [a0, a1, a2, a3, a4, a5, a6, a7] := by
 obtain ⟨a0, u0, rfl, h0⟩ := K4 h
 obtain ⟨a1, u1, rfl, h1⟩ := K4 h0
 obtain ⟨a2, u2, rfl, h2⟩ := K4 h1
 obtain ⟨a3, u3, rfl, h3⟩ := K4 h2
 obtain ⟨a4, u4, rfl, h4⟩ := K4 h3
 obtain ⟨a5, u5, rfl, h5⟩ := K4 h4
 obtain ⟨a6, u6, rfl, h6⟩ := K4 h5
 obtain ⟨a7, u7, rfl, h7⟩ := K4 h6
 cases A13 h7
 exact ⟨a0, a1, a2, a3, a4, a5, a6, a7, rfl⟩
def top (i : Nat) : Stmt := PySem.Challenge.pw_trudge_k84_spring_lids_read.main.body.getD i (.Pass ⟨0, 0, 0, 0⟩)
abbrev A6q : Stmt := top 1
abbrev A6r : Stmt := top 2
abbrev A6s : Stmt := top 3
abbrev A6t : Stmt := top 4
abbrev A6u : Stmt := top 9
abbrev A6v : Stmt := top 10
abbrev A6w : Stmt := top 11
abbrev A6x : Stmt := top 12
abbrev A6y : Stmt := top 13
abbrev A6z : Stmt := top 23
abbrev A33 : Stmt := top 24
abbrev A34 : Stmt := top 26
abbrev A35 : Stmt := top 27
abbrev A60 : Stmt := top 28
abbrev A61 : Stmt := top 29
abbrev A62 : Stmt := top 35
abbrev A63 : Stmt := top 36
abbrev A64 : Stmt := top 37
abbrev A65 : Stmt := top 41
abbrev A66 : Stmt := top 42
abbrev A67 : Stmt := top 43
abbrev A68 : Stmt := top 45
abbrev A69 : Stmt := top 46
abbrev A36 : Stmt := top 47
abbrev A37 : Stmt := top 48
abbrev A7a : Stmt := top 49
abbrev A7b : Stmt := top 50
abbrev A38 : Stmt := top 51
abbrev A7c : Stmt := top 52
abbrev A39 : Stmt := top 54
abbrev A4a : Stmt := top 55
abbrev A7d : Stmt := top 56
abbrev A7e : Stmt := top 60
abbrev A4b : Stmt := top 61
abbrev A7f : Stmt := top 62
abbrev A7g : Stmt := top 63
abbrev A7h : Stmt := top 64
abbrev A1s : Stmt := top 65
abbrev A7i : Stmt := top 67
abbrev A7j : Stmt := top 68
abbrev A7k : Stmt := top 69
abbrev A7l : Stmt := top 70
abbrev A7m : Stmt := top 72
abbrev A7n : Stmt := top 73
abbrev A7o : Stmt := top 74
abbrev A4c : Stmt := top 75
abbrev A7p : Stmt := top 76
abbrev A7q : Stmt := top 77
abbrev A7r : Stmt := top 78
abbrev A4d : Stmt := top 79
abbrev A7s : Stmt := top 80
abbrev A4e : Stmt := top 81
abbrev A7t : Stmt := top 82
abbrev A7u : Stmt := top 83
abbrev A4f : Stmt := top 84
abbrev A4g : Stmt := top 85
abbrev A0d : Stmt := top 86
abbrev Y6 : Stmt := top 87
set_option genInjectivity false in
set_option genSizeOf false in
structure Txt (K : A4) (mg : Str -> Option Value) where
 n_abs : mg "abs" = none
 n_all : mg "all" = none
 n_any : mg "any" = none
 n_bool : mg "bool" = none
 n_enumerate : mg "enumerate" = none
 n_int : mg "int" = none
 n_isinstance : mg "isinstance" = none
 n_len : mg "len" = none
 n_list : mg "list" = none
 n_max : mg "max" = none
 n_min : mg "min" = none
 n_range : mg "range" = none
 n_repr : mg "repr" = none
 n_reversed : mg "reversed" = none
 n_tuple : mg "tuple" = none
 n_zip : mg "zip" = none
 t_LEAST : Tok
 mg_LEAST : mg "LEAST" = some (.int 0 t_LEAST)
 t_GAIN : Tok
 mg_GAIN : mg "GAIN" = some (.int 1 t_GAIN)
 t_TOP : Tok
 mg_TOP : mg "TOP" = some (.int 2 t_TOP)
 t_MANY : Tok
 mg_MANY : mg "MANY" = some (.int 0 t_MANY)
 t_WAYS : Tok
 mg_WAYS : mg "WAYS" = some (.int 1 t_WAYS)
 t_START : Tok
 mg_START : mg "START" = some (.int 0 t_START)
 t_END : Tok
 mg_END : mg "END" = some (.int 1 t_END)
 t_CHANGE : Tok
 mg_CHANGE : mg "CHANGE" = some (.int 2 t_CHANGE)
 t_TABLE : Tok
 mg_TABLE : mg "TABLE" = some (.int 0 t_TABLE)
 t_RISEN : Tok
 mg_RISEN : mg "RISEN" = some (.int 1 t_RISEN)
 t_FROM : Tok
 mg_FROM : mg "FROM" = some (.int 0 t_FROM)
 t_BY : Tok
 mg_BY : mg "BY" = some (.int 1 t_BY)
 t_NUMBERS : Tok
 mg_NUMBERS : mg "NUMBERS" = some (.int 0 t_NUMBERS)
 t_TIMES : Tok
 mg_TIMES : mg "TIMES" = some (.int 1 t_TIMES)
 t_PLACE : Tok
 mg_PLACE : mg "PLACE" = some (.int 0 t_PLACE)
 t_GIFT : Tok
 mg_GIFT : mg "GIFT" = some (.int 1 t_GIFT)
 a_is_whole : Addr
 d_is_whole : FuncData
 F_is_whole : Fun K "is_whole" "is_whole" A6q a_is_whole d_is_whole
 mg_is_whole : mg "is_whole" = some (.ref a_is_whole)
 kp_is_whole : B5 K (.ref a_is_whole) = true
 a_is_level : Addr
 d_is_level : FuncData
 F_is_level : Fun K "is_level" "is_level" A6r a_is_level d_is_level
 mg_is_level : mg "is_level" = some (.ref a_is_level)
 kp_is_level : B5 K (.ref a_is_level) = true
 a_stepped : Addr
 d_stepped : FuncData
 F_stepped : Fun K "stepped" "stepped" A6s a_stepped d_stepped
 mg_stepped : mg "stepped" = some (.ref a_stepped)
 kp_stepped : B5 K (.ref a_stepped) = true
 a_levels_along : Addr
 d_levels_along : FuncData
 F_levels_along : Fun K "levels_along" "levels_along" A6t a_levels_along d_levels_along
 mg_levels_along : mg "levels_along" = some (.ref a_levels_along)
 kp_levels_along : B5 K (.ref a_levels_along) = true
 a_effect_of_none : Addr
 d_effect_of_none : FuncData
 F_effect_of_none : Fun K "effect_of_none" "effect_of_none" A6u a_effect_of_none d_effect_of_none
 mg_effect_of_none : mg "effect_of_none" = some (.ref a_effect_of_none)
 kp_effect_of_none : B5 K (.ref a_effect_of_none) = true
 a_effect_of_one : Addr
 d_effect_of_one : FuncData
 F_effect_of_one : Fun K "effect_of_one" "effect_of_one" A6v a_effect_of_one d_effect_of_one
 mg_effect_of_one : mg "effect_of_one" = some (.ref a_effect_of_one)
 kp_effect_of_one : B5 K (.ref a_effect_of_one) = true
 a_effect_of : Addr
 d_effect_of : FuncData
 F_effect_of : Fun K "effect_of" "effect_of" A6w a_effect_of d_effect_of
 mg_effect_of : mg "effect_of" = some (.ref a_effect_of)
 kp_effect_of : B5 K (.ref a_effect_of) = true
 a_passed : Addr
 d_passed : FuncData
 F_passed : Fun K "passed" "passed" A6x a_passed d_passed
 mg_passed : mg "passed" = some (.ref a_passed)
 kp_passed : B5 K (.ref a_passed) = true
 a_joined : Addr
 d_joined : FuncData
 F_joined : Fun K "joined" "joined" A6y a_joined d_joined
 mg_joined : mg "joined" = some (.ref a_joined)
 kp_joined : B5 K (.ref a_joined) = true
 a_is_place : Addr
 d_is_place : FuncData
 F_is_place : Fun K "is_place" "is_place" A6z a_is_place d_is_place
 mg_is_place : mg "is_place" = some (.ref a_is_place)
 kp_is_place : B5 K (.ref a_is_place) = true
 a_changes_of : Addr
 d_changes_of : FuncData
 F_changes_of : Fun K "changes_of" "changes_of" A33 a_changes_of d_changes_of
 mg_changes_of : mg "changes_of" = some (.ref a_changes_of)
 kp_changes_of : B5 K (.ref a_changes_of) = true
 a_is_table : Addr
 d_is_table : FuncData
 F_is_table : Fun K "is_table" "is_table" A34 a_is_table d_is_table
 mg_is_table : mg "is_table" = some (.ref a_is_table)
 kp_is_table : B5 K (.ref a_is_table) = true
 a_are_tables : Addr
 d_are_tables : FuncData
 F_are_tables : Fun K "are_tables" "are_tables" A35 a_are_tables d_are_tables
 mg_are_tables : mg "are_tables" = some (.ref a_are_tables)
 kp_are_tables : B5 K (.ref a_are_tables) = true
 a_is_more : Addr
 d_is_more : FuncData
 F_is_more : Fun K "is_more" "is_more" A60 a_is_more d_is_more
 mg_is_more : mg "is_more" = some (.ref a_is_more)
 kp_is_more : B5 K (.ref a_is_more) = true
 a_behind_way : Addr
 d_behind_way : FuncData
 F_behind_way : Fun K "behind_way" "behind_way" A61 a_behind_way d_behind_way
 mg_behind_way : mg "behind_way" = some (.ref a_behind_way)
 kp_behind_way : B5 K (.ref a_behind_way) = true
 a_first_row : Addr
 d_first_row : FuncData
 F_first_row : Fun K "first_row" "first_row" A62 a_first_row d_first_row
 mg_first_row : mg "first_row" = some (.ref a_first_row)
 kp_first_row : B5 K (.ref a_first_row) = true
 a_row_behind : Addr
 d_row_behind : FuncData
 F_row_behind : Fun K "row_behind" "row_behind" A63 a_row_behind d_row_behind
 mg_row_behind : mg "row_behind" = some (.ref a_row_behind)
 kp_row_behind : B5 K (.ref a_row_behind) = true
 a_walk_to : Addr
 d_walk_to : FuncData
 F_walk_to : Fun K "walk_to" "walk_to" A64 a_walk_to d_walk_to
 mg_walk_to : mg "walk_to" = some (.ref a_walk_to)
 kp_walk_to : B5 K (.ref a_walk_to) = true
 a_behind_ways : Addr
 d_behind_ways : FuncData
 F_behind_ways : Fun K "behind_ways" "behind_ways" A65 a_behind_ways d_behind_ways
 mg_behind_ways : mg "behind_ways" = some (.ref a_behind_ways)
 kp_behind_ways : B5 K (.ref a_behind_ways) = true
 a_behind_part : Addr
 d_behind_part : FuncData
 F_behind_part : Fun K "behind_part" "behind_part" A66 a_behind_part d_behind_part
 mg_behind_part : mg "behind_part" = some (.ref a_behind_part)
 kp_behind_part : B5 K (.ref a_behind_part) = true
 a_end_of : Addr
 d_end_of : FuncData
 F_end_of : Fun K "end_of" "end_of" A67 a_end_of d_end_of
 mg_end_of : mg "end_of" = some (.ref a_end_of)
 kp_end_of : B5 K (.ref a_end_of) = true
 a_rows_from : Addr
 d_rows_from : FuncData
 F_rows_from : Fun K "rows_from" "rows_from" A68 a_rows_from d_rows_from
 mg_rows_from : mg "rows_from" = some (.ref a_rows_from)
 kp_rows_from : B5 K (.ref a_rows_from) = true
 a_still_rises : Addr
 d_still_rises : FuncData
 F_still_rises : Fun K "still_rises" "still_rises" A69 a_still_rises d_still_rises
 mg_still_rises : mg "still_rises" = some (.ref a_still_rises)
 kp_still_rises : B5 K (.ref a_still_rises) = true
 a_rising_walk : Addr
 d_rising_walk : FuncData
 F_rising_walk : Fun K "rising_walk" "rising_walk" A36 a_rising_walk d_rising_walk
 mg_rising_walk : mg "rising_walk" = some (.ref a_rising_walk)
 kp_rising_walk : B5 K (.ref a_rising_walk) = true
 a_parted_at_round : Addr
 d_parted_at_round : FuncData
 F_parted_at_round : Fun K "parted_at_round" "parted_at_round" A37 a_parted_at_round d_parted_at_round
 mg_parted_at_round : mg "parted_at_round" = some (.ref a_parted_at_round)
 kp_parted_at_round : B5 K (.ref a_parted_at_round) = true
 a_parts_by : Addr
 d_parts_by : FuncData
 F_parts_by : Fun K "parts_by" "parts_by" A7a a_parts_by d_parts_by
 mg_parts_by : mg "parts_by" = some (.ref a_parts_by)
 kp_parts_by : B5 K (.ref a_parts_by) = true
 a_filling_parts : Addr
 d_filling_parts : FuncData
 F_filling_parts : Fun K "filling_parts" "filling_parts" A7b a_filling_parts d_filling_parts
 mg_filling_parts : mg "filling_parts" = some (.ref a_filling_parts)
 kp_filling_parts : B5 K (.ref a_filling_parts) = true
 a_settled : Addr
 d_settled : FuncData
 F_settled : Fun K "settled" "settled" A38 a_settled d_settled
 mg_settled : mg "settled" = some (.ref a_settled)
 kp_settled : B5 K (.ref a_settled) = true
 a_highest : Addr
 d_highest : FuncData
 F_highest : Fun K "highest" "highest" A7c a_highest d_highest
 mg_highest : mg "highest" = some (.ref a_highest)
 kp_highest : B5 K (.ref a_highest) = true
 a_covers : Addr
 d_covers : FuncData
 F_covers : Fun K "covers" "covers" A39 a_covers d_covers
 mg_covers : mg "covers" = some (.ref a_covers)
 kp_covers : B5 K (.ref a_covers) = true
 a_leads_within : Addr
 d_leads_within : FuncData
 F_leads_within : Fun K "leads_within" "leads_within" A4a a_leads_within d_leads_within
 mg_leads_within : mg "leads_within" = some (.ref a_leads_within)
 kp_leads_within : B5 K (.ref a_leads_within) = true
 a_is_closed : Addr
 d_is_closed : FuncData
 F_is_closed : Fun K "is_closed" "is_closed" A7d a_is_closed d_is_closed
 mg_is_closed : mg "is_closed" = some (.ref a_is_closed)
 kp_is_closed : B5 K (.ref a_is_closed) = true
 a_alone : Addr
 d_alone : FuncData
 F_alone : Fun K "alone" "alone" A7e a_alone d_alone
 mg_alone : mg "alone" = some (.ref a_alone)
 kp_alone : B5 K (.ref a_alone) = true
 a_numbers_in : Addr
 d_numbers_in : FuncData
 F_numbers_in : Fun K "numbers_in" "numbers_in" A4b a_numbers_in d_numbers_in
 mg_numbers_in : mg "numbers_in" = some (.ref a_numbers_in)
 kp_numbers_in : B5 K (.ref a_numbers_in) = true
 a_level_by_spring : Addr
 d_level_by_spring : FuncData
 F_level_by_spring : Fun K "level_by_spring" "level_by_spring" A7f a_level_by_spring d_level_by_spring
 mg_level_by_spring : mg "level_by_spring" = some (.ref a_level_by_spring)
 kp_level_by_spring : B5 K (.ref a_level_by_spring) = true
 a_base_by : Addr
 d_base_by : FuncData
 F_base_by : Fun K "base_by" "base_by" A7g a_base_by d_base_by
 mg_base_by : mg "base_by" = some (.ref a_base_by)
 kp_base_by : B5 K (.ref a_base_by) = true
 a_highest_by : Addr
 d_highest_by : FuncData
 F_highest_by : Fun K "highest_by" "highest_by" A7h a_highest_by d_highest_by
 mg_highest_by : mg "highest_by" = some (.ref a_highest_by)
 kp_highest_by : B5 K (.ref a_highest_by) = true
 a_is_spring_lid : Addr
 d_is_spring_lid : FuncData
 F_is_spring_lid : Fun K "is_spring_lid" "is_spring_lid" A1s a_is_spring_lid d_is_spring_lid
 mg_is_spring_lid : mg "is_spring_lid" = some (.ref a_is_spring_lid)
 kp_is_spring_lid : B5 K (.ref a_is_spring_lid) = true
 a_hand : Addr
 d_hand : FuncData
 F_hand : Fun K "_law_hand" "_law_hand" A7i a_hand d_hand
 mg_hand : mg "_law_hand" = some (.ref a_hand)
 kp_hand : B5 K (.ref a_hand) = true
 a_next : Addr
 d_next : FuncData
 F_next : Fun K "_law_next" "_law_next" A7j a_next d_next
 mg_next : mg "_law_next" = some (.ref a_next)
 kp_next : B5 K (.ref a_next) = true
 a_take : Addr
 d_take : FuncData
 F_take : Fun K "_law_take" "_law_take" A7k a_take d_take
 mg_take : mg "_law_take" = some (.ref a_take)
 kp_take : B5 K (.ref a_take) = true
 a_draw : Addr
 d_draw : FuncData
 F_draw : Fun K "_law_draw" "_law_draw" A7l a_draw d_draw
 mg_draw : mg "_law_draw" = some (.ref a_draw)
 kp_draw : B5 K (.ref a_draw) = true
 a_change : Addr
 d_change : FuncData
 F_change : Fun K "_law_change" "_law_change" A7m a_change d_change
 mg_change : mg "_law_change" = some (.ref a_change)
 kp_change : B5 K (.ref a_change) = true
 a_store : Addr
 d_store : FuncData
 F_store : Fun K "_law_store" "_law_store" A7n a_store d_store
 mg_store : mg "_law_store" = some (.ref a_store)
 kp_store : B5 K (.ref a_store) = true
 a_land : Addr
 d_land : FuncData
 F_land : Fun K "_law_land" "_law_land" A7o a_land d_land
 mg_land : mg "_law_land" = some (.ref a_land)
 kp_land : B5 K (.ref a_land) = true
 a_table : Addr
 d_table : FuncData
 F_table : Fun K "_law_table" "_law_table" A4c a_table d_table
 mg_table : mg "_law_table" = some (.ref a_table)
 kp_table : B5 K (.ref a_table) = true
 a_springs : Addr
 d_springs : FuncData
 F_springs : Fun K "_law_springs" "_law_springs" A7p a_springs d_springs
 mg_springs : mg "_law_springs" = some (.ref a_springs)
 kp_springs : B5 K (.ref a_springs) = true
 a_step : Addr
 d_step : FuncData
 F_step : Fun K "_law_step" "_law_step" A7q a_step d_step
 mg_step : mg "_law_step" = some (.ref a_step)
 kp_step : B5 K (.ref a_step) = true
 a_law_is_whole : Addr
 d_law_is_whole : FuncData
 F_law_is_whole : Fun K "_law_is_whole" "_law_is_whole" A7r a_law_is_whole d_law_is_whole
 mg_law_is_whole : mg "_law_is_whole" = some (.ref a_law_is_whole)
 kp_law_is_whole : B5 K (.ref a_law_is_whole) = true
 a_law_is_table : Addr
 d_law_is_table : FuncData
 F_law_is_table : Fun K "_law_is_table" "_law_is_table" A4d a_law_is_table d_law_is_table
 mg_law_is_table : mg "_law_is_table" = some (.ref a_law_is_table)
 kp_law_is_table : B5 K (.ref a_law_is_table) = true
 a_is_lid : Addr
 d_is_lid : FuncData
 F_is_lid : Fun K "_law_is_lid" "_law_is_lid" A7s a_is_lid d_is_lid
 mg_is_lid : mg "_law_is_lid" = some (.ref a_is_lid)
 kp_is_lid : B5 K (.ref a_is_lid) = true
 a_law_is_spring_lid : Addr
 d_law_is_spring_lid : FuncData
 F_law_is_spring_lid : Fun K "_law_is_spring_lid" "_law_is_spring_lid" A4e a_law_is_spring_lid d_law_is_spring_lid
 mg_law_is_spring_lid : mg "_law_is_spring_lid" = some (.ref a_law_is_spring_lid)
 kp_law_is_spring_lid : B5 K (.ref a_law_is_spring_lid) = true
 a_no_less : Addr
 d_no_less : FuncData
 F_no_less : Fun K "_law_no_less" "_law_no_less" A7t a_no_less d_no_less
 mg_no_less : mg "_law_no_less" = some (.ref a_no_less)
 kp_no_less : B5 K (.ref a_no_less) = true
 a_lift : Addr
 d_lift : FuncData
 F_lift : Fun K "_law_lift" "_law_lift" A7u a_lift d_lift
 mg_lift : mg "_law_lift" = some (.ref a_lift)
 kp_lift : B5 K (.ref a_lift) = true
 a_closed : Addr
 d_closed : FuncData
 F_closed : Fun K "_law_closed" "_law_closed" A4f a_closed d_closed
 mg_closed : mg "_law_closed" = some (.ref a_closed)
 kp_closed : B5 K (.ref a_closed) = true
 a_spoilt : Addr
 d_spoilt : FuncData
 F_spoilt : Fun K "_law_spoilt" "_law_spoilt" A4g a_spoilt d_spoilt
 mg_spoilt : mg "_law_spoilt" = some (.ref a_spoilt)
 kp_spoilt : B5 K (.ref a_spoilt) = true
 a_lists : Addr
 d_lists : FuncData
 F_lists : Fun K "_law_lists" "_law_lists" A0d a_lists d_lists
 mg_lists : mg "_law_lists" = some (.ref a_lists)
 kp_lists : B5 K (.ref a_lists) = true
 a_law : Addr
 d_law : FuncData
 F_law : Fun K "law" "law" Y6 a_law d_law
 mg_law : mg "law" = some (.ref a_law)
 kp_law : B5 K (.ref a_law) = true
theorem C4w : F0 ["thing"] ["thing"] (A7 A6q) := ⟨rfl, rfl, rfl, by decide +kernel, rfl, by decide +kernel, by decide +kernel⟩
theorem C4x : F0 ["store", "thing"] ["store", "thing"] (A7 A6r) := ⟨rfl, rfl, rfl, by decide +kernel, rfl, by decide +kernel, by decide +kernel⟩
theorem B7s : F0 ["store", "level", "change", "behind"] ["store", "level", "change"] (A7 A6s) := ⟨rfl, rfl, rfl, by decide +kernel, rfl, by decide +kernel, by decide +kernel⟩
theorem B0e : F0 ["store", "level", "changes", "levels", "change", "behind"] ["store", "level", "changes"] (A7 A6t) := ⟨rfl, rfl, rfl, by decide +kernel, rfl, by decide +kernel, by decide +kernel⟩
theorem C4y : F0 ["store"] ["store"] (A7 A6u) := ⟨rfl, rfl, rfl, by decide +kernel, rfl, by decide +kernel, by decide +kernel⟩
theorem C4z : F0 ["store", "change"] ["store", "change"] (A7 A6v) := ⟨rfl, rfl, rfl, by decide +kernel, rfl, by decide +kernel, by decide +kernel⟩
theorem B0f : F0 ["store", "changes", "whole", "change"] ["store", "changes"] (A7 A6w) := ⟨rfl, rfl, rfl, by decide +kernel, rfl, by decide +kernel, by decide +kernel⟩
theorem C40 : F0 ["effect", "level"] ["effect", "level"] (A7 A6x) := ⟨rfl, rfl, rfl, by decide +kernel, rfl, by decide +kernel, by decide +kernel⟩
theorem B7t : F0 ["one", "other", "least"] ["one", "other"] (A7 A6y) := ⟨rfl, rfl, rfl, by decide +kernel, rfl, by decide +kernel, by decide +kernel⟩
theorem C41 : F0 ["many", "thing"] ["many", "thing"] (A7 A6z) := ⟨rfl, rfl, rfl, by decide +kernel, rfl, by decide +kernel, by decide +kernel⟩
theorem C42 : F0 ["land", "numbers"] ["land", "numbers"] (A7 A33) := ⟨rfl, rfl, rfl, by decide +kernel, rfl, by decide +kernel, by decide +kernel⟩
theorem C43 : F0 ["many", "store", "thing"] ["many", "store", "thing"] (A7 A34) := ⟨rfl, rfl, rfl, by decide +kernel, rfl, by decide +kernel, by decide +kernel⟩
theorem C44 : F0 ["many", "store", "thing"] ["many", "store", "thing"] (A7 A35) := ⟨rfl, rfl, rfl, by decide +kernel, rfl, by decide +kernel, by decide +kernel⟩
theorem C45 : F0 ["one", "other"] ["one", "other"] (A7 A60) := ⟨rfl, rfl, rfl, by decide +kernel, rfl, by decide +kernel, by decide +kernel⟩
theorem B7u : F0 ["store", "table", "way", "level"] ["store", "table", "way"] (A7 A61) := ⟨rfl, rfl, rfl, by decide +kernel, rfl, by decide +kernel, by decide +kernel⟩
theorem C46 : F0 ["table"] ["table"] (A7 A62) := ⟨rfl, rfl, rfl, by decide +kernel, rfl, by decide +kernel, by decide +kernel⟩
theorem A7v : F0 ["land", "store", "table", "stayed", "higher", "risen", "number", "way", "level"] ["land", "store", "table", "stayed"] (A7 A63) := ⟨rfl, rfl, rfl, by decide +kernel, rfl, by decide +kernel, by decide +kernel⟩
theorem A7w : F0 ["land", "rows", "place", "here", "numbers", "row", "number"] ["land", "rows", "place"] (A7 A64) := ⟨rfl, rfl, rfl, by decide +kernel, rfl, by decide +kernel, by decide +kernel⟩
theorem B0g : F0 ["land", "place", "numbers", "here", "number"] ["land", "place", "numbers"] (A7 A65) := ⟨rfl, rfl, rfl, by decide +kernel, rfl, by decide +kernel, by decide +kernel⟩
theorem B7v : F0 ["land", "place", "part", "behind"] ["land", "place", "part"] (A7 A66) := ⟨rfl, rfl, rfl, by decide +kernel, rfl, by decide +kernel, by decide +kernel⟩
theorem A8w : F0 ["land", "place", "trip", "here", "at", "part"] ["land", "place", "trip"] (A7 A67) := ⟨rfl, rfl, rfl, by decide +kernel, rfl, by decide +kernel, by decide +kernel⟩
theorem B0h : F0 ["land", "store", "table", "rows", "row"] ["land", "store", "table"] (A7 A68) := ⟨rfl, rfl, rfl, by decide +kernel, rfl, by decide +kernel, by decide +kernel⟩
theorem C47 : F0 ["land", "rows"] ["land", "rows"] (A7 A69) := ⟨rfl, rfl, rfl, by decide +kernel, rfl, by decide +kernel, by decide +kernel⟩
theorem B7w : F0 ["land", "rows", "last"] ["land", "rows"] (A7 A36) := ⟨rfl, rfl, rfl, by decide +kernel, rfl, by decide +kernel, by decide +kernel⟩
theorem A8x : F0 ["land", "walk", "places", "end", "begin"] ["land", "walk"] (A7 A37) := ⟨rfl, rfl, rfl, by decide +kernel, rfl, by decide +kernel, by decide +kernel⟩
theorem C48 : F0 ["numbers"] ["numbers"] (A7 A7a) := ⟨rfl, rfl, rfl, by decide +kernel, rfl, by decide +kernel, by decide +kernel⟩
theorem A1t : F0 ["land", "store", "level", "walk", "parted", "ahead", "turn", "effect", "missing", "times", "levels"] ["land", "store", "level", "walk"] (A7 A7b) := ⟨rfl, rfl, rfl, by decide +kernel, rfl, by decide +kernel, by decide +kernel⟩
theorem A0e : F0 ["land", "store", "base", "table", "roads", "rows", "walk", "parts", "full", "road"] ["land", "store", "base"] (A7 A38) := ⟨rfl, rfl, rfl, by decide +kernel, rfl, by decide +kernel, by decide +kernel⟩
theorem C49 : F0 ["land", "store", "base"] ["land", "store", "base"] (A7 A7c) := ⟨rfl, rfl, rfl, by decide +kernel, rfl, by decide +kernel, by decide +kernel⟩
theorem C5a : F0 ["table", "base"] ["table", "base"] (A7 A39) := ⟨rfl, rfl, rfl, by decide +kernel, rfl, by decide +kernel, by decide +kernel⟩
theorem C5b : F0 ["land", "store", "table", "lid"] ["land", "store", "table", "lid"] (A7 A4a) := ⟨rfl, rfl, rfl, by decide +kernel, rfl, by decide +kernel, by decide +kernel⟩
theorem C5c : F0 ["land", "store", "table"] ["land", "store", "table"] (A7 A7d) := ⟨rfl, rfl, rfl, by decide +kernel, rfl, by decide +kernel, by decide +kernel⟩
theorem C5d : F0 ["number"] ["number"] (A7 A7e) := ⟨rfl, rfl, rfl, by decide +kernel, rfl, by decide +kernel, by decide +kernel⟩
theorem C5e : F0 ["springs", "some"] ["springs", "some"] (A7 A4b) := ⟨rfl, rfl, rfl, by decide +kernel, rfl, by decide +kernel, by decide +kernel⟩
theorem B7x : F0 ["store", "springs", "tables", "some", "number", "level"] ["store", "springs", "tables", "some", "number"] (A7 A7f) := ⟨rfl, rfl, rfl, by decide +kernel, rfl, by decide +kernel, by decide +kernel⟩
theorem B0i : F0 ["store", "springs", "tables", "base", "some", "there", "number", "level"] ["store", "springs", "tables", "base", "some"] (A7 A7g) := ⟨rfl, rfl, rfl, by decide +kernel, rfl, by decide +kernel, by decide +kernel⟩
theorem B28 : F0 ["land", "store", "springs", "base", "tables", "some"] ["land", "store", "springs", "base"] (A7 A7h) := ⟨rfl, rfl, rfl, by decide +kernel, rfl, by decide +kernel, by decide +kernel⟩
theorem C5f : F0 ["land", "store", "springs", "base", "tables"] ["land", "store", "springs", "base", "tables"] (A7 A1s) := ⟨rfl, rfl, rfl, by decide +kernel, rfl, by decide +kernel, by decide +kernel⟩
theorem C5g : F0 ["_law_script"] ["_law_script"] (A7 A7i) := ⟨rfl, rfl, rfl, by decide +kernel, rfl, by decide +kernel, by decide +kernel⟩
theorem C5h : F0 ["_law_hand_here"] ["_law_hand_here"] (A7 A7j) := ⟨rfl, rfl, rfl, by decide +kernel, rfl, by decide +kernel, by decide +kernel⟩
theorem B29 : F0 ["_law_hand_here", "_law_cell"] ["_law_hand_here"] (A7 A7k) := ⟨rfl, rfl, rfl, by decide +kernel, rfl, by decide +kernel, by decide +kernel⟩
theorem A7x : F0 ["_law_hand_here", "_law_many", "_law_got", "_law_value", "_law_size"] ["_law_hand_here", "_law_many"] (A7 A7l) := ⟨rfl, rfl, rfl, by decide +kernel, rfl, by decide +kernel, by decide +kernel⟩
theorem C5i : F0 ["_law_hand_here", "_law_scale_here"] ["_law_hand_here", "_law_scale_here"] (A7 A7m) := ⟨rfl, rfl, rfl, by decide +kernel, rfl, by decide +kernel, by decide +kernel⟩
theorem B7y : F0 ["_law_hand_here", "_law_scale_here", "_law_way"] ["_law_hand_here", "_law_scale_here"] (A7 A7n) := ⟨rfl, rfl, rfl, by decide +kernel, rfl, by decide +kernel, by decide +kernel⟩
theorem A4h : F0 ["_law_hand_here", "_law_places", "_law_ways", "_law_scale_here", "_law_many", "_law_rows", "_law_k", "_law_start", "_law_end"] ["_law_hand_here", "_law_places", "_law_ways", "_law_scale_here"] (A7 A7o) := ⟨rfl, rfl, rfl, by decide +kernel, rfl, by decide +kernel, by decide +kernel⟩
theorem B7z : F0 ["_law_hand_here", "_law_many", "_law_store_here", "_law_rare"] ["_law_hand_here", "_law_many", "_law_store_here"] (A7 A4c) := ⟨rfl, rfl, rfl, by decide +kernel, rfl, by decide +kernel, by decide +kernel⟩
theorem B0j : F0 ["_law_hand_here", "_law_many", "_law_store_here", "_law_most", "_law_springs_here", "_law_k", "_law_gift"] ["_law_hand_here", "_law_many", "_law_store_here", "_law_most"] (A7 A7p) := ⟨rfl, rfl, rfl, by decide +kernel, rfl, by decide +kernel, by decide +kernel⟩
theorem C5j : F0 ["_law_store_here", "_law_level", "_law_change_here"] ["_law_store_here", "_law_level", "_law_change_here"] (A7 A7q) := ⟨rfl, rfl, rfl, by decide +kernel, rfl, by decide +kernel, by decide +kernel⟩
theorem C5k : F0 ["_law_thing"] ["_law_thing"] (A7 A7r) := ⟨rfl, rfl, rfl, by decide +kernel, rfl, by decide +kernel, by decide +kernel⟩
theorem C5l : F0 ["_law_thing", "_law_many", "_law_store_here"] ["_law_thing", "_law_many", "_law_store_here"] (A7 A4d) := ⟨rfl, rfl, rfl, by decide +kernel, rfl, by decide +kernel, by decide +kernel⟩
theorem A7y : F0 ["_law_land_here", "_law_store_here", "_law_base", "_law_table_here", "_law_place", "_law_start", "_law_end", "_law_change_here", "_law_behind"] ["_law_land_here", "_law_store_here", "_law_base", "_law_table_here"] (A7 A7s) := ⟨rfl, rfl, rfl, by decide +kernel, rfl, by decide +kernel, by decide +kernel⟩
theorem A0f : F0 ["_law_land_here", "_law_store_here", "_law_springs_here", "_law_base", "_law_tables", "_law_some", "_law_begun", "_law_k", "_law_place", "_law_gift", "_law_behind"] ["_law_land_here", "_law_store_here", "_law_springs_here", "_law_base", "_law_tables"] (A7 A4e) := ⟨rfl, rfl, rfl, by decide +kernel, rfl, by decide +kernel, by decide +kernel⟩
theorem B70 : F0 ["_law_one", "_law_other"] ["_law_one", "_law_other"] (A7 A7t) := ⟨rfl, rfl, rfl, by decide +kernel, rfl, by decide +kernel, by decide +kernel⟩
theorem C5m : F0 ["_law_table_here", "_law_place", "_law_level"] ["_law_table_here", "_law_place", "_law_level"] (A7 A7u) := ⟨rfl, rfl, rfl, by decide +kernel, rfl, by decide +kernel, by decide +kernel⟩
theorem X2 : F0 ["_law_land_here", "_law_store_here", "_law_springs_here", "_law_base", "_law_tables", "_law_place", "_law_moved", "_law_some", "_law_start", "_law_end", "_law_change_here", "_law_k", "_law_gift"] ["_law_land_here", "_law_store_here", "_law_springs_here", "_law_base", "_law_tables"] (A7 A4f) := ⟨rfl, rfl, rfl, by decide +kernel, rfl, by decide +kernel, by decide +kernel⟩
theorem A1u : F0 ["_law_hand_here", "_law_store_here", "_law_tables", "_law_some", "_law_at", "_law_one", "_law_way", "_law_choices"] ["_law_hand_here", "_law_store_here", "_law_tables"] (A7 A4g) := ⟨rfl, rfl, rfl, by decide +kernel, rfl, by decide +kernel, by decide +kernel⟩
theorem B0k : F0 ["_law_hand_here", "_law_land_here", "_law_store_here", "_law_springs_here", "_law_base", "_law_told", "_law_more", "_law_good", "_law_drawn"] ["_law_hand_here", "_law_land_here", "_law_store_here", "_law_springs_here", "_law_base", "_law_told"] (A7 A0d) := ⟨rfl, rfl, rfl, by decide +kernel, rfl, by decide +kernel, by decide +kernel⟩
theorem R6 : F0 ["_law_script", "_law_hand_here", "_law_scale_here", "_law_store_here", "_law_places", "_law_many", "_law_most", "_law_land_here", "_law_springs_here", "_law_base", "_law_told", "_law_tables", "_law_kept", "_law_some", "_law_k", "_law_thing", "_law_due", "_law_found"] ["_law_script"] (A7 Y6) := ⟨rfl, rfl, rfl, by decide +kernel, rfl, by decide +kernel, by decide +kernel⟩
theorem B71 {K : A4} {mg : Str -> Option Value} (T : Txt K mg) : E7 K T.d_is_whole ["thing"] [] := T.F_is_whole.binds fun _ _ _ _ _ _ us hl => by obtain ⟨_, rfl⟩ := n6 hl; rfl
theorem C5n {K : A4} {mg : Str -> Option Value} (T : Txt K mg) : E7 K T.d_is_level ["store", "thing"] [] := T.F_is_level.binds fun _ _ _ _ _ _ us hl => by obtain ⟨_, _, rfl⟩ := U4 hl; rfl
theorem B3a {K : A4} {mg : Str -> Option Value} (T : Txt K mg) : E7 K T.d_stepped ["store", "level", "change"] [] := T.F_stepped.binds fun _ _ _ _ _ _ us hl => by obtain ⟨_, _, _, rfl⟩ := T4 hl; rfl
theorem C5o {K : A4} {mg : Str -> Option Value} (T : Txt K mg) : E7 K T.d_levels_along ["store", "level", "changes"] [] := T.F_levels_along.binds fun _ _ _ _ _ _ us hl => by obtain ⟨_, _, _, rfl⟩ := T4 hl; rfl
theorem C5p {K : A4} {mg : Str -> Option Value} (T : Txt K mg) : E7 K T.d_effect_of_none ["store"] [] := T.F_effect_of_none.binds fun _ _ _ _ _ _ us hl => by obtain ⟨_, rfl⟩ := n6 hl; rfl
theorem C5q {K : A4} {mg : Str -> Option Value} (T : Txt K mg) : E7 K T.d_effect_of_one ["store", "change"] [] := T.F_effect_of_one.binds fun _ _ _ _ _ _ us hl => by obtain ⟨_, _, rfl⟩ := U4 hl; rfl
theorem C5r {K : A4} {mg : Str -> Option Value} (T : Txt K mg) : E7 K T.d_effect_of ["store", "changes"] [] := T.F_effect_of.binds fun _ _ _ _ _ _ us hl => by obtain ⟨_, _, rfl⟩ := U4 hl; rfl
theorem C5s {K : A4} {mg : Str -> Option Value} (T : Txt K mg) : E7 K T.d_passed ["effect", "level"] [] := T.F_passed.binds fun _ _ _ _ _ _ us hl => by obtain ⟨_, _, rfl⟩ := U4 hl; rfl
theorem C5t {K : A4} {mg : Str -> Option Value} (T : Txt K mg) : E7 K T.d_joined ["one", "other"] [] := T.F_joined.binds fun _ _ _ _ _ _ us hl => by obtain ⟨_, _, rfl⟩ := U4 hl; rfl
theorem C5u {K : A4} {mg : Str -> Option Value} (T : Txt K mg) : E7 K T.d_is_place ["many", "thing"] [] := T.F_is_place.binds fun _ _ _ _ _ _ us hl => by obtain ⟨_, _, rfl⟩ := U4 hl; rfl
theorem C5v {K : A4} {mg : Str -> Option Value} (T : Txt K mg) : E7 K T.d_changes_of ["land", "numbers"] [] := T.F_changes_of.binds fun _ _ _ _ _ _ us hl => by obtain ⟨_, _, rfl⟩ := U4 hl; rfl
theorem C5w {K : A4} {mg : Str -> Option Value} (T : Txt K mg) : E7 K T.d_is_table ["many", "store", "thing"] [] := T.F_is_table.binds fun _ _ _ _ _ _ us hl => by obtain ⟨_, _, _, rfl⟩ := T4 hl; rfl
theorem C5x {K : A4} {mg : Str -> Option Value} (T : Txt K mg) : E7 K T.d_are_tables ["many", "store", "thing"] [] := T.F_are_tables.binds fun _ _ _ _ _ _ us hl => by obtain ⟨_, _, _, rfl⟩ := T4 hl; rfl
theorem B0l {K : A4} {mg : Str -> Option Value} (T : Txt K mg) : E7 K T.d_is_more ["one", "other"] [] := T.F_is_more.binds fun _ _ _ _ _ _ us hl => by obtain ⟨_, _, rfl⟩ := U4 hl; rfl
theorem B72 {K : A4} {mg : Str -> Option Value} (T : Txt K mg) : E7 K T.d_behind_way ["store", "table", "way"] [] := T.F_behind_way.binds fun _ _ _ _ _ _ us hl => by obtain ⟨_, _, _, rfl⟩ := T4 hl; rfl
theorem C5y {K : A4} {mg : Str -> Option Value} (T : Txt K mg) : E7 K T.d_first_row ["table"] [] := T.F_first_row.binds fun _ _ _ _ _ _ us hl => by obtain ⟨_, rfl⟩ := n6 hl; rfl
theorem C5z {K : A4} {mg : Str -> Option Value} (T : Txt K mg) : E7 K T.d_row_behind ["land", "store", "table", "stayed"] [] := T.F_row_behind.binds fun _ _ _ _ _ _ us hl => by obtain ⟨_, _, _, _, rfl⟩ := A32 hl; rfl
theorem C50 {K : A4} {mg : Str -> Option Value} (T : Txt K mg) : E7 K T.d_walk_to ["land", "rows", "place"] [] := T.F_walk_to.binds fun _ _ _ _ _ _ us hl => by obtain ⟨_, _, _, rfl⟩ := T4 hl; rfl
theorem C51 {K : A4} {mg : Str -> Option Value} (T : Txt K mg) : E7 K T.d_behind_ways ["land", "place", "numbers"] [] := T.F_behind_ways.binds fun _ _ _ _ _ _ us hl => by obtain ⟨_, _, _, rfl⟩ := T4 hl; rfl
theorem C52 {K : A4} {mg : Str -> Option Value} (T : Txt K mg) : E7 K T.d_behind_part ["land", "place", "part"] [] := T.F_behind_part.binds fun _ _ _ _ _ _ us hl => by obtain ⟨_, _, _, rfl⟩ := T4 hl; rfl
theorem C53 {K : A4} {mg : Str -> Option Value} (T : Txt K mg) : E7 K T.d_end_of ["land", "place", "trip"] [] := T.F_end_of.binds fun _ _ _ _ _ _ us hl => by obtain ⟨_, _, _, rfl⟩ := T4 hl; rfl
theorem C54 {K : A4} {mg : Str -> Option Value} (T : Txt K mg) : E7 K T.d_rows_from ["land", "store", "table"] [] := T.F_rows_from.binds fun _ _ _ _ _ _ us hl => by obtain ⟨_, _, _, rfl⟩ := T4 hl; rfl
theorem C55 {K : A4} {mg : Str -> Option Value} (T : Txt K mg) : E7 K T.d_still_rises ["land", "rows"] [] := T.F_still_rises.binds fun _ _ _ _ _ _ us hl => by obtain ⟨_, _, rfl⟩ := U4 hl; rfl
theorem C56 {K : A4} {mg : Str -> Option Value} (T : Txt K mg) : E7 K T.d_rising_walk ["land", "rows"] [] := T.F_rising_walk.binds fun _ _ _ _ _ _ us hl => by obtain ⟨_, _, rfl⟩ := U4 hl; rfl
theorem C57 {K : A4} {mg : Str -> Option Value} (T : Txt K mg) : E7 K T.d_parted_at_round ["land", "walk"] [] := T.F_parted_at_round.binds fun _ _ _ _ _ _ us hl => by obtain ⟨_, _, rfl⟩ := U4 hl; rfl
theorem C58 {K : A4} {mg : Str -> Option Value} (T : Txt K mg) : E7 K T.d_parts_by ["numbers"] [] := T.F_parts_by.binds fun _ _ _ _ _ _ us hl => by obtain ⟨_, rfl⟩ := n6 hl; rfl
theorem C59 {K : A4} {mg : Str -> Option Value} (T : Txt K mg) : E7 K T.d_filling_parts ["land", "store", "level", "walk"] [] := T.F_filling_parts.binds fun _ _ _ _ _ _ us hl => by obtain ⟨_, _, _, _, rfl⟩ := A32 hl; rfl
theorem C6a {K : A4} {mg : Str -> Option Value} (T : Txt K mg) : E7 K T.d_settled ["land", "store", "base"] [] := T.F_settled.binds fun _ _ _ _ _ _ us hl => by obtain ⟨_, _, _, rfl⟩ := T4 hl; rfl
theorem C6b {K : A4} {mg : Str -> Option Value} (T : Txt K mg) : E7 K T.d_highest ["land", "store", "base"] [] := T.F_highest.binds fun _ _ _ _ _ _ us hl => by obtain ⟨_, _, _, rfl⟩ := T4 hl; rfl
theorem C6c {K : A4} {mg : Str -> Option Value} (T : Txt K mg) : E7 K T.d_covers ["table", "base"] [] := T.F_covers.binds fun _ _ _ _ _ _ us hl => by obtain ⟨_, _, rfl⟩ := U4 hl; rfl
theorem C6d {K : A4} {mg : Str -> Option Value} (T : Txt K mg) : E7 K T.d_leads_within ["land", "store", "table", "lid"] [] := T.F_leads_within.binds fun _ _ _ _ _ _ us hl => by obtain ⟨_, _, _, _, rfl⟩ := A32 hl; rfl
theorem C6e {K : A4} {mg : Str -> Option Value} (T : Txt K mg) : E7 K T.d_is_closed ["land", "store", "table"] [] := T.F_is_closed.binds fun _ _ _ _ _ _ us hl => by obtain ⟨_, _, _, rfl⟩ := T4 hl; rfl
theorem B0m {K : A4} {mg : Str -> Option Value} (T : Txt K mg) : E7 K T.d_alone ["number"] [] := T.F_alone.binds fun _ _ _ _ _ _ us hl => by obtain ⟨_, rfl⟩ := n6 hl; rfl
theorem C6f {K : A4} {mg : Str -> Option Value} (T : Txt K mg) : E7 K T.d_numbers_in ["springs", "some"] [] := T.F_numbers_in.binds fun _ _ _ _ _ _ us hl => by obtain ⟨_, _, rfl⟩ := U4 hl; rfl
theorem C6g {K : A4} {mg : Str -> Option Value} (T : Txt K mg) : E7 K T.d_level_by_spring ["store", "springs", "tables", "some", "number"] [] := T.F_level_by_spring.binds fun _ _ _ _ _ _ us hl => by obtain ⟨_, _, _, _, _, rfl⟩ := A8v hl; rfl
theorem B73 {K : A4} {mg : Str -> Option Value} (T : Txt K mg) : E7 K T.d_base_by ["store", "springs", "tables", "base", "some"] [] := T.F_base_by.binds fun _ _ _ _ _ _ us hl => by obtain ⟨_, _, _, _, _, rfl⟩ := A8v hl; rfl
theorem B74 {K : A4} {mg : Str -> Option Value} (T : Txt K mg) : E7 K T.d_highest_by ["land", "store", "springs", "base"] [] := T.F_highest_by.binds fun _ _ _ _ _ _ us hl => by obtain ⟨_, _, _, _, rfl⟩ := A32 hl; rfl
theorem C6h {K : A4} {mg : Str -> Option Value} (T : Txt K mg) : E7 K T.d_is_spring_lid ["land", "store", "springs", "base", "tables"] [] := T.F_is_spring_lid.binds fun _ _ _ _ _ _ us hl => by obtain ⟨_, _, _, _, _, rfl⟩ := A8v hl; rfl
theorem C6i {K : A4} {mg : Str -> Option Value} (T : Txt K mg) : E7 K T.d_hand ["_law_script"] [] := T.F_hand.binds fun _ _ _ _ _ _ us hl => by obtain ⟨_, rfl⟩ := n6 hl; rfl
theorem B75 {K : A4} {mg : Str -> Option Value} (T : Txt K mg) : E7 K T.d_next ["_law_hand_here"] [] := T.F_next.binds fun _ _ _ _ _ _ us hl => by obtain ⟨_, rfl⟩ := n6 hl; rfl
theorem C6j {K : A4} {mg : Str -> Option Value} (T : Txt K mg) : E7 K T.d_take ["_law_hand_here"] [] := T.F_take.binds fun _ _ _ _ _ _ us hl => by obtain ⟨_, rfl⟩ := n6 hl; rfl
theorem A1v {K : A4} {mg : Str -> Option Value} (T : Txt K mg) : E7 K T.d_draw ["_law_hand_here", "_law_many"] [] := T.F_draw.binds fun _ _ _ _ _ _ us hl => by obtain ⟨_, _, rfl⟩ := U4 hl; rfl
theorem C6k {K : A4} {mg : Str -> Option Value} (T : Txt K mg) : E7 K T.d_change ["_law_hand_here", "_law_scale_here"] [] := T.F_change.binds fun _ _ _ _ _ _ us hl => by obtain ⟨_, _, rfl⟩ := U4 hl; rfl
theorem C6l {K : A4} {mg : Str -> Option Value} (T : Txt K mg) : E7 K T.d_store ["_law_hand_here", "_law_scale_here"] [] := T.F_store.binds fun _ _ _ _ _ _ us hl => by obtain ⟨_, _, rfl⟩ := U4 hl; rfl
theorem C6m {K : A4} {mg : Str -> Option Value} (T : Txt K mg) : E7 K T.d_land ["_law_hand_here", "_law_places", "_law_ways", "_law_scale_here"] [] := T.F_land.binds fun _ _ _ _ _ _ us hl => by obtain ⟨_, _, _, _, rfl⟩ := A32 hl; rfl
theorem B76 {K : A4} {mg : Str -> Option Value} (T : Txt K mg) : E7 K T.d_table ["_law_hand_here", "_law_many", "_law_store_here"] [] := T.F_table.binds fun _ _ _ _ _ _ us hl => by obtain ⟨_, _, _, rfl⟩ := T4 hl; rfl
theorem C6n {K : A4} {mg : Str -> Option Value} (T : Txt K mg) : E7 K T.d_springs ["_law_hand_here", "_law_many", "_law_store_here", "_law_most"] [] := T.F_springs.binds fun _ _ _ _ _ _ us hl => by obtain ⟨_, _, _, _, rfl⟩ := A32 hl; rfl
theorem B77 {K : A4} {mg : Str -> Option Value} (T : Txt K mg) : E7 K T.d_step ["_law_store_here", "_law_level", "_law_change_here"] [] := T.F_step.binds fun _ _ _ _ _ _ us hl => by obtain ⟨_, _, _, rfl⟩ := T4 hl; rfl
theorem C6o {K : A4} {mg : Str -> Option Value} (T : Txt K mg) : E7 K T.d_law_is_whole ["_law_thing"] [] := T.F_law_is_whole.binds fun _ _ _ _ _ _ us hl => by obtain ⟨_, rfl⟩ := n6 hl; rfl
theorem C6p {K : A4} {mg : Str -> Option Value} (T : Txt K mg) : E7 K T.d_law_is_table ["_law_thing", "_law_many", "_law_store_here"] [] := T.F_law_is_table.binds fun _ _ _ _ _ _ us hl => by obtain ⟨_, _, _, rfl⟩ := T4 hl; rfl
theorem C6q {K : A4} {mg : Str -> Option Value} (T : Txt K mg) : E7 K T.d_is_lid ["_law_land_here", "_law_store_here", "_law_base", "_law_table_here"] [] := T.F_is_lid.binds fun _ _ _ _ _ _ us hl => by obtain ⟨_, _, _, _, rfl⟩ := A32 hl; rfl
theorem C6r {K : A4} {mg : Str -> Option Value} (T : Txt K mg) : E7 K T.d_law_is_spring_lid ["_law_land_here", "_law_store_here", "_law_springs_here", "_law_base", "_law_tables"] [] := T.F_law_is_spring_lid.binds fun _ _ _ _ _ _ us hl => by obtain ⟨_, _, _, _, _, rfl⟩ := A8v hl; rfl
theorem B78 {K : A4} {mg : Str -> Option Value} (T : Txt K mg) : E7 K T.d_no_less ["_law_one", "_law_other"] [] := T.F_no_less.binds fun _ _ _ _ _ _ us hl => by obtain ⟨_, _, rfl⟩ := U4 hl; rfl
theorem C6s {K : A4} {mg : Str -> Option Value} (T : Txt K mg) : E7 K T.d_lift ["_law_table_here", "_law_place", "_law_level"] [] := T.F_lift.binds fun _ _ _ _ _ _ us hl => by obtain ⟨_, _, _, rfl⟩ := T4 hl; rfl
theorem C6t {K : A4} {mg : Str -> Option Value} (T : Txt K mg) : E7 K T.d_closed ["_law_land_here", "_law_store_here", "_law_springs_here", "_law_base", "_law_tables"] [] := T.F_closed.binds fun _ _ _ _ _ _ us hl => by obtain ⟨_, _, _, _, _, rfl⟩ := A8v hl; rfl
theorem C6u {K : A4} {mg : Str -> Option Value} (T : Txt K mg) : E7 K T.d_spoilt ["_law_hand_here", "_law_store_here", "_law_tables"] [] := T.F_spoilt.binds fun _ _ _ _ _ _ us hl => by obtain ⟨_, _, _, rfl⟩ := T4 hl; rfl
theorem C6v {K : A4} {mg : Str -> Option Value} (T : Txt K mg) : E7 K T.d_lists ["_law_hand_here", "_law_land_here", "_law_store_here", "_law_springs_here", "_law_base", "_law_told"] [] := T.F_lists.binds fun _ _ _ _ _ _ us hl => by obtain ⟨_, _, _, _, _, _, rfl⟩ := C4v hl; rfl
theorem D00 {K : A4} {mg : Str -> Option Value} (T : Txt K mg) : E7 K T.d_law ["_law_script"] [] := T.F_law.binds fun _ _ _ _ _ _ us hl => by obtain ⟨_, rfl⟩ := n6 hl; rfl
section
variable {P : Program} {w : World} {K : A4} {mg : Str -> Option Value} {base : Heap}
theorem C6w (T : Txt K mg) : D3 P w K mg base CX0 1 T.a_hand T.d_hand ["_law_script"] (B50 K) := by
 refine T.F_hand.ok C5g (fun vs H Q E h => ?_) (fun cdv A outer s H vs Q E hr h => ?_)
 ·obtain ⟨a, ns, rfl, _⟩ := h
  rfl
 ·obtain ⟨a, ns, rfl, hS, k⟩ := h
  refine ⟨_, (W3 (A0o (B4u (C3 (Y0 t6 rfl T.n_list W6 (C3 (B1q B1r (pv 0) B40 (B41 G0)) D6 C2) (he := C2) (hpl := A6)) (C3 G0 (C3 G0 (C3 G0 (C3 G0 (C3 G0 D6 G1) G1) G1) G1) G1) E3)))), ?_⟩
  refine ⟨_, rfl, _, rfl, a, _, rfl, hS, fun p1 h1 => ⟨p1, _, rfl, .inl (SqL.of K2), fun l hl => ⟨(by show 6 <= sizeLine; decide), fun p hp => ?_⟩⟩⟩
  have n1 : p ≠ p1 := (Z3 (H := upd (upd H p1 _) l _) (by rw [C4 (Z3 K2 hl)]; exact K2) hp).symm
  have n2 : p ≠ l := (Z3 (H := upd (upd H p1 _) l _) K2 hp).symm
  have hp0 : H p = none := by rw [C4 n2, C4 n1] at hp; exact hp
  have hl0 : H l = none := by
   have nl : l ≠ p1 := (Z3 K2 hl).symm
   rw [C4 nl] at hl; exact hl
  refine k p l _ hp0 hl0 ⟨(ns.drop (HT.sIx (ns.map V.int).length 0 none)).take (HT.sIx (ns.map V.int).length (ns.map V.int).length (some 63) - HT.sIx (ns.map V.int).length 0 none), 0, 0, 0, 20011, 40009, ?_, B06 _, K2⟩ (((Same.refl H).lay h1).lay hl |>.lay hp)
  rw [C4 n2.symm, K2]
  unfold A15
  rw [p6, List.map_drop]
theorem B79 (T : Txt K mg) : D3 P w K mg base CX0 1 T.a_next T.d_next ["_law_hand_here"] B14 := by
 refine T.F_next.ok C5h (fun vs H Q E h => ?_) (fun cdv A outer s H vs Q E hr h => ?_)
 ·obtain ⟨a, l, rfl, _⟩ := h
  rfl
 ·obtain ⟨a, l, rfl, ⟨ns, p, b, c, u, v, hl, hp, ha⟩, k⟩ := h
  have ne := A9t hl ha
  refine ⟨_, (O5 (S9 (O2 d9 (O2 A0u (M9 T1 (pv 0) G0 (fun _ _ => rfl)) G0) G0) (V4 (pv 0) G0 U1))
   (O5 (S9 (O2 d9 (O2 A0u (M9 T1 (pv 0) G0 (fun _ _ => rfl)) G0) G0) (V4 (pv 0) G0 U1))
   (W3 (A0o (O2 K6 (M9 T1 (pv 0) G0 (fun _ _ => rfl)) (M9 T1 (pv 0) G0 (fun _ _ => rfl))))))), ?_⟩
  refine ⟨_, rfl, a, _, _, _, rfl, rfl, SqL.of ha, rfl, _, _, rfl, rfl, .inr ⟨by decide, by decide⟩, _, _, rfl, rfl, (by first | decide | (dsimp only; decide)), _, rfl, a, _, _, _, rfl, rfl, ha, rfl, ?_⟩
  refine ⟨_, rfl, a, _, _, _, rfl, rfl, SqL.of K2, rfl, _, _, rfl, rfl, .inr ⟨by decide, by decide⟩, _, _, rfl, rfl, (by first | decide | (dsimp only; decide)), _, rfl, a, _, _, _, rfl, rfl, K2, rfl, ?_⟩
  refine ⟨_, rfl, a, _, _, _, rfl, rfl, SqL.of K2, rfl, _, rfl, a, _, _, _, rfl, rfl, SqL.of K2, rfl, _, _, rfl, rfl, ?_⟩
  exact k _ _ ⟨ns, p, b, c, _, _, by rw [C4 ne, C4 ne]; exact hl, hp, K2⟩ fun b o e nb => by rw [C4 nb, C4 nb]; exact e
theorem C6x (T : Txt K mg) : D3 P w K mg base CX0 2 T.a_take T.d_take ["_law_hand_here"] B51 := by
 have G_next : D3 P w K mg base CX0 1 T.a_next T.d_next ["_law_hand_here"] B14 := B79 T
 have b_next := B75 T
 refine T.F_take.ok B29 (fun vs H Q E h => ?_) (fun cdv A outer s H vs Q E hr h => ?_)
 ·obtain ⟨a, l, rfl, _⟩ := h
  rfl
 ·obtain ⟨a, l, rfl, ⟨ns, p, b, c, u, v, hl, hp, ha⟩, k⟩ := h
  have ne := A9t hl ha
  refine ⟨_, (O5 (C8 (i := 1) B29.nd rfl (B3 rfl) G0)
   (O5 (A8k (A4v (A0y X7 (M9 T1 (pv 0) G0 (fun _ _ => rfl)) (F9 N6 rfl T.n_len N7 (C3 (M9 T1 (pv 0) G0 (fun _ _ => rfl)) D6 C2) (he := C2) (hpl := A6)) (D2 _))
   (W3 (C8 (i := 1) B29.nd rfl (B3 rfl) (F9 C0x rfl T.n_abs C1x (C3 (M9 T1 (M9 T1 (pv 0) G0 (fun _ _ => rfl)) (M9 T1 (pv 0) G0 (fun _ _ => rfl)) (fun _ _ => rfl)) D6 C2) (he := C2) (hpl := A6))))
   A8c))
   (O5 (B4m (pv 0) G0 B5j G0 C0f U1)
   (O5 (A8k (A4v (A0y B1k (pv 1) (O2 A0v G0 G0) (D2 _))
   (W3 (S9 (pv 1) (V4 (pv 0) G0 U1)))
   (W3 (S9 G0 (V4 (pv 0) G0 U1)))))
   (O5 (S9 (O2 K6 (O2 d9 (O2 K6 (M9 T1 (pv 0) G0 (fun _ _ => rfl)) (O2 d9 (pv 1) G0)) G0) G0) (V4 (pv 0) G0 U1))
   (O5 (S9 (O2 K6 (O2 d9 (O2 K6 (O2 A0u (M9 T1 (pv 0) G0 (fun _ _ => rfl)) G0) (O2 d9 (pv 1) G0)) G0) G0) (V4 (pv 0) G0 U1))
   (O5 (Z4 (B6 G_next (hr.mono (by decide)) rfl T.mg_next T.kp_next b_next .nil B7 (C3 (pv 0) D6 A0) (he := A0) (hpl := A6)))
   (W3 (Z4 (B6 G_next (hr.mono (by decide)) rfl T.mg_next T.kp_next b_next .nil B7 (C3 (pv 0) D6 A0) (he := A0) (hpl := A6))))))))))), ?_⟩
  refine ⟨fun σ H1 => H = H1 /\ ∃ z : Int, σ = [some (.ref a), some (.int z)], ?_, ?_⟩
  ·refine ⟨_, rfl, a, _, _, _, rfl, rfl, SqL.of ha, rfl, _, rfl, a, _, _, _, rfl, rfl, SqL.of ha, rfl, l, _, rfl, .inl (SqL.of hl), _, _, rfl, rfl, _, rfl, ?_⟩
   refine A42 (fun hlt => ?_) (fun _ => ⟨rfl, _, rfl⟩)
   have hlt' : p < (ns.length : Int) := by simpa using hlt
   obtain ⟨z, hz⟩ := C2h hp hlt'
   exact ⟨_, rfl, a, _, _, _, rfl, rfl, SqL.of ha, rfl, _, rfl, a, _, _, _, rfl, rfl, SqL.of ha, rfl, l, _, _, _, rfl, rfl, SqL.of hl, hz, _, rfl, rfl, _, rfl⟩
  ·rintro σ H1 ⟨rfl, z, rfl⟩
   refine ⟨_, rfl, a, _, _, _, rfl, rfl, (by first | decide | (dsimp only; decide)), SqL.of ha, rfl, _, _, rfl, rfl, a, _, _, _, rfl, rfl, ha, rfl, ?_⟩
   refine ⟨fun σ H1 => σ = [some (.ref a), some (.int z)] /\ Hd H1 a l /\ Kp a H H1, ?_, ?_⟩
   ·refine ⟨_, rfl, _, _, rfl, rfl, ⟨by decide, by decide, by decide⟩, _, _, rfl, rfl, _, rfl, ?_⟩
    refine A42 (fun _ => ?_) (fun _ => ?_)
    ·refine ⟨_, rfl, _, rfl, a, _, _, _, rfl, rfl, K2, rfl, rfl, ⟨ns, p + 1, _, _, _, _, by rw [C4 ne, C4 ne]; exact hl, by omega, K2⟩, fun b o e nb => by rw [C4 nb, C4 nb]; exact e⟩
    ·refine ⟨_, rfl, a, _, _, _, rfl, rfl, K2, rfl, rfl, ⟨ns, p + 1, _, _, _, _, by rw [C4 ne, C4 ne]; exact hl, by omega, K2⟩, fun b o e nb => by rw [C4 nb, C4 nb]; exact e⟩
   ·rintro σ H1 ⟨rfl, ⟨ns, p, b, c, u, v, hl, hp, ha⟩, k1⟩
    have ne := A9t hl ha
    refine ⟨_, rfl, a, _, _, _, rfl, rfl, SqL.of ha, rfl, _, rfl, _, _, rfl, rfl, (by first | decide | (dsimp only; decide)), _, _, rfl, rfl, _, _, rfl, rfl, (by first | decide | (dsimp only; decide)), _, _, rfl, rfl, _, rfl, a, _, _, _, rfl, rfl, ha, rfl, ?_⟩
    refine ⟨_, rfl, a, _, _, _, rfl, rfl, SqL.of K2, rfl, _, _, rfl, rfl, .inr ⟨by decide, by decide⟩, _, rfl, _, _, rfl, rfl, (by first | decide | (dsimp only; decide)), _, _, rfl, rfl, _, _, rfl, rfl, (by first | decide | (dsimp only; decide)), _, _, rfl, rfl, _, rfl, a, _, _, _, rfl, rfl, K2, rfl, ?_⟩
    refine ⟨_, rfl, a, l, rfl, ⟨ns, p, _, _, _, _, by rw [C4 ne, C4 ne]; exact hl, hp, K2⟩, fun r H2 h2 k2 => ?_⟩
    refine ⟨_, rfl, a, l, rfl, h2, fun r H3 h3 k3 => ?_⟩
    exact k H3 h3 (((k1.trans fun b o e nb => by rw [C4 nb, C4 nb]; exact e).trans k2).trans k3)
theorem C6y (T : Txt K mg) : D3 P w K mg base CX0 3 T.a_draw T.d_draw ["_law_hand_here", "_law_many"] C2i := by
 have G_next : D3 P w K mg base CX0 1 T.a_next T.d_next ["_law_hand_here"] B14 := B79 T
 have G_take : D3 P w K mg base CX0 2 T.a_take T.d_take ["_law_hand_here"] B51 := C6x T
 have b_next := B75 T
 have b_take := C6j T
 refine T.F_draw.ok A7x (fun vs H Q E h => ?_) (fun cdv A outer s H vs Q E hr h => ?_)
 ·obtain ⟨a, l, m, rfl, _⟩ := h
  rfl
 ·obtain ⟨a, l, m, rfl, hd, hm0, hm1, k⟩ := h
  refine ⟨_, (O5 (A8k (A4v (PW.pt (B1d (A0y B4q (M9 T1 (pv 0) G0 (fun _ _ => rfl)) G0 (D2 _)) (B1c (A0y B4q (M9 T1 (pv 0) G0 (fun _ _ => rfl)) G0 (D2 _)))))
   (W3 (Z4 (B6 G_take (hr.mono (by decide)) rfl T.mg_take T.kp_take b_take .nil B7 (C3 (pv 0) D6 A0) (he := A0) (hpl := A6))))
   A8c))
   (O5 (A8k (A4v (A0y A0x (M9 T1 (pv 0) G0 (fun _ _ => rfl)) G0 (D2 _))
   (O5 (C8 (i := 2) A7x.nd rfl (B3 rfl) (O2 d9 (M9 T1 (pv 0) G0 (fun _ _ => rfl)) (pv 1)))
   (O5 (S9 (O2 A8j (M9 T1 (pv 0) G0 (fun _ _ => rfl)) (pv 1)) (V4 (pv 0) G0 U1))
   (W3 (A0o (pv 2)))))
   A8c))
   (O5 (B4m (pv 0) G0 B5j G0 C0g U1)
   (O5 (C8 (i := 3) A7x.nd rfl (B3 rfl) (B6 G_next (hr.mono (by decide)) rfl T.mg_next T.kp_next b_next .nil B7 (C3 (pv 0) D6 A0) (he := A0) (hpl := A6)))
   (O5 (C8 (i := 4) A7x.nd rfl (B3 rfl) G0)
   (O5 (A8g N4 (A0y X7 (pv 4) (pv 1) (D2 _))
   (O5 (C8 (i := 3) A7x.nd rfl (B3 rfl) (O2 K6 (O2 A0u (pv 3) G0) (B6 G_next (hr.mono (by decide)) rfl T.mg_next T.kp_next b_next .nil B7 (C3 (pv 0) D6 A0) (he := A0) (hpl := A6))))
   (W3 (C8 (i := 4) A7x.nd rfl (B3 rfl) (O2 A0u (pv 4) G0)))))
   (W3 (A0o (O2 d9 (pv 3) (pv 1)))))))))), ?_⟩
  refine ⟨fun σ H1 => σ = [some (.ref a), some (.int m), none, none, none] /\ Hd H1 a l /\ Kp a H H1, ?_, ?_⟩
  ·obtain ⟨ns, p, b, c, u, v, hl, hp, ha⟩ := id hd
   refine ⟨_, rfl, a, _, _, _, rfl, rfl, SqL.of ha, rfl, rfl, _, rfl, ?_⟩
   refine A42 (fun _ => ?_) (fun _ => L4 ⟨rfl, hd, .refl a H⟩)
   refine ⟨_, rfl, a, _, _, _, rfl, rfl, SqL.of ha, rfl, rfl, _, rfl, ?_⟩
   refine A42 (fun _ => ?_) (fun _ => ⟨rfl, hd, .refl a H⟩)
   exact ⟨_, rfl, a, l, rfl, hd, fun H1 h1 k1 => ⟨rfl, h1, k1⟩⟩
  ·rintro σ H1 ⟨rfl, ⟨ns, p, b, c, u, v, hl, hp, ha⟩, k1⟩
   have ne := A9t hl ha
   refine ⟨fun σ H2 => H1 = H2 /\ σ = [some (.ref a), some (.int m), none, none, none], ?_, ?_⟩
   ·refine ⟨_, rfl, a, _, _, _, rfl, rfl, SqL.of ha, rfl, _, _, rfl, rfl, _, rfl, ?_⟩
    refine A42 (fun _ => ?_) (fun _ => ⟨rfl, rfl⟩)
    refine ⟨_, rfl, a, _, _, _, rfl, rfl, SqL.of ha, rfl, _, rfl, _, _, rfl, rfl, hm0, ?_⟩
    refine ⟨_, rfl, a, _, _, _, rfl, rfl, SqL.of ha, rfl, _, rfl, _, _, rfl, rfl, ⟨hm0, hm1⟩, _, rfl, a, _, _, _, rfl, rfl, ha, rfl, ?_⟩
    refine ⟨_, rfl, ?_⟩
    exact k _ _ (B07 _ (by omega)) (B37 _ hm0) ⟨ns, p, _, _, _, _, by rw [C4 ne]; exact hl, hp, K2⟩ (k1.trans fun b o e nb => by rw [C4 nb]; exact e)
   ·rintro σ H2 ⟨rfl, rfl⟩
    refine ⟨_, rfl, a, _, _, _, rfl, rfl, (by first | decide | (dsimp only; decide)), SqL.of ha, rfl, _, _, rfl, rfl, a, _, _, _, rfl, rfl, ha, rfl, ?_⟩
    refine ⟨_, rfl, a, l, rfl, ⟨ns, p, _, _, _, _, by rw [C4 ne]; exact hl, hp, K2⟩, fun r H3 h3 k3 => ?_⟩
    have k3' : Kp a H H3 := (k1.trans fun b o e nb => by rw [C4 nb]; exact e).trans k3
    refine C0m (fun σ H4 => ∃ (val sz : Int), σ = [some (.ref a), some (.int m), none, some (.int val), some (.int sz)] /\ Hd H4 a l /\ Kp a H H4 /\ 0 < sz)
     (fun σ _ => match σ with | [_, _, _, _, some (.int sz)] => (m - sz).toNat | _ => 0) ⟨r, 4294967296, rfl, h3, k3', by decide⟩ ?_ (fun σ H Q Q' f ⟨v, e1, u, e2, i, j, e3, e4, c, e5, q⟩ => ⟨v, e1, u, e2, i, j, e3, e4, c, e5, f _ _ q⟩)
    rintro σ H4 ⟨val, sz, rfl, h4, k4, hsz⟩
    refine ⟨_, rfl, _, rfl, _, _, rfl, rfl, _, rfl, ?_⟩
    refine A42 (fun hlt => ?_) (fun _ => ?_)
    ·have hlt' : sz < m := by simpa using hlt
     refine ⟨_, rfl, _, _, rfl, rfl, .inr ⟨by decide, by decide⟩, _, rfl, a, l, rfl, h4, fun r H5 h5 k5 => ⟨_, _, rfl, rfl, ?_⟩⟩
     refine ⟨_, rfl, _, _, rfl, rfl, .inr ⟨by decide, by decide⟩, ?_⟩
     refine ⟨⟨_, sz * 4294967296, rfl, h5, k4.trans k5, by omega⟩, ?_⟩
     show (m - sz * 4294967296).toNat < (m - sz).toNat
     omega
    ·refine ⟨_, rfl, _, rfl, _, _, rfl, rfl, hm0, ?_⟩
     exact k _ _ (B07 _ (by omega)) (B37 _ hm0) h4 k4
end
local macro_rules | `(tactic| left) => `(tactic| try dsimp only [A3a, L8, A1f, A1g, dOp, A03, A1d, dT, A3c, A1e, dCb, A2q, A2p, dC, dF, A2s, A2r, A2f, A2a, A2b, dOr, A2c, A2d, A2e, dBV, dIf, v3, dIx, A2t, A2u, A20, A5d, A21, dSl, A23, A25, A26, A5e, A28, A27, aV, aS, Q9, arD, v7, O3, A5u, ixD, lenD, M5, m7, gI, gI0, A2h, A2i, A2j, A2k, A2l, A2m, gLt, gLe, gGt, gGe, gEq, m6, isN, A06, A2v, A2w, gI2, A5b, A08, A2y, A2z, A3b, A3g, A1h, A3d, A3e, gN, gT2, gT3, gT5, A5w, A1l, A5x, A5y, A5z, A3h, A1m, m8, A5v, A3f, gIn, gB2, oN, oS, b5, W8, A5i, A5j, A5k, A5l, A5m, A5n, V6, tyD, A89, A9a, A9b, A8a, A9c, A9d, M1, A9e, A9f, A9g, A79, M0, A5o, A5p, A5q, A5r, A5s, A5t, A9h, A9i, A3x, A1q, A3u, A3s, A3t, A3r, A6p, A6o, A31, A3y, v8, A3z, A30, U3, A6b, A6c, A6d, A6e, A6f, A6m, L5, A6g, i9, A6i, A6j, A6k, aW, A6l, A6n, A1r, arS, A1p, z4, A1n, A3j, A3k, A50, A51, A3l, A57, A58, pC, pV, pIx, slot2, A3p, A3q])
local macro_rules | `(tactic| array_get_dec) => `(tactic| try dsimp only [B2o, dIl, dIv, dIt, B2i, B6j, B2j, B2p, dIL, B7o, A3a, L8, A1f, A1g, dOp, A03, A1d, dT, A3c, A1e, dCb, A2q, A2p, dC, dF, A2s, A2r, A2f, A2a, A2b, dOr, A2c, A2d, A2e, dBV, dIf, v3, dIx, A2t, A2u, A20, A5d, A21, dSl, A23, A25, A26, A5e, A28, A27, aV, aS, Q9, arD, v7, O3, A5u, ixD, lenD, M5, m7, gI, gI0, A2h, A2i, A2j, A2k, A2l, A2m, gLt, gLe, gGt, gGe, gEq, m6, isN, A06, A2v, A2w, gI2, A5b, A08, A2y, A2z, A3b, A3g, A1h, A3d, A3e, gN, gT2, gT3, gT5, A5w, A1l, A5x, A5y, A5z, A3h, A1m, m8, A5v, A3f, gIn, gB2, oN, oS, b5, W8, A5i, A5j, A5k, A5l, A5m, A5n, V6, tyD, A89, A9a, A9b, A8a, A9c, A9d, M1, A9e, A9f, A9g, A79, M0, A5o, A5p, A5q, A5r, A5s, A5t, A9h, A9i, A3x, A1q, A3u, A3s, A3t, A3r, A6p, A6o, A31, A3y, v8, A3z, A30, U3, A6b, A6c, A6d, A6e, A6f, A6m, L5, A6g, i9, A6i, A6j, A6k, aW, A6l, A6n, A1r, arS, A1p, z4, A1n, A3j, A3k, A50, A51, A3l, A57, A58, pC, pV, pIx, slot2, A3p, A3q])
local macro_rules | `(tactic| sizeOf_list_dec) => `(tactic| try dsimp only [Blk, A3a, L8, A1f, A1g, dOp, A03, A1d, dT, A3c, A1e, dCb, A2q, A2p, dC, dF, A2s, A2r, A2f, A2a, A2b, dOr, A2c, A2d, A2e, dBV, dIf, v3, dIx, A2t, A2u, A20, A5d, A21, dSl, A23, A25, A26, A5e, A28, A27, aV, aS, Q9, arD, v7, O3, A5u, ixD, lenD, M5, m7, gI, gI0, A2h, A2i, A2j, A2k, A2l, A2m, gLt, gLe, gGt, gGe, gEq, m6, isN, A06, A2v, A2w, gI2, A5b, A08, A2y, A2z, A3b, A3g, A1h, A3d, A3e, gN, gT2, gT3, gT5, A5w, A1l, A5x, A5y, A5z, A3h, A1m, m8, A5v, A3f, gIn, gB2, oN, oS, b5, W8, A5i, A5j, A5k, A5l, A5m, A5n, V6, tyD, A89, A9a, A9b, A8a, A9c, A9d, M1, A9e, A9f, A9g, A79, M0, A5o, A5p, A5q, A5r, A5s, A5t, A9h, A9i, A3x, A1q, A3u, A3s, A3t, A3r, A6p, A6o, A31, A3y, v8, A3z, A30, U3, A6b, A6c, A6d, A6e, A6f, A6m, L5, A6g, i9, A6i, A6j, A6k, aW, A6l, A6n, A1r, arS, A1p, z4, A1n, A3j, A3k, A50, A51, A3l, A57, A58, pC, pV, pIx, slot2, A3p, A3q])
theorem Q3 {k : Nat} {A : Around} (hr : S4 k A) : A.units + 64 < cLine := hr.units
def C6z : DSp := fun ds Q => ∃ m : Int, ds = [.none, .int m] /\ 0 < m /\ m < 100000000000000000000000000000000000000000000000000000000000000 /\ ∀ r : Int, 0 <= r -> r < m -> Q (.int r)
theorem C60 {F : Addr -> Prop} {hand : Option (Addr × Addr)} {H : Hp} {vs : List V} {ds : List PyData} {ms : List Md} (a : g6 F hand H (.hd :: ms) vs ds) : ∃ q vs' d ds', hand = some q /\ vs = .ref q.1 :: vs' /\ ds = d :: ds' /\ g6 F hand H ms vs' ds' := by
 cases a with
 | cons x t =>
  obtain ⟨q, e, rfl⟩ := x
  exact ⟨q, _, _, _, e, rfl, rfl, t⟩
section
variable {P : Program} {w : World} {K : A4} {mg : Str -> Option Value} {base : Heap}
theorem A1w (T : Txt K mg) : D3 P w K mg base CX0 3 T.a_draw T.d_draw ["_law_hand_here", "_law_many"] (spD [.hd, .sh] C6z) := (C6y T).imp fun vs H Q E h => by
 obtain ⟨F, hand, ds, Qd, h1, h2, h3, a, ⟨m, rfl, m0, m1, hr⟩, h5⟩ := h
 obtain ⟨q, vs', d, ds', e, rfl, e2, a⟩ := C60 a
 cases e2
 subst e
 cases a with
 | cons x t =>
  cases t
  cases (show ThV F H _ (.int m) from x)
  exact ⟨q.1, q.2, m, rfl, h3 q rfl, m0, m1, fun r H' r0 r1 hd kp => h5 _ _ _ (hr r r0 r1) (.int r) (fun b o eb n => kp b o eb (n q rfl)) fun q' e' => by cases e'; exact hd⟩
end
def oD : Option Int -> PyData
 | none => .none
 | some i => .int i
def onD : Option Nat -> PyData
 | none => .none
 | some n => .int (n : Nat)
def R7 (ns : List Int) : List PyData := ns.map PyData.int
def A3 (t : Tb) : List PyData := t.map oD
def rnL (t : Rn) : List PyData := t.map onD
def T5 (r : Rw) : PyData := .tuple [.list (A3 r.1), .list (rnL r.2)]
def K5 (w : Wy) : PyData := .tuple [.int (w.1 : Nat), .int (w.2.1 : Nat), .int w.2.2]
def D4 (m : Nat) (ws : List Wy) : PyData := .tuple [.int (m : Nat), .list (ws.map K5)]
def Y7 : Ef -> PyData
 | none => .none
 | some (l, g, t) => .tuple [.int l, .int g, .int t]
def J8 (ns : List Nat) : List PyData := ns.map fun n => .int (n : Nat)
def Y8 (p : List Nat × Int) : PyData := .tuple [.list (J8 p.1), .int p.2]
local macro_rules | `(tactic| right) => `(tactic| try dsimp only [A3a, L8, A1f, A1g, dOp, A03, A1d, dT, A3c, A1e, dCb, A2q, A2p, dC, dF, A2s, A2r, A2f, A2a, A2b, dOr, A2c, A2d, A2e, dBV, dIf, v3, dIx, A2t, A2u, A20, A5d, A21, dSl, A23, A25, A26, A5e, A28, A27, aV, aS, Q9, arD, v7, O3, A5u, ixD, lenD, M5, m7, gI, gI0, A2h, A2i, A2j, A2k, A2l, A2m, gLt, gLe, gGt, gGe, gEq, m6, isN, A06, A2v, A2w, gI2, A5b, A08, A2y, A2z, A3b, A3g, A1h, A3d, A3e, gN, gT2, gT3, gT5, A5w, A1l, A5x, A5y, A5z, A3h, A1m, m8, A5v, A3f, gIn, gB2, oN, oS, b5, W8, A5i, A5j, A5k, A5l, A5m, A5n, V6, tyD, A89, A9a, A9b, A8a, A9c, A9d, M1, A9e, A9f, A9g, A79, M0, A5o, A5p, A5q, A5r, A5s, A5t, A9h, A9i, A3x, A1q, A3u, A3s, A3t, A3r, A6p, A6o, A31, A3y, v8, A3z, A30, U3, A6b, A6c, A6d, A6e, A6f, A6m, L5, A6g, i9, A6i, A6j, A6k, aW, A6l, A6n, A1r, arS, A1p, z4, A1n, A3j, A3k, A50, A51, A3l, A57, A58, pC, pV, pIx, slot2, A3p, A3q, oD, onD, Y7, T5, D4, K5, Y8])
local macro_rules | `(tactic| array_mem_dec) => `(tactic| try dsimp only [B2o, dIl, dIv, dIt, B2i, B6j, B2j, B2p, dIL, B7o, A3a, L8, A1f, A1g, dOp, A03, A1d, dT, A3c, A1e, dCb, A2q, A2p, dC, dF, A2s, A2r, A2f, A2a, A2b, dOr, A2c, A2d, A2e, dBV, dIf, v3, dIx, A2t, A2u, A20, A5d, A21, dSl, A23, A25, A26, A5e, A28, A27, aV, aS, Q9, arD, v7, O3, A5u, ixD, lenD, M5, m7, gI, gI0, A2h, A2i, A2j, A2k, A2l, A2m, gLt, gLe, gGt, gGe, gEq, m6, isN, A06, A2v, A2w, gI2, A5b, A08, A2y, A2z, A3b, A3g, A1h, A3d, A3e, gN, gT2, gT3, gT5, A5w, A1l, A5x, A5y, A5z, A3h, A1m, m8, A5v, A3f, gIn, gB2, oN, oS, b5, W8, A5i, A5j, A5k, A5l, A5m, A5n, V6, tyD, A89, A9a, A9b, A8a, A9c, A9d, M1, A9e, A9f, A9g, A79, M0, A5o, A5p, A5q, A5r, A5s, A5t, A9h, A9i, A3x, A1q, A3u, A3s, A3t, A3r, A6p, A6o, A31, A3y, v8, A3z, A30, U3, A6b, A6c, A6d, A6e, A6f, A6m, L5, A6g, i9, A6i, A6j, A6k, aW, A6l, A6n, A1r, arS, A1p, z4, A1n, A3j, A3k, A50, A51, A3l, A57, A58, pC, pV, pIx, slot2, A3p, A3q, oD, onD, Y7, T5, D4, K5, Y8])
local macro_rules | `(tactic| decreasing_trivial_pre_omega) => `(tactic| try dsimp only [Blk, A3a, L8, A1f, A1g, dOp, A03, A1d, dT, A3c, A1e, dCb, A2q, A2p, dC, dF, A2s, A2r, A2f, A2a, A2b, dOr, A2c, A2d, A2e, dBV, dIf, v3, dIx, A2t, A2u, A20, A5d, A21, dSl, A23, A25, A26, A5e, A28, A27, aV, aS, Q9, arD, v7, O3, A5u, ixD, lenD, M5, m7, gI, gI0, A2h, A2i, A2j, A2k, A2l, A2m, gLt, gLe, gGt, gGe, gEq, m6, isN, A06, A2v, A2w, gI2, A5b, A08, A2y, A2z, A3b, A3g, A1h, A3d, A3e, gN, gT2, gT3, gT5, A5w, A1l, A5x, A5y, A5z, A3h, A1m, m8, A5v, A3f, gIn, gB2, oN, oS, b5, W8, A5i, A5j, A5k, A5l, A5m, A5n, V6, tyD, A89, A9a, A9b, A8a, A9c, A9d, M1, A9e, A9f, A9g, A79, M0, A5o, A5p, A5q, A5r, A5s, A5t, A9h, A9i, A3x, A1q, A3u, A3s, A3t, A3r, A6p, A6o, A31, A3y, v8, A3z, A30, U3, A6b, A6c, A6d, A6e, A6f, A6m, L5, A6g, i9, A6i, A6j, A6k, aW, A6l, A6n, A1r, arS, A1p, z4, A1n, A3j, A3k, A50, A51, A3l, A57, A58, pC, pV, pIx, slot2, A3p, A3q, oD, onD, Y7, T5, D4, K5, Y8])
theorem R8 {t : Tb} {p : Nat} (h : p < t.length) : atI (A3 t) ((p : Nat) : Int) = some (oD (gt t p)) := W5 (by unfold A3; rw [N1, A3m h]; rfl)
theorem B8a {t : Rn} {p : Nat} (h : p < t.length) : atI (rnL t) ((p : Nat) : Int) = some (onD (gt t p)) := W5 (by unfold rnL; rw [N1, A3m h]; rfl)
theorem B0n {ws : List Wy} {n : Nat} {w : Wy} (h : ws[n]? = some w) : atI (ws.map K5) ((n : Nat) : Int) = some (K5 w) := W5 (by rw [N1, h]; rfl)
theorem o0 {n j : Nat} (h : j < n) : ixN n ((j : Nat) : Int) = some j := by
 unfold ixN
 rw [if_pos (by omega), if_pos (by omega)]
 simp
theorem D01 (o : Option Int) : isN (oD o) = o.isNone := by cases o <;> rfl
theorem D02 (o : Option Nat) : isN (onD o) = o.isNone := by cases o <;> rfl
theorem B0o {α : Type} {xs : List α} {x : α} (h : xs.getLast? = some x) : atI xs (-1) = some x := by
 obtain ⟨ys, rfl⟩ := List.getLast?_eq_some_iff.mp h
 exact B43 ys x
def C61 : DSp := fun ds Q => ∃ st lv ch : Int, ds = [.int st, .int lv, .int ch] /\ Q (oD (G6 st lv ch))
def C62 : DSp := fun ds Q => ∃ (st lv : Int) (cs : List Int), ds = [.int st, .int lv, .list (R7 cs)] /\ cs.length <= 900 /\ Q (.list (R7 (M6 st lv cs)))
def C63 : DSp := fun ds Q => ∃ st : Int, ds = [.int st] /\ Q (Y7 (some (0, 0, st)))
def C64 : DSp := fun ds Q => ∃ st c : Int, ds = [.int st, .int c] /\ Q (Y7 (b8 st c))
def C65 : DSp := fun ds Q => ∃ (e : Ef) (x : Int), ds = [Y7 e, .int x] /\ Q (oD (L3 e x))
def C66 : DSp := fun ds Q => ∃ a b : Ef, ds = [Y7 a, Y7 b] /\ Q (Y7 (V8 a b))
def C67 : DSp := fun ds Q => ∃ (st : Int) (cs : List Int), ds = [.int st, .list (R7 cs)] /\ Q (Y7 (fxF st cs))
def A1x (d : PyData) : Bool := V6 "int" d && !V6 "bool" d
def B3b : DSp := fun ds Q => ∃ d, ds = [d] /\ Q (.bool (A1x d))
def C68 : DSp := fun ds Q => ∃ (m : Int) (n : Int), ds = [.int m, .int n] /\ Q (.bool (decide (0 <= n /\ n < m)))
def C69 : DSp := fun ds Q => ∃ a b : Option Int, ds = [oD a, oD b] /\ Q (.bool (K8 a b))
def C7a : DSp := fun ds Q => ∃ (st : Int) (t : Tb) (w : Wy), ds = [.int st, .list (A3 t), K5 w] /\ w.1 < t.length /\ Q (oD (K0 st t w))
section
variable {P : Program} {w : World} {K : A4} {mg : Str -> Option Value} {base : Heap}
theorem B3c (T : Txt K mg) : D3 P w K mg base CX0 1 T.a_stepped T.d_stepped ["store", "level", "change"] (spD [.sh, .sh, .sh] C61) := by
 refine G5 T.F_stepped B7s rfl (fun C cdv A outer s H E hr => ⟨_, (@G4 _ _ _ _ _ _ (E1 (C8 (i := 3) B7s.nd rfl (B3 rfl) (F2 K6 M4 (A1 (pv 1)) (A1 (pv 2))))) (G4 (J3 (F8 X7 m5 (A1 (pv 3)) B1 (D2 _))
   (B2 (D0 J6))
   J2)
   (B2 (D0 (P2 A07 (F9 (A0z rfl) rfl T.n_min A02 (A8 (A1 (pv 3)) (A8 (A1 (pv 0)) C5 A0) A0) (he := A0) (hpl := (A5 A0 A6)))))))), fun ds Q hl h => ?_⟩)
 obtain ⟨st, lv, ch, rfl, q⟩ := h
 left
 unfold G6 at q
 by_cases c : lv + ch < 0
 ·rw [decide_eq_true c, if_pos rfl]
  rw [if_pos c] at q; exact q
 ·rw [decide_eq_false c, if_neg S0]
  rw [if_neg c] at q; exact q
theorem B8b (T : Txt K mg) : D3 P w K mg base CX0 1 T.a_is_whole T.d_is_whole ["thing"] (spD [.sh] B3b) := by
 refine G5 T.F_is_whole C4w rfl (fun C cdv A outer s H E hr => ⟨_, (@B2 _ _ _ _ (@D0 _ _ _ _ _ (@A04 _ _ _ _ _ _ _ _ (v6 B6g (F9 u8 rfl T.n_isinstance t9 (C3 (pv 0) (C3 (r8 (v := V.ty "int") rfl T.n_int A9r rfl) D6 A0) A0) (he := A0) (hpl := (A5 A0 A6)))) (Z7 (A9v (v6 B2e (F9 u8 rfl T.n_isinstance t9 (C3 (pv 0) (C3 (r8 (v := V.ty "bool") rfl T.n_bool B10 rfl) D6 A0) A0) (he := A0) (hpl := (A5 A0 A6))))))))), fun ds Q hl h => ?_⟩)
 obtain ⟨d, rfl, q⟩ := h
 left
 unfold A1x at q
 cases d <;> exact q
theorem C7b (T : Txt K mg) : D3 P w K mg base CX0 2 T.a_is_place T.d_is_place ["many", "thing"] (spD [.sh, .sh] C68) := by
 have G_is_whole := @B8b P w K mg base T
 have b_is_whole := B71 T
 refine G5 T.F_is_place C41 rfl (fun C cdv A outer s H E hr => ⟨_, (B2 (D0 (A04 (C1 (B6 G_is_whole (hr.mono (by decide)) rfl T.mg_is_whole T.kp_is_whole b_is_whole .nil B7 (A2 (A1 (pv 1)) C0 A0) (he := A0) (hpl := A6))) (Z7 (B2b A0w X7 B1 (A1 (pv 1)) (A1 (pv 0))))))), fun ds Q hl h => ?_⟩)
 obtain ⟨m, n, rfl, q⟩ := h
 left
 refine ⟨_, rfl, ?_⟩
 left
 by_cases c : 0 <= n
 ·by_cases c2 : n < m
  ·simpa [c, c2, A1x, V6, tyD, B3b] using q
  ·simpa [c, c2, A1x, V6, tyD] using q
 ·simpa [c, A1x, V6, tyD] using q
theorem B0p (T : Txt K mg) : D3 P w K mg base CX0 1 T.a_is_more T.d_is_more ["one", "other"] (spD [.sh, .sh] C69) := by
 refine G5 T.F_is_more C45 rfl (fun C cdv A outer s H E hr => ⟨_, (B2 (D0 (A04 (Z6 e9 v4 (A1 (pv 0)) J6 (D2 _)) (Z7 (A9u (Z6 U0 V0 (A1 (pv 1)) J6 (D2 _)) (Z7 (Z6 A0x A2o (A1 (pv 0)) (A1 (pv 1)) (D2 _)))))))), fun ds Q hl h => ?_⟩)
 obtain ⟨a, b, rfl, q⟩ := h
 cases a with
 | none =>
  left
  exact q
 | some x =>
  cases b with
  | none =>
   left
   exact q
  | some y =>
   left
   exact q
theorem B8c (T : Txt K mg) : D3 P w K mg base CX0 2 T.a_behind_way T.d_behind_way ["store", "table", "way"] (spD [.sh, .sh, .sh] C7a) := by
 have G_stepped := @B3c P w K mg base T
 have b_stepped := B3a T
 refine G5 T.F_behind_way B7u rfl (fun C cdv A outer s H E hr => ⟨_, (@G4 _ _ _ _ _ _ (E1 (C8 (i := 3) B7u.nd rfl (B3 rfl) (B9 (pv 1) (B9 (pv 2) (E9 (E6 (v := V.int 0) rfl T.mg_START ⟨_, rfl⟩)) (fun _ _ => rfl)) (fun _ _ => rfl)))) (@G4 _ _ _ _ _ _ (J3 (F8 U0 V0 (A1 (pv 3)) J6 (D2 _))
   (B2 (D0 J6))
   J2) (B2 (D0 (C1 (B6 G_stepped (hr.mono (by decide)) rfl T.mg_stepped T.kp_stepped b_stepped .nil B7 (A2 (A1 (pv 0)) (A2 (A1 (pv 3)) (A2 (B9 (pv 2) (E9 (E6 (v := V.int 2) rfl T.mg_CHANGE ⟨_, rfl⟩)) (fun _ _ => rfl)) C0 C2) A0) A0) (he := A0) (hpl := (A5 A0 (A5 C2 A6))))))))), fun ds Q hl h => ?_⟩)
 obtain ⟨st, t, w, rfl, hw, q⟩ := h
 right
 rw [R8 hw]
 unfold K0 at q
 cases e : gt t w.1 with
 | none =>
  rw [e] at q
  right
  exact q
 | some l =>
  rw [e] at q
  right
  exact ⟨_, _, _, rfl, q⟩
theorem C7c (T : Txt K mg) : D3 P w K mg base CX0 1 T.a_passed T.d_passed ["effect", "level"] (spD [.sh, .sh] C65) := by
 refine G5 T.F_passed C40 rfl (fun C cdv A outer s H E hr => ⟨_, (@G4 _ _ _ _ _ _ (J3 (PW.pt (W7 (F8 U0 V0 (A1 (pv 0)) J6 (D2 _)) (Y2 (F8 X7 m5 (A1 (pv 1)) (B9 (pv 0) (E9 (E6 (v := V.int 0) rfl T.mg_LEAST ⟨_, rfl⟩)) (fun _ _ => rfl)) (D2 _)))))
   (B2 (D0 J6))
   J2) (B2 (D0 (P2 A07 (F9 (A0z rfl) rfl T.n_min A02 (A8 (F2 K6 M4 (A1 (pv 1)) (B9 (pv 0) (E9 (E6 (v := V.int 1) rfl T.mg_GAIN ⟨_, rfl⟩)) (fun _ _ => rfl))) (A8 (B9 (pv 0) (E9 (E6 (v := V.int 2) rfl T.mg_TOP ⟨_, rfl⟩)) (fun _ _ => rfl)) C5 C2) J1) (he := J1) (hpl := (A5 C2 A6))))))), fun ds Q hl h => ?_⟩)
 obtain ⟨e, x, rfl, q⟩ := h
 rcases e with _ | ⟨l, g, t⟩
 ·right
  exact q
 ·unfold L3 at q
  dsimp only at q
  right
  by_cases c : x < l
  ·rw [if_pos c] at q
   simp only [c, decide_true, if_true]
   exact q
  ·rw [if_neg c] at q
   simp only [c, decide_false, B3z, if_false]
   exact q
end
section
variable {P : Program} {w : World} {K : A4} {mg : Str -> Option Value} {base : Heap}
theorem C7d (T : Txt K mg) : D3 P w K mg base CX0 2 T.a_joined T.d_joined ["one", "other"] (spD [.sh, .sh] C66) := by
 have G_passed := @C7c P w K mg base T
 have b_passed := C5s T
 refine G5 T.F_joined B7t rfl (fun C cdv A outer s H E hr => ⟨_, (@G4 _ _ _ _ _ _ (@J3 _ _ _ _ _ _ _ _ _ (PW.pt (W7 (F8 U0 V0 (A1 (pv 0)) J6 (D2 _)) (W7 (F8 U0 V0 (A1 (pv 1)) J6 (D2 _)) (Y2 (F8 X7 m5 (B9 (pv 0) (E9 (E6 (v := V.int 2) rfl T.mg_TOP ⟨_, rfl⟩)) (fun _ _ => rfl)) (B9 (pv 1) (E9 (E6 (v := V.int 0) rfl T.mg_LEAST ⟨_, rfl⟩)) (fun _ _ => rfl)) (D2 _)))))) (B2 (D0 J6)) J2) (@G4 _ _ _ _ _ _ (@E1 _ _ _ _ _ (@C8 _ _ 2 _ _ _ _ B7t.nd rfl (B3 rfl) (@P2 _ _ _ _ _ _ B6a (@F9 _ _ _ _ _ _ _ _ _ (B4s rfl) rfl T.n_max B5k (A8 (B9 (pv 0) (E9 (E6 (v := V.int 0) rfl T.mg_LEAST ⟨_, rfl⟩)) (fun _ _ => rfl)) (A8 (F2 A0t A05 (B9 (pv 1) (E9 (E6 (v := V.int 0) rfl T.mg_LEAST ⟨_, rfl⟩)) (fun _ _ => rfl)) (B9 (pv 0) (E9 (E6 (v := V.int 1) rfl T.mg_GAIN ⟨_, rfl⟩)) (fun _ _ => rfl))) C5 J1) C2) (by decide) (by decide) C2 ((A5 J1 A6)))) (by rfl) (by first | exact .inl rfl | exact .inr rfl | assumption))) (@B2 _ _ _ _ (@D0 _ _ _ _ _ (@Q8 _ _ _ _ _ _ (@A8 _ _ _ _ _ _ (A1 (pv 2)) (@A8 _ _ _ _ _ _ (F2 K6 M4 (B9 (pv 0) (E9 (E6 (v := V.int 1) rfl T.mg_GAIN ⟨_, rfl⟩)) (fun _ _ => rfl)) (B9 (pv 1) (E9 (E6 (v := V.int 1) rfl T.mg_GAIN ⟨_, rfl⟩)) (fun _ _ => rfl))) (A8 (C1 (B6 G_passed (hr.mono (by decide)) rfl T.mg_passed T.kp_passed b_passed .nil B7 (A2 (A1 (pv 1)) (A2 (B9 (pv 0) (E9 (E6 (v := V.int 2) rfl T.mg_TOP ⟨_, rfl⟩)) (fun _ _ => rfl)) C0 C2) A0) (he := A0) (hpl := (A5 C2 A6)))) C5 E3) J1) A0)))))), fun ds Q hl h => ?_⟩)
 obtain ⟨a, b, rfl, q⟩ := h
 rcases a with _ | ⟨l1, g1, t1⟩
 ·right
  exact q
 ·rcases b with _ | ⟨l2, g2, t2⟩
  ·right
   exact q
  ·right
   by_cases c : t1 < l2
   ·rw [A8s (a := (l1, g1, t1)) (b := (l2, g2, t2)) c] at q
    simp only [c, decide_true, if_true]
    exact q
   ·rw [A54 (a := (l1, g1, t1)) (b := (l2, g2, t2)) c] at q
    simp only [c, decide_false, B3z, if_false]
    refine ⟨some (l2, g2, t2), t1, rfl, ?_⟩
    have e : oD (L3 (some (l2, g2, t2)) t1) = .int (if t2 < t1 + g2 then t2 else t1 + g2) := by
     unfold L3
     dsimp only
     rw [if_neg c]
     rfl
    rw [e]
    left
    simp only [Y7] at q
    exact ⟨by decide, q⟩
end
section
variable {P : Program} {w : World} {K : A4} {mg : Str -> Option Value} {base : Heap}
theorem C7e (T : Txt K mg) : D3 P w K mg base CX0 1 T.a_effect_of_none T.d_effect_of_none ["store"] (spD [.sh] C63) := by
 refine G5 T.F_effect_of_none C4y rfl (fun C cdv A outer s H E hr => ⟨_, (B2 (D0 (Q8 (A8 B1 (A8 B1 (A8 (A1 (pv 0)) C5 A0) G1) G1)))), fun ds Q hl h => ?_⟩)
 obtain ⟨st, rfl, q⟩ := h
 right
 exact ⟨by decide, q⟩
theorem C7f (T : Txt K mg) : D3 P w K mg base CX0 1 T.a_effect_of_one T.d_effect_of_one ["store", "change"] (spD [.sh, .sh] C64) := by
 refine G5 T.F_effect_of_one C4z rfl (fun C cdv A outer s H E hr => ⟨_, (@G4 _ _ _ _ _ _ (J3 (F8 X7 m5 (F2 K6 M4 (A1 (pv 0)) (A1 (pv 1))) B1 (D2 _))
   (B2 (D0 J6))
   J2) (@B2 _ _ _ _ (@D0 _ _ _ _ _ (@Q8 _ _ _ _ _ _ (@A8 _ _ _ _ _ _ (P2 B6a (F9 (B4s rfl) rfl T.n_max B5k (A8 B1 (A8 (j9 (A1 (pv 1))) C5 B11) G1) (he := G1) (hpl := (A5 B11 A6)))) (A8 (A1 (pv 1)) (A8 (P2 A07 (F9 (A0z rfl) rfl T.n_min A02 (A8 (A1 (pv 0)) (A8 (F2 K6 M4 (A1 (pv 0)) (A1 (pv 1))) C5 J1) A0) (he := A0) (hpl := (A5 J1 A6)))) C5 E3) A0) E3))))), fun ds Q hl h => ?_⟩)
 obtain ⟨st, c, rfl, q⟩ := h
 unfold b8 at q
 right
 by_cases d : st + c < 0
 ·rw [if_pos d] at q
  simp only [d, decide_true, if_true]
  exact q
 ·rw [if_neg d] at q
  simp only [d, decide_false, B3z, if_false]
  exact ⟨by decide, q⟩
theorem C7g (T : Txt K mg) : D3 P w K mg base CX0 3 T.a_effect_of T.d_effect_of ["store", "changes"] (spD [.sh, .sh] C67) := by
 have G_effect_of_none := @C7e P w K mg base T
 have b_effect_of_none := C5p T
 have G_effect_of_one := @C7f P w K mg base T
 have b_effect_of_one := C5q T
 have G_joined := @C7d P w K mg base T
 have b_joined := C5t T
 refine G5 T.F_effect_of B0f rfl (fun C cdv A outer s H E hr => ⟨_, (@G4 _ _ _ _ _ _ (E1 (C8 (i := 2) B0f.nd rfl (B3 rfl) (C1 (B6 G_effect_of_none (hr.mono (by decide)) rfl T.mg_effect_of_none T.kp_effect_of_none b_effect_of_none .nil B7 (A2 (A1 (pv 0)) C0 A0) (he := A0) (hpl := A6))))) (@G4 _ _ _ _ _ _ (@P5 _ _ _ _ _ _ (@P0 _ _ _ _ _ _ _ _ N4 rfl (T2 (pv 1)) (T3 (K3 (i := 3) B0f.nd rfl (B3 rfl))) (@B2 _ _ _ _ (@E1 _ _ _ _ _ (@C8 _ _ 2 _ _ _ _ B0f.nd rfl (B3 rfl) (@C1 _ _ _ _ _ _ _ (@B6 _ _ _ _ _ _ _ _ _ _ _ _ _ _ _ _ G_joined (hr.mono (by decide)) rfl T.mg_joined T.kp_joined b_joined .nil B7 (A2 (A1 (pv 2)) (A2 (C1 (B6 G_effect_of_one (hr.mono (by decide)) rfl T.mg_effect_of_one T.kp_effect_of_one b_effect_of_one .nil B7 (A2 (A1 (pv 0)) (A2 (A1 (pv 3)) C0 A0) A0) (he := A0) (hpl := (A5 A0 A6)))) C0 E3) A0) (by decide) A0 ((A5 E3 A6)))) (by rfl) (by first | exact .inl rfl | exact .inr rfl | assumption)))) (by intro _; rfl))) (B2 (D0 (A1 (pv 2)))))), fun ds Q hl h => ?_⟩)
 obtain ⟨st, cs, rfl, q⟩ := h
 left
 refine ⟨st, rfl, ?_⟩
 array_get_dec
 refine ⟨fun r ρ => ∃ (cs' : List Int) (e : Ef) (z0 z : Sl), r = R7 cs' /\ ρ = [Sl.sh (.int st), z0, Sl.sh (Y7 e), z] /\ Q (Y7 (foF st e cs')), ⟨cs, _, _, _, rfl, rfl, q⟩, ?_, ?_⟩
 ·rintro x r ρ ⟨cs', e, z0, z, h1, rfl, q⟩
  cases cs' with
  | nil => cases h1
  | cons c cs' =>
   cases (show x :: r = PyData.int c :: R7 cs' from h1)
   sizeOf_list_dec
   refine ⟨_, _, rfl, ?_⟩
   left
   refine ⟨_, _, rfl, ?_⟩
   exact ⟨cs', _, _, _, rfl, rfl, q⟩
 ·rintro ρ ⟨cs', e, z0, z, h1, rfl, q⟩
  cases cs' with
  | nil =>
   left
   exact q
  | cons c cs' => cases h1
theorem C7h (T : Txt K mg) : D3 P w K mg base CX0 2 T.a_levels_along T.d_levels_along ["store", "level", "changes"] (spD [.sh, .sh, .sh] C62) := by
 have G_stepped := @B3c P w K mg base T
 have b_stepped := B3a T
 refine G5 T.F_levels_along B0e rfl (fun C cdv A outer s H E hr => ⟨_, (@G4 _ _ _ _ _ _ (g8 (C8 (i := 3) B0e.nd rfl (B3 rfl) (L6 (A8 (A1 (pv 1)) C5 A0)))) (@G4 _ _ _ _ _ _ (@P5 _ _ _ _ _ _ (@P0 _ _ _ _ _ _ _ _ N4 rfl (T2 (pv 2)) (T3 (K3 (i := 4) B0e.nd rfl (B3 rfl))) (@G4 _ _ _ _ _ _ (E1 (C8 (i := 5) B0e.nd rfl (B3 rfl) (C1 (B6 G_stepped (hr.mono (by decide)) rfl T.mg_stepped T.kp_stepped b_stepped .nil B7 (A2 (A1 (pv 0)) (A2 (B9 (pv 3) (j9 B1) (fun _ _ => rfl)) (A2 (A1 (pv 4)) C0 A0) C2) A0) (he := A0) (hpl := (A5 C2 (A5 A0 A6))))))) (G4 (J3 (F8 U0 V0 (A1 (pv 5)) J6 (D2 _))
   (B2 (D0 (A1 (pv 3))))
   J2)
   (B2 (A1i (Z4 (j8 A0m A4r A4s A00 (pv 3) (C3 (A1 (pv 5)) D6 A0))))))) (by intro _; rfl))) (B2 (D0 (A1 (pv 3)))))), fun ds Q hl h => ?_⟩)
 obtain ⟨st, lv, cs, rfl, hn, q⟩ := h
 array_get_dec
 refine ⟨by decide, fun r ρ => ∃ (cs' ys : List Int) (l : Int) (z0 z1 z2 : Sl), r = R7 cs' /\ ρ = [Sl.sh (.int st), Sl.sh (.int lv), z0, Sl.ow (R7 (ys ++ [l])), z1, z2] /\ ys.length + cs'.length = cs.length /\ ys ++ M6 st l cs' = M6 st lv cs, ⟨cs, [], lv, _, _, _, rfl, rfl, by simp, rfl⟩, ?_, ?_⟩
 ·rintro x r ρ ⟨cs', ys, l, z0, z1, z2, h1, rfl, h2, h3⟩
  cases cs' with
  | nil => cases h1
  | cons c cs' =>
   cases (show x :: r = PyData.int c :: R7 cs' from h1)
   have hlast : atI (R7 (ys ++ [l])) (-1) = some (.int l) := B0o (by unfold R7; simp)
   sizeOf_list_dec
   rw [hlast]
   left
   refine ⟨_, _, _, rfl, ?_⟩
   cases e : G6 st l c with
   | none =>
    rw [C36 e] at h3
    right
    rw [h3]
    exact q
   | some v =>
    rw [C37 e] at h3
    right
    refine ⟨by unfold R7; rw [E4, M7]; simp at h2 ⊢; omega, cs', ys ++ [l], v, z0, _, _, rfl, by rw [show R7 (ys ++ [l] ++ [v]) = R7 (ys ++ [l]) ++ [.int v] by unfold R7; simp], by simp at h2 ⊢; omega, by rw [<- h3]; simp⟩
 ·rintro ρ ⟨cs', ys, l, z0, z1, z2, h1, rfl, h2, h3⟩
  cases cs' with
  | nil =>
   left
   have e : ys ++ [l] = M6 st lv cs := h3
   rw [e]
   exact q
  | cons c cs' => cases h1
end
def C7i (w : Wy) : Wy := (w.2.1, w.1, w.2.2)
theorem N2 {t : Tb} : (A3 t).length = t.length := by unfold A3; rw [E4]
theorem C7j {t : Rn} : (rnL t).length = t.length := by unfold rnL; rw [E4]
theorem A4i {t : List Nat} : (J8 t).length = t.length := by unfold J8; rw [E4]
theorem D03 {t : List Int} : (R7 t).length = t.length := by unfold R7; rw [E4]
theorem B3d {t : Tb} {i : Nat} {x : Option Int} : (A3 t).set i (oD x) = A3 (t.set i x) := by unfold A3; rw [A8b]
theorem C7k {t : Rn} {i n : Nat} : (rnL t).set i (.int (n : Nat)) = rnL (t.set i (some n)) := by unfold rnL; rw [A8b]; rfl
theorem B8d {n : Nat} : A24 [PyData.none] n = rnL (D8 n none) := by
 unfold A24 rnL
 induction n with
 | zero => rfl
 | succ n ih => rw [j3, j3, A4p, o8, ih]; rfl
theorem C7l {n : Nat} : A24 [PyData.none] n = A3 (D8 n none) := by
 unfold A24 A3
 induction n with
 | zero => rfl
 | succ n ih => rw [j3, j3, A4p, o8, ih]; rfl
theorem C7m {ws : List Wy} : Y3 (ws.map K5) = ws.zipIdx.map fun p => .tuple [.int (p.2 : Nat), K5 p.1] := by
 unfold Y3
 rw [List.zipIdx_map, j5]
 rfl
def D04 : DSp := fun ds Q => ∃ (m : Nat) (ws : List Wy), ds = [D4 m ws] /\ ws.length <= 900 /\ Q (D4 m (ws.map C7i))
def C7n : DSp := fun ds Q => ∃ (m : Nat) (ws : List Wy) (ns : List Nat), ds = [D4 m ws, .list (J8 ns)] /\ (∀ n ∈ ns, n < ws.length) /\ ns.length <= 900 /\ Q (.list (R7 (chs ws ns)))
def C7o : DSp := fun ds Q => ∃ t : Tb, ds = [.list (A3 t)] /\ t.length <= 900 /\ Q (T5 (t, D8 t.length none))
def C7p : DSp := fun ds Q => ∃ (m : Nat) (ws : List Wy) (st : Int) (t s : Tb), ds = [D4 m ws, .int st, .list (A3 t), .list (A3 s)] /\ L1 m ws /\ t.length = m /\ s.length = m /\ Q (T5 (N9 m ws st t s))
def A8y (m : Nat) (ws : List Wy) (rs : List Rw) : Prop := ∀ r ∈ rs, r.2.length = m /\ ∀ q n, gt r.2 q = some n -> n < ws.length
def C7q : DSp := fun ds Q => ∃ (m : Nat) (ws : List Wy) (rs : List Rw) (p : Nat), ds = [D4 m ws, .list (rs.map T5), .int (p : Nat)] /\ p < m /\ L1 m ws /\ A8y m ws rs /\ rs.length <= 900 /\ Q (.tuple [.int ((wlk ws rs.reverse p).1 : Nat), .list (J8 (wlk ws rs.reverse p).2)])
section
variable {P : Program} {w : World} {K : A4} {mg : Str -> Option Value} {base : Heap}
theorem C7r (T : Txt K mg) : D3 P w K mg base CX0 1 T.a_changes_of T.d_changes_of ["land", "numbers"] (spD [.sh, .sh] C7n) := by
 refine G5 T.F_changes_of C42 rfl (fun C cdv A outer s H E hr => ⟨_, (B2 (D0 (D9 (W9 rfl (V5 (M3.new (N := ["land", "numbers"]) (osc := A7 A33) (by decide +kernel)) rfl (T2 (pv 1)) (fun _ => P3) (fun _ => (K7 (K7 (B9 (pv 0) (E9 (E6 (v := V.int 1) rfl T.mg_WAYS ⟨_, rfl⟩)) (fun _ _ => rfl)) (A1 (pv 2)) (fun _ _ => rfl)) (E9 (E6 (v := V.int 2) rfl T.mg_CHANGE ⟨_, rfl⟩)) (fun _ _ => rfl)))))))), fun ds Q hl h => ?_⟩)
 obtain ⟨m, ws, ns, rfl, hb, hn, q⟩ := h
 array_mem_dec
 refine ⟨⟨rfl, by rw [A4i]; omega⟩, ?_⟩
 unfold J8
 refine V7 (f := fun n => .int (b9 ws n)) (fun n hm Q' q' => ?_) ?_
 ·obtain ⟨w, hw⟩ : ∃ w, ws[n]? = some w := ⟨_, J5 (hb n hm)⟩
  right
  rw [B0n hw]
  right
  have e : b9 ws n = w.2.2 := by unfold b9; rw [hw]
  rw [e] at q'
  exact q'
 ·unfold R7 chs at q
  rw [j5] at q
  exact q
theorem C7s (T : Txt K mg) : D3 P w K mg base CX0 1 T.a_first_row T.d_first_row ["table"] (spD [.bo] C7o) := by
 refine G5 T.F_first_row C46 rfl (fun C cdv A outer s H E hr => ⟨_, (B2 (D0 (Q8 (A8 (D9 (A09 (Y0 t6 rfl T.n_list W6 (C3 (pv 0) D6 A0) (he := A0) (hpl := A6)))) (A8 (D9 (B2d (D9 (L6 (A8 J6 C5 G1))) (S6 (F9 N6 rfl T.n_len N7 (C3 (pv 0) D6 A0) (he := A0) (hpl := A6))))) C5 J1) E3)))), fun ds Q hl h => ?_⟩)
 obtain ⟨t, rfl, hn, q⟩ := h
 right
 refine ⟨by decide, ⟨by omega, by rw [N2]; omega, by decide⟩, by decide, ?_⟩
 unfold T5 at q
 rw [N2, show ((t.length : Nat) : Int).toNat = t.length by simp, B8d]
 exact q
theorem C7t (T : Txt K mg) : D3 P w K mg base CX0 3 T.a_row_behind T.d_row_behind ["land", "store", "table", "stayed"] (spD [.sh, .sh, .sh, .sh] C7p) := by
 have G_behind_way := @B8c P w K mg base T
 have b_behind_way := B72 T
 have G_is_more := @B0p P w K mg base T
 have b_is_more := B0l T
 refine G5 T.F_row_behind A7v rfl (fun C cdv A outer s H E hr => ⟨_, (@G4 _ _ _ _ _ _ (g8 (C8 (i := 4) A7v.nd rfl (B3 rfl) (A09 (Y0 t6 rfl T.n_list W6 (C3 (pv 3) D6 A0) (he := A0) (hpl := A6))))) (@G4 _ _ _ _ _ _ (g8 (C8 (i := 5) A7v.nd rfl (B3 rfl) (B2d (D9 (L6 (A8 J6 C5 G1))) (B9 (pv 0) (E9 (E6 (v := V.int 0) rfl T.mg_MANY ⟨_, rfl⟩)) (fun _ _ => rfl))))) (@G4 _ _ _ _ _ _ (@P5 _ _ _ _ _ _ (@P0 _ _ _ _ _ _ _ _ N4 rfl (B2k (B12 rfl T.n_enumerate (C3 (B9 (pv 0) (E9 (E6 (v := V.int 1) rfl T.mg_WAYS ⟨_, rfl⟩)) (fun _ _ => rfl)) D6 C2))) (A93 (A0q (n := 2) rfl (S3 (K3 (i := 6) A7v.nd rfl (B3 rfl)) (S3 (K3 (i := 7) A7v.nd rfl (B3 rfl)) A0p)))) (@G4 _ _ _ _ _ _ (E1 (C8 (i := 8) A7v.nd rfl (B3 rfl) (C1 (B6 G_behind_way (hr.mono (by decide)) rfl T.mg_behind_way T.kp_behind_way b_behind_way .nil B7 (A2 (A1 (pv 1)) (A2 (A1 (pv 2)) (A2 (A1 (pv 7)) C0 A0) A0) A0) (he := A0) (hpl := (A5 A0 (A5 A0 A6))))))) (@B2 _ _ _ _ (@J3 _ _ _ _ _ _ _ _ _ (U9 (C1 (B6 G_is_more (hr.mono (by decide)) rfl T.mg_is_more T.kp_is_more b_is_more .nil B7 (A2 (A1 (pv 8)) (A2 (B9 (pv 4) (B9 (pv 7) (E9 (E6 (v := V.int 1) rfl T.mg_END ⟨_, rfl⟩)) (fun _ _ => rfl)) (fun _ _ => rfl)) C0 C2) A0) (he := A0) (hpl := (A5 C2 A6))))) (G4 (A5h (S9 (A1 (pv 8)) (V4 (pv 4) (B9 (pv 7) (E9 (E6 (v := V.int 1) rfl T.mg_END ⟨_, rfl⟩)) (fun _ _ => rfl)) U1)))
   (B2 (A5h (S9 (A1 (pv 6)) (V4 (pv 5) (B9 (pv 7) (E9 (E6 (v := V.int 1) rfl T.mg_END ⟨_, rfl⟩)) (fun _ _ => rfl)) U1))))) J2))) (by intro _; rfl))) (B2 (D0 (Q8 (A8 (A1 (pv 4)) (A8 (A1 (pv 5)) C5 A0) A0))))))), fun ds Q hl h => ?_⟩)
 obtain ⟨m, ws, st, t, s0, rfl, ok, ht, hs, q⟩ := h
 have m2 := ok.m2
 array_mem_dec
 refine ⟨by decide, ⟨by omega, by omega, by decide⟩, ?_⟩
 rw [show ((m : Nat) : Int).toNat = m by simp, B8d, C7m]
 refine ⟨fun r ρ => ∃ (R : List (Wy × Nat)) (acc : Tb × Rn) (z1 z2 z3 : Sl), r = R.map (fun p => .tuple [.int (p.2 : Nat), K5 p.1]) /\ ρ = [Sl.sh (D4 m ws), Sl.sh (.int st), Sl.sh (.list (A3 t)), Sl.sh (.list (A3 s0)), Sl.ow (A3 acc.1), Sl.ow (rnL acc.2), z1, z2, z3] /\ acc.1.length = m /\ acc.2.length = m /\ (∀ p ∈ R, p.1 ∈ ws) /\ R.foldl (A1o st t) acc = N9 m ws st t s0,
  ⟨ws.zipIdx, (s0, D8 m none), _, _, _, rfl, rfl, hs, by simp, fun p hp => ?_, rfl⟩, ?_, ?_⟩
 ·obtain ⟨w, n⟩ := p
  rw [A88] at hp
  exact N3 hp
 ·rintro x r ρ ⟨R, acc, z1, z2, z3, h1, rfl, l1, l2, hR, hF⟩
  cases R with
  | nil => cases h1
  | cons p R =>
   cases (show x :: r = PyData.tuple [.int (p.2 : Nat), K5 p.1] :: R.map (fun p => .tuple [.int (p.2 : Nat), K5 p.1]) from h1)
   have hw := hR p B4
   have e1 := ok.en _ hw
   have hF' : R.foldl (A1o st t) (A1o st t acc p) = N9 m ws st t s0 := hF
   sizeOf_list_dec
   refine ⟨_, _, _, rfl, by rw [ht]; exact ok.st _ hw, ?_⟩
   unfold K5
   left
   rw [R8 (by rw [l1]; exact e1)]
   left
   refine ⟨_, _, rfl, ?_⟩
   unfold A1o at hF'
   cases c : K8 (K0 st t p.1) (gt acc.1 p.1.2.1) with
   | true =>
    rw [if_pos c] at hF'
    left
    rw [o0 (by rw [N2, l1]; exact e1)]
    left
    rw [o0 (by rw [C7j, l2]; exact e1), B3d]
    left
    rw [C7k]
    exact ⟨R, _, _, _, _, rfl, rfl, by rw [L9]; exact l1, by rw [L9]; exact l2, fun p hp => hR p (A9 _ hp), hF'⟩
   | false =>
    rw [if_neg (by rw [c]; exact S0)] at hF'
    left
    exact ⟨R, acc, _, _, _, rfl, rfl, l1, l2, fun p hp => hR p (A9 _ hp), hF'⟩
 ·rintro ρ ⟨R, acc, z1, z2, z3, h1, rfl, l1, l2, hR, hF⟩
  cases R with
  | cons p R => cases h1
  | nil =>
   left
   refine ⟨by decide, ?_⟩
   have hF' : acc = N9 m ws st t s0 := hF
   rw [<- hF'] at q
   exact q
theorem C7u (T : Txt K mg) : D3 P w K mg base CX0 1 T.a_walk_to T.d_walk_to ["land", "rows", "place"] (spD [.sh, .sh, .sh] C7q) := by
 refine G5 T.F_walk_to A7w rfl (fun C cdv A outer s H E hr => ⟨_, (@G4 _ _ _ _ _ _ (E1 (C8 (i := 3) A7w.nd rfl (B3 rfl) (A1 (pv 2)))) (@G4 _ _ _ _ _ _ (g8 (C8 (i := 4) A7w.nd rfl (B3 rfl) (L6 C5))) (@G4 _ _ _ _ _ _ (@P5 _ _ _ _ _ _ (@P0 _ _ _ _ _ _ _ _ N4 rfl (C3c (C2e rfl T.n_reversed (C3 (A1 (pv 1)) D6 A0))) (T3 (K3 (i := 5) A7w.nd rfl (B3 rfl))) (@G4 _ _ _ _ _ _ (E1 (C8 (i := 6) A7w.nd rfl (B3 rfl) (K7 (B9 (pv 5) (E9 (E6 (v := V.int 1) rfl T.mg_RISEN ⟨_, rfl⟩)) (fun _ _ => rfl)) (A1 (pv 3)) (fun _ _ => rfl)))) (@B2 _ _ _ _ (@J3 _ _ _ _ _ _ _ _ _ (F8 e9 v4 (A1 (pv 6)) J6 (D2 _)) (@G4 _ _ _ _ _ _ (A1i (Z4 (j8 A0m A4r A4s A00 (pv 4) (C3 (A1 (pv 6)) D6 A0)))) (B2 (E1 (C8 (i := 3) A7w.nd rfl (B3 rfl) (K7 (K7 (B9 (pv 0) (E9 (E6 (v := V.int 1) rfl T.mg_WAYS ⟨_, rfl⟩)) (fun _ _ => rfl)) (A1 (pv 6)) (fun _ _ => rfl)) (E9 (E6 (v := V.int 0) rfl T.mg_START ⟨_, rfl⟩)) (fun _ _ => rfl)))))) J2))) (by intro _; rfl))) (B2 (D0 (Q8 (A8 (A1 (pv 3)) (A8 (D9 (C3a (C2c rfl T.n_list rfl T.n_reversed rfl (C3 (A1 (pv 4)) D6 A0)))) C5 E3) A0))))))), fun ds Q hl h => ?_⟩)
 obtain ⟨m, ws, rs, p, rfl, hp, ok, hr2, hn, q⟩ := h
 array_mem_dec
 refine ⟨by decide, ?_⟩
 refine ⟨fun r ρ => ∃ (R : List Rw) (here : Nat) (acc : List Nat) (z1 z2 : Sl), r = R.map T5 /\ ρ = [Sl.sh (D4 m ws), Sl.sh (.list (rs.map T5)), Sl.sh (.int (p : Nat)), Sl.sh (.int (here : Nat)), Sl.ow (J8 acc), z1, z2] /\ here < m /\ A8y m ws R /\ acc.length + R.length <= rs.length /\ wlk ws rs.reverse p = ((wlk ws R here).1, (wlk ws R here).2 ++ acc.reverse),
  ⟨rs.reverse, p, [], _, _, by rw [List.map_reverse], rfl, hp, fun r hr => hr2 r (List.mem_reverse.mp hr), by simp, by simp⟩, ?_, ?_⟩
 ·rintro x r ρ ⟨R, here, acc, z1, z2, h1, rfl, hh, hR, hl2, hW⟩
  cases R with
  | nil => cases h1
  | cons r0 R =>
   cases (show x :: r = T5 r0 :: R.map T5 from h1)
   obtain ⟨l0, b0⟩ := hR r0 B4
   decreasing_trivial_pre_omega
   rw [B8a (by rw [l0]; exact hh)]
   cases c : gt r0.2 here with
   | none =>
    right
    refine ⟨R, here, acc, _, _, rfl, rfl, hh, fun r hr => hR r (A9 _ hr), by simp at hl2; omega, ?_⟩
    rw [hW]
    have : wlk ws (r0 :: R) here = wlk ws R here := by
     show (match gt r0.2 here with
      | none => wlk ws R here
      | some n => ((wlk ws R (V2 ws n)).1, (wlk ws R (V2 ws n)).2 ++ [n])) = _
     rw [c]
    rw [this]
   | some n =>
    have hn' := b0 here n c
    obtain ⟨w, hw⟩ : ∃ w, ws[n]? = some w := ⟨_, J5 hn'⟩
    right
    refine ⟨by rw [A4i]; simp at hl2; omega, ?_⟩
    rw [B0n hw]
    right
    refine ⟨R, w.1, acc ++ [n], _, _, rfl, by rw [show J8 (acc ++ [n]) = J8 acc ++ [.int (n : Nat)] by unfold J8; simp], ok.st w (N3 hw), fun r hr => hR r (A9 _ hr), by simp at hl2 ⊢; omega, ?_⟩
    ·rw [hW]
     have : wlk ws (r0 :: R) here = ((wlk ws R w.1).1, (wlk ws R w.1).2 ++ [n]) := by
      show (match gt r0.2 here with
       | none => wlk ws R here
       | some n => ((wlk ws R (V2 ws n)).1, (wlk ws R (V2 ws n)).2 ++ [n])) = _
      rw [c]
      have e : V2 ws n = w.1 := by unfold V2; rw [hw]
      show ((wlk ws R (V2 ws n)).1, (wlk ws R (V2 ws n)).2 ++ [n]) = _
      rw [e]
     rw [this]
     simp
 ·rintro ρ ⟨R, here, acc, z1, z2, h1, rfl, hh, hR, hl2, hW⟩
  cases R with
  | cons p R => cases h1
  | nil =>
   left
   refine ⟨by decide, ?_⟩
   rw [hW] at q
   have e : (J8 acc).reverse = J8 acc.reverse := by unfold J8; rw [List.map_reverse]
   rw [e]
   exact q
end
inductive Pth (ws : List Wy) : Nat -> List Nat -> Nat -> Prop
 | nil {p} : Pth ws p [] p
 | cons {n w ns q} : ws[n]? = some w -> Pth ws w.2.1 ns q -> Pth ws w.1 (n :: ns) q
abbrev Pt := List Nat × Int
inductive Trp (ws : List Wy) : Nat -> List Pt -> Nat -> Prop
 | nil {p} : Trp ws p [] p
 | cons {p q r pt ps} : Pth ws p pt.1 q -> pt.1 ≠ [] -> 1 <= pt.2 -> pt.2 <= 1000000000000000000000000 -> (pt.2 = 1 \/ q = p) -> Trp ws q ps r -> Trp ws p (pt :: ps) r
theorem Pth.app {ws : List Wy} {a b c : Nat} {xs ys : List Nat} (h1 : Pth ws a xs b) (h2 : Pth ws b ys c) : Pth ws a (xs ++ ys) c := by
 induction h1 with
 | nil => exact h2
 | cons e _ ih => exact .cons e (ih h2)
theorem Trp.app {ws : List Wy} {a b c : Nat} {xs ys : List Pt} (h1 : Trp ws a xs b) (h2 : Trp ws b ys c) : Trp ws a (xs ++ ys) c := by
 induction h1 with
 | nil => exact h2
 | cons e1 e2 e3 e4 e5 _ ih => exact .cons e1 e2 e3 e4 e5 (ih h2)
def prt (ns : List Nat) : List Pt := if ns.isEmpty then [] else [(ns, 1)]
theorem B8e {ws : List Wy} {a b : Nat} {ns : List Nat} (h : Pth ws a ns b) : Trp ws a (prt ns) b := by
 cases h with
 | nil => exact .nil
 | cons e t => exact .cons (pt := (_, 1)) (.cons e t) (by simp) (show (1 : Int) <= 1 by decide) (show (1 : Int) <= 1000000000000000000000000 by decide) (.inl rfl) .nil
theorem Wk.pth {ws : List Wy} {st : Int} {b : Tb} {N : List Nat} {P : Nat -> Nat} {L : Nat -> Int} (W : Wk ws st b N P L) {i : Nat} : ∀ {j : Nat}, i <= j -> j <= N.length -> Pth ws (P i) (My.seg N i j) (P j)
 | 0, h1, _ => by
  have : i = 0 := by omega
  subst this
  rw [A55]; exact .nil
 | j + 1, h1, h2 => by
  by_cases e : i = j + 1
  ·subst e
   rw [A55]; exact .nil
  ·rw [B2z (by omega) (by omega)]
   obtain ⟨w, hw, e1, e2, _⟩ := W.way j N[j] (J5 (by omega))
   refine (W.pth (i := i) (j := j) (by omega) (by omega)).app ?_
   rw [<- e1, <- e2]
   exact .cons hw .nil
theorem D05 (i : Int) : PyData.canLay0 (.int i) = true := rfl
theorem T6 (i j : Int) : min (PyData.depth (.int i)) (PyData.depth (.int j)) <= 64 := by show min 0 0 <= 64; decide
theorem T7 (i j : Int) : PyData.eqv (.int i) (.int j) = (i == j) := by rw [PyData.eqv]
def C7v : DSp := fun ds Q => ∃ (m : Nat) (ws : List Wy) (p q : Nat) (ns : List Nat), ds = [D4 m ws, .int (p : Nat), .list (J8 ns)] /\ Pth ws p ns q /\ Q (.int (q : Nat))
def C7w : DSp := fun ds Q => ∃ (m : Nat) (ws : List Wy) (p q : Nat) (pt : Pt), ds = [D4 m ws, .int (p : Nat), Y8 pt] /\ Pth ws p pt.1 q /\ pt.1 ≠ [] /\ 1 <= pt.2 /\ pt.2 <= 1000000000000000000000000 /\ (pt.2 = 1 \/ q = p) /\ Q (.int (q : Nat))
def C7x : DSp := fun ds Q => ∃ (m : Nat) (ws : List Wy) (p q : Nat) (ps : List Pt), ds = [D4 m ws, .int (p : Nat), .list (ps.map Y8)] /\ Trp ws p ps q /\ Q (.int (q : Nat))
def C7y : DSp := fun ds Q => ∃ ns : List Nat, ds = [.list (J8 ns)] /\ Q (.list ((prt ns).map Y8))
section
variable {P : Program} {w : World} {K : A4} {mg : Str -> Option Value} {base : Heap}
theorem C7z (T : Txt K mg) : D3 P w K mg base CX0 1 T.a_parts_by T.d_parts_by ["numbers"] (spD [.sh] C7y) := by
 refine G5 T.F_parts_by C48 rfl (fun C cdv A outer s H E hr => ⟨_, (B2 (D0 (B18 (F8 A0x A2o (S6 (F9 N6 rfl T.n_len N7 (C3 (pv 0) D6 A0) (he := A0) (hpl := A6))) B1 (D2 _)) (D9 (L6 (A8 (Q8 (A8 (A1 (pv 0)) (A8 B1 C5 G1) A0)) C5 A18))) (D9 (L6 C5))))), fun ds Q hl h => ?_⟩)
 obtain ⟨ns, rfl, q⟩ := h
 right
 cases ns with
 | nil => exact ⟨by decide, q⟩
 | cons n ns =>
  have e : decide ((0 : Int) < ((J8 (n :: ns)).length : Nat)) = true := by
   rw [A4i]; exact decide_eq_true (by rw [M1]; omega)
  rw [e]
  right
  exact ⟨by decide, by decide, q⟩
theorem C70 (T : Txt K mg) : D3 P w K mg base CX0 3 T.a_behind_ways T.d_behind_ways ["land", "place", "numbers"] (spD [.sh, .sh, .sh] C7v) := by
 have G_is_place := @C7b P w K mg base T
 have b_is_place := C5u T
 refine G5 T.F_behind_ways B0g rfl (fun C cdv A outer s H E hr => ⟨_, (@G4 _ _ _ _ _ _ (E1 (C8 (i := 3) B0g.nd rfl (B3 rfl) (A1 (pv 1)))) (@G4 _ _ _ _ _ _ (@P5 _ _ _ _ _ _ (@P0 _ _ _ _ _ _ _ _ N4 rfl (T2 (pv 2)) (T3 (K3 (i := 4) B0g.nd rfl (B3 rfl))) (@G4 _ _ _ _ _ _ (@J3 _ _ _ _ _ _ _ _ _ (PW.pt (@W7 _ _ _ _ _ _ _ _ (@g5 _ _ _ _ _ (@U9 _ _ _ _ (@C1 _ _ _ _ _ _ _ (@B6 _ _ _ _ _ _ _ _ _ _ _ _ _ _ _ _ G_is_place (hr.mono (by decide)) rfl T.mg_is_place T.kp_is_place b_is_place .nil B7 (A2 (P2 B58 (F9 N6 rfl T.n_len N7 (A8 (B9 (pv 0) (E9 (E6 (v := V.int 1) rfl T.mg_WAYS ⟨_, rfl⟩)) (fun _ _ => rfl)) C5 C2) (he := C2) (hpl := A6))) (A2 (A1 (pv 4)) C0 A0) E3) (by decide) E3 ((A5 A0 A6)))) (by intro _; rfl))) (Y2 (F8 (t8 (Q3 hr)) Q0 (K7 (K7 (B9 (pv 0) (E9 (E6 (v := V.int 1) rfl T.mg_WAYS ⟨_, rfl⟩)) (fun _ _ => rfl)) (A1 (pv 4)) (fun _ _ => rfl)) (E9 (E6 (v := V.int 0) rfl T.mg_START ⟨_, rfl⟩)) (fun _ _ => rfl)) (A1 (pv 3)) (D2 _))))) (B2 (D0 J6)) J2) (B2 (E1 (C8 (i := 3) B0g.nd rfl (B3 rfl) (K7 (K7 (B9 (pv 0) (E9 (E6 (v := V.int 1) rfl T.mg_WAYS ⟨_, rfl⟩)) (fun _ _ => rfl)) (A1 (pv 4)) (fun _ _ => rfl)) (E9 (E6 (v := V.int 1) rfl T.mg_END ⟨_, rfl⟩)) (fun _ _ => rfl)))))) (by intro _; rfl))) (B2 (D0 (A1 (pv 3)))))), fun ds Q hl h => ?_⟩)
 obtain ⟨m, ws, p, q0, ns, rfl, hp, q⟩ := h
 array_mem_dec
 refine ⟨fun r ρ => ∃ (ns' : List Nat) (p' : Nat) (z : Sl), r = J8 ns' /\ ρ = [Sl.sh (D4 m ws), Sl.sh (.int (p : Nat)), Sl.sh (.list (J8 ns)), Sl.sh (.int (p' : Nat)), z] /\ Pth ws p' ns' q0, ⟨ns, p, _, rfl, rfl, hp⟩, ?_, ?_⟩
 ·rintro x r ρ ⟨ns', p', z, h1, rfl, hp'⟩
  cases hp' with
  | nil => cases h1
  | @cons n w ns' _ hw hp' =>
   cases (show x :: r = PyData.int (n : Nat) :: J8 ns' from h1)
   have hn := (A1z.mp hw).1
   decreasing_trivial_pre_omega
   refine ⟨_, _, rfl, ?_⟩
   rw [E4, decide_eq_true (show (0 : Int) <= ((n : Nat) : Int) /\ ((n : Nat) : Int) < ((ws.length : Nat) : Int) from ⟨by omega, by omega⟩)]
   decreasing_trivial_pre_omega
   rw [B0n hw]
   right
   refine ⟨rfl, rfl, T6 _ _, ?_⟩
   rw [T7, beq_self_eq_true]
   right
   exact ⟨ns', w.2.1, _, rfl, rfl, hp'⟩
 ·rintro ρ ⟨ns', p', z, h1, rfl, hp'⟩
  cases hp' with
  | nil =>
   left
   exact q
  | cons hw hp' => cases h1
theorem C71 (T : Txt K mg) : D3 P w K mg base CX0 4 T.a_behind_part T.d_behind_part ["land", "place", "part"] (spD [.sh, .sh, .sh] C7w) := by
 have G_behind_ways := @C70 P w K mg base T
 have b_behind_ways := C51 T
 refine G5 T.F_behind_part B7v rfl (fun C cdv A outer s H E hr => ⟨_, (@G4 _ _ _ _ _ _ (@J3 _ _ _ _ _ _ _ _ _ (PW.pt (@W7 _ _ _ _ _ _ _ _ (F8 (Z5 (Q3 hr)) Q0 (P2 B58 (F9 N6 rfl T.n_len N7 (A8 (B9 (pv 2) (E9 (E6 (v := V.int 0) rfl T.mg_NUMBERS ⟨_, rfl⟩)) (fun _ _ => rfl)) C5 C2) (he := C2) (hpl := A6))) B1 (D2 _)) (Y2 (g5 (C2m A0w A0w B1 (B9 (pv 2) (E9 (E6 (v := V.int 1) rfl T.mg_TIMES ⟨_, rfl⟩)) (fun _ _ => rfl)) (F2 A0v A2n B1 B1)))))) (B2 (D0 J6)) J2) (@G4 _ _ _ _ _ _ (@E1 _ _ _ _ _ (@C8 _ _ 3 _ _ _ _ B7v.nd rfl (B3 rfl) (C1 (B6 G_behind_ways (hr.mono (by decide)) rfl T.mg_behind_ways T.kp_behind_ways b_behind_ways .nil B7 (A2 (A1 (pv 0)) (A2 (A1 (pv 1)) (A2 (B9 (pv 2) (E9 (E6 (v := V.int 0) rfl T.mg_NUMBERS ⟨_, rfl⟩)) (fun _ _ => rfl)) C0 C2) A0) A0) (he := A0) (hpl := (A5 A0 (A5 C2 A6))))) (by rfl) (by first | exact .inl rfl | exact .inr rfl | assumption))) (G4 (J3 (PW.pt (A49 (F8 A0x A2o (B9 (pv 2) (E9 (E6 (v := V.int 1) rfl T.mg_TIMES ⟨_, rfl⟩)) (fun _ _ => rfl)) B1 (D2 _)) (A48 (F8 (t8 (Q3 hr)) Q0 (A1 (pv 3)) (A1 (pv 1)) (D2 _)))))
   (B2 (D0 J6))
   J2)
   (B2 (D0 (A1 (pv 3))))))), fun ds Q hl h => ?_⟩)
 obtain ⟨m, ws, p, q0, ⟨ns, t⟩, rfl, hp, hne, t1, t2, ht, q⟩ := h
 simp only at hp hne t1 t2 ht
 right
 refine ⟨rfl, rfl, T6 _ _, ?_⟩
 have hl0 : PyData.eqv (.int ((J8 ns).length : Nat)) (.int 0) = false := by
  rw [T7, A4i]
  cases ns with
  | nil => exact absurd rfl hne
  | cons n r => exact beq_eq_false_iff_ne.mpr (by simp; omega)
 rw [hl0]
 right
 rw [decide_eq_true (show (1 : Int) <= t from t1)]
 right
 refine ⟨⟨by decide, by decide, by decide⟩, ?_⟩
 rw [decide_eq_true (show t <= (10 : Int) ^ (24 : Int).toNat from t2)]
 right
 refine ⟨_, _, _, _, _, rfl, hp, ?_⟩
 right
 rcases ht with ht | ht
 ·rw [decide_eq_false (show ¬ (1 : Int) < t by omega)]
  right
  exact q
 ·subst ht
  by_cases c : (1 : Int) < t
  ·rw [decide_eq_true c]
   right
   refine ⟨rfl, rfl, T6 _ _, ?_⟩
   rw [T7, beq_self_eq_true]
   right
   exact q
  ·rw [decide_eq_false c]
   right
   exact q
theorem C72 (T : Txt K mg) : D3 P w K mg base CX0 5 T.a_end_of T.d_end_of ["land", "place", "trip"] (spD [.sh, .sh, .sh] C7x) := by
 have G_behind_part := @C71 P w K mg base T
 have b_behind_part := C52 T
 refine G5 T.F_end_of A8w rfl (fun C cdv A outer s H E hr => ⟨_, (@G4 _ _ _ _ _ _ (E1 (C8 (i := 3) A8w.nd rfl (B3 rfl) (A1 (pv 1)))) (@G4 _ _ _ _ _ _ (@P5 _ _ _ _ _ _ (@P0 _ _ _ _ _ _ _ _ N4 rfl (B2k (B12 rfl T.n_enumerate (C3 (A1 (pv 2)) D6 A0))) (A93 (A0q (n := 2) rfl (S3 (K3 (i := 4) A8w.nd rfl (B3 rfl)) (S3 (K3 (i := 5) A8w.nd rfl (B3 rfl)) A0p)))) (@G4 _ _ _ _ _ _ (E1 (C8 (i := 3) A8w.nd rfl (B3 rfl) (C1 (B6 G_behind_part (hr.mono (by decide)) rfl T.mg_behind_part T.kp_behind_part b_behind_part .nil B7 (A2 (A1 (pv 0)) (A2 (A1 (pv 3)) (A2 (A1 (pv 5)) C0 A0) A0) A0) (he := A0) (hpl := (A5 A0 (A5 A0 A6))))))) (B2 (J3 (F8 U0 V0 (A1 (pv 3)) J6 (D2 _))
   (B2 C22)
   J2))) (by intro _; rfl))) (B2 (D0 (A1 (pv 3)))))), fun ds Q hl h => ?_⟩)
 obtain ⟨m, ws, p, q0, ps, rfl, hp, q⟩ := h
 array_mem_dec
 have e0 : Y3 (ps.map Y8) = ps.zipIdx.map fun p => .tuple [.int (p.2 : Nat), Y8 p.1] := by
  unfold Y3
  rw [List.zipIdx_map, j5]
  rfl
 rw [e0]
 refine ⟨fun r ρ => ∃ (ps' : List (Pt × Nat)) (p' : Nat) (z1 z2 : Sl), r = ps'.map (fun p => .tuple [.int (p.2 : Nat), Y8 p.1]) /\ ρ = [Sl.sh (D4 m ws), Sl.sh (.int (p : Nat)), Sl.sh (.list (ps.map Y8)), Sl.sh (.int (p' : Nat)), z1, z2] /\ Trp ws p' (ps'.map (·.1)) q0, ⟨ps.zipIdx, p, _, _, rfl, rfl, by rw [show ps.zipIdx.map (·.1) = ps by simp]; exact hp⟩, ?_, ?_⟩
 ·rintro x r ρ ⟨ps', p', z1, z2, h1, rfl, hp'⟩
  cases ps' with
  | nil => cases h1
  | cons a ps' =>
   cases (show x :: r = PyData.tuple [.int (a.2 : Nat), Y8 a.1] :: ps'.map (fun p => .tuple [.int (p.2 : Nat), Y8 p.1]) from h1)
   have hp2 : Trp ws p' (a.1 :: ps'.map (·.1)) q0 := hp'
   cases hp2 with
   | cons e1 e2 e3 e4 e5 e6 =>
    sizeOf_list_dec
    refine ⟨_, _, _, _, _, rfl, e1, e2, e3, e4, e5, ?_⟩
    left
    exact ⟨ps', _, _, _, rfl, rfl, e6⟩
 ·rintro ρ ⟨ps', p', z1, z2, h1, rfl, hp'⟩
  cases ps' with
  | cons a ps' => cases h1
  | nil =>
   cases hp'
   left
   exact q
end
theorem C73 (a b : Option Int) : PyData.eqv (oD a) (oD b) = decide (a = b) := by
 cases a with
 | none => cases b with
  | none => rfl
  | some y => rfl
 | some x => cases b with
  | none => rfl
  | some y =>
   show PyData.eqv (.int x) (.int y) = _
   rw [T7]
   by_cases h : x = y
   ·subst h; simp
   ·simp [h]
theorem B8f : ∀ a b : Tb, PyData.eqvAll (A3 a) (A3 b) = decide (a = b)
 | [], [] => rfl
 | [], _ :: _ => rfl
 | _ :: _, [] => rfl
 | x :: a, y :: b => by
  show PyData.eqvAll (oD x :: A3 a) (oD y :: A3 b) = _
  rw [PyData.eqvAll, C73, B8f a b]
  by_cases h : x = y
  ·subst h; simp
  ·simp [h]
theorem C74 (a b : Tb) : PyData.eqv (.list (A3 a)) (.list (A3 b)) = decide (a = b) := by rw [PyData.eqv]; exact B8f a b
theorem B8g : ∀ t : Tb, PyData.canLayAll0 (A3 t) = true
 | [] => rfl
 | x :: t => by
  show (PyData.canLay0 (oD x) && PyData.canLayAll0 (A3 t)) = true
  rw [B8g t]
  cases x <;> rfl
theorem B8h (t : Tb) : PyData.canLay0 (.list (A3 t)) = true := by rw [PyData.canLay0]; exact B8g t
theorem B8i : ∀ t : Tb, PyData.depthAll (A3 t) = 0
 | [] => rfl
 | x :: t => by
  show max (PyData.depth (oD x)) (PyData.depthAll (A3 t)) = 0
  rw [B8i t]
  cases x <;> rfl
theorem B8j (t : Tb) : PyData.depth (.list (A3 t)) = 1 := by
 show PyData.depthAll (A3 t) + 1 = 1
 rw [B8i]
def C75 : DSp := fun ds Q => ∃ (m : Nat) (ws : List Wy) (st : Int) (t : Tb), ds = [D4 m ws, .int st, .list (A3 t)] /\ L1 m ws /\ t.length = m /\ Q (.list ((Q1 m ws st m (t, D8 m none)).map T5))
def C76 : DSp := fun ds Q => ∃ (m : Nat) (ws : List Wy) (rs : List Rw), ds = [D4 m ws, .list (rs.map T5)] /\ Q (.bool (decide (m < rs.length)))
def C77 : DSp := fun ds Q => ∃ (m : Nat) (ws : List Wy) (rs : List Rw) (r : Rw), ds = [D4 m ws, .list (rs.map T5)] /\ L1 m ws /\ A8y m ws rs /\ rs.length <= 900 /\ rs.getLast? = some r /\ (∃ p n, gt r.2 p = some n) /\
 ∀ p n, p < m -> gt r.2 p = some n -> Q (.tuple [.int ((wlk ws rs.reverse p).1 : Nat), .list (J8 (wlk ws rs.reverse p).2)])
def A8z (p : Nat) (N : List Nat) : PyData := .tuple [.int (p : Nat), .list (J8 N)]
def C78 : DSp := fun ds Q => ∃ (m : Nat) (ws : List Wy) (st : Int) (b : Tb) (N : List Nat) (P : Nat -> Nat) (L : Nat -> Int), ds = [D4 m ws, A8z (P 0) N] /\ L1 m ws /\ D1 m st b /\ Wk ws st b N P L /\ N.length = m /\
 ∀ i j, i < j -> j <= m -> P i = P j -> Q (.tuple [.list (J8 (seg N 0 i)), .list (J8 (seg N i j))])
theorem B3e {α β : Type} {f : α -> β} {xs : List α} {x : α} (h : xs.getLast? = some x) : (xs.map f).getLast? = some (f x) := by
 obtain ⟨ys, rfl⟩ := List.getLast?_eq_some_iff.mp h
 simp
theorem Wk.places {ws : List Wy} {st : Int} {b : Tb} {N : List Nat} {P : Nat -> Nat} {L : Nat -> Int} (W : Wk ws st b N P L) : [P 0] ++ N.map (y4 ws) = (P6 (N.length + 1)).map P := by
 apply B33
 intro k
 cases k with
 | zero => simp
 | succ k =>
  rw [Z0 (by simp), N1, N1]
  by_cases h : k < N.length
  ·rw [B9n (by omega)]
   show (N[k]?).map (y4 ws) = some (P (k + 1))
   obtain ⟨w, hw, _, e, _⟩ := W.way k N[k] (J5 h)
   rw [J5 h]
   show some (y4 ws N[k]) = _
   unfold y4
   rw [hw, <- e]
  ·rw [U5 (l := P6 _) (by rw [d7]; omega)]
   show (N[k]?).map (y4 ws) = none
   rw [U5 (by omega)]
   rfl
section
variable {P : Program} {w : World} {K : A4} {mg : Str -> Option Value} {base : Heap}
theorem C79 (T : Txt K mg) : D3 P w K mg base CX0 4 T.a_rows_from T.d_rows_from ["land", "store", "table"] (spD [.sh, .sh, .bo] C75) := by
 have G_first_row := @C7s P w K mg base T
 have b_first_row := C5y T
 have G_row_behind := @C7t P w K mg base T
 have b_row_behind := C5z T
 refine G5 T.F_rows_from B0h rfl (fun C cdv A outer s H E hr => ⟨_, (@G4 _ _ _ _ _ _ (g8 (C8 (i := 3) B0h.nd rfl (B3 rfl) (L6 C5))) (@G4 _ _ _ _ _ _ (E1 (C8 (i := 4) B0h.nd rfl (B3 rfl) (C1 (B6 G_first_row (hr.mono (by decide)) rfl T.mg_first_row T.kp_first_row b_first_row .nil B7 (J7 (pv 2) C0 A0) (he := A0) (hpl := A6))))) (@G4 _ _ _ _ _ _ (@A94 _ _ _ _ _ (@A8g _ _ _ _ _ _ N4 (F8 X7 m5 (S6 (F9 N6 rfl T.n_len N7 (C3 (pv 3) D6 A0) (he := A0) (hpl := A6))) (B9 (pv 0) (E9 (E6 (v := V.int 0) rfl T.mg_MANY ⟨_, rfl⟩)) (fun _ _ => rfl)) (D2 _)) (@G4 _ _ _ _ _ _ (A1i (Z4 (j8 A0m A4r A4s A00 (pv 3) (C3 (A1 (pv 4)) D6 A0)))) (@G4 _ _ _ _ _ _ (@E1 _ _ _ _ _ (@C8 _ _ 4 _ _ _ _ B0h.nd rfl (B3 rfl) (@C1 _ _ _ _ _ _ _ (@B6 _ _ _ _ _ _ _ _ _ _ _ _ _ _ _ _ G_row_behind (hr.mono (by decide)) rfl T.mg_row_behind T.kp_row_behind b_row_behind .nil B7 (A2 (A1 (pv 0)) (A2 (A1 (pv 1)) (A2 (B9 (pv 4) (E9 (E6 (v := V.int 0) rfl T.mg_TABLE ⟨_, rfl⟩)) (fun _ _ => rfl)) (A2 (B9 (pv 4) (E9 (E6 (v := V.int 0) rfl T.mg_TABLE ⟨_, rfl⟩)) (fun _ _ => rfl)) C0 C2) C2) A0) A0) (by decide) A0 ((A5 A0 (A5 C2 (A5 C2 A6)))))) (by rfl) (by first | exact .inl rfl | exact .inr rfl | assumption))) (B2 (J3 (F8 (Z5 (Q3 hr)) Q0 (B9 (pv 4) (E9 (E6 (v := V.int 0) rfl T.mg_TABLE ⟨_, rfl⟩)) (fun _ _ => rfl)) (K7 (B9 (pv 3) (j9 B1) (fun _ _ => rfl)) (E9 (E6 (v := V.int 0) rfl T.mg_TABLE ⟨_, rfl⟩)) (fun _ _ => rfl)) (D2 _))
   (B2 (D0 (A1 (pv 3))))
   J2)))))) (G4 (A1i (Z4 (j8 A0m A4r A4s A00 (pv 3) (C3 (A1 (pv 4)) D6 A0))))
   (B2 (D0 (A1 (pv 3)))))))), fun ds Q hl h => ?_⟩)
 obtain ⟨m, ws, st, t, rfl, ok, ht, q⟩ := h
 have m2 := ok.m2
 left
 refine ⟨by decide, rfl, t, rfl, by omega, ?_⟩
 unfold A8q
 refine ⟨fun μ ρ => ∃ (rs : List Rw) (r : Rw), ρ = [Sl.sh (D4 m ws), Sl.sh (.int st), Sl.bo (A3 t), Sl.ow (rs.map T5), Sl.sh (T5 r)] /\ rs.length + μ = m /\ r.1.length = m /\ rs ++ Q1 m ws st μ r = Q1 m ws st m (t, D8 m none), ⟨m, [], (t, D8 t.length none), rfl, by simp, ht, by rw [ht]; rfl⟩, ?_⟩
 rintro μ ρ ⟨rs, r, rfl, h1, h2, h3⟩
 right
 rw [E4]
 cases μ with
 | zero =>
  rw [decide_eq_false (by omega)]
  right
  refine ⟨by omega, ?_⟩
  have e : rs ++ [r] = Q1 m ws st m (t, D8 m none) := h3
  rw [<- e, d8] at q
  exact q
 | succ μ =>
  rw [decide_eq_true (by omega)]
  decreasing_trivial_pre_omega
  refine ⟨by rw [E4]; omega, ?_⟩
  refine ⟨m, ws, st, r.1, r.1, rfl, ok, h2, h2, ?_⟩
  right
  rw [show -(1 : Int) = -1 from rfl, B43]
  right
  refine ⟨B8h _, B8h _, by rw [B8j, B8j]; decide, ?_⟩
  rw [C74]
  by_cases c : (N9 m ws st r.1 r.1).1 = r.1
  ·rw [decide_eq_true c]
   right
   have e : rs ++ [r] = Q1 m ws st m (t, D8 m none) := by rw [<- h3, Q1, if_pos c]
   rw [<- e, d8] at q
   exact q
  ·rw [decide_eq_false c]
   right
   refine ⟨μ, by omega, rs ++ [r], N9 m ws st r.1 r.1, by rw [d8]; rfl, by simp; omega, (m9 (st := st) (t := r.1) ok h2).l1, ?_⟩
   rw [<- h3, Q1, if_neg c]
   simp
theorem C8a (T : Txt K mg) : D3 P w K mg base CX0 1 T.a_still_rises T.d_still_rises ["land", "rows"] (spD [.sh, .sh] C76) := by
 refine G5 T.F_still_rises C47 rfl (fun C cdv A outer s H E hr => ⟨_, (B2 (D0 (Z6 A0x A2o (S6 (F9 N6 rfl T.n_len N7 (C3 (pv 1) D6 A0) (he := A0) (hpl := A6))) (B9 (pv 0) (E9 (E6 (v := V.int 0) rfl T.mg_MANY ⟨_, rfl⟩)) (fun _ _ => rfl)) (D2 _)))), fun ds Q hl h => ?_⟩)
 obtain ⟨m, ws, rs, rfl, q⟩ := h
 right
 rw [E4]
 rw [show decide (((m : Nat) : Int) < ((rs.length : Nat) : Int)) = decide (m < rs.length) by by_cases c : m < rs.length <;> simp [c]]
 exact q
theorem C8b (T : Txt K mg) : D3 P w K mg base CX0 2 T.a_rising_walk T.d_rising_walk ["land", "rows"] (spD [.sh, .sh] C77) := by
 have G_walk_to := @C7u P w K mg base T
 have b_walk_to := C50 T
 refine G5 T.F_rising_walk B7w rfl (fun C cdv A outer s H E hr => ⟨_, (@G4 _ _ _ _ _ _ (E1 (C8 (i := 2) B7w.nd rfl (Or.inr rfl) (K7 (B9 (pv 1) (j9 B1) (fun _ _ => rfl)) (E9 (E6 (v := V.int 1) rfl T.mg_RISEN ⟨_, rfl⟩)) (fun _ _ => rfl)))) (@B2 _ _ _ _ (@D0 _ _ _ _ _ (@C1 _ _ _ _ _ _ _ (@B6 _ _ _ _ _ _ _ _ _ _ _ _ _ _ _ _ G_walk_to (hr.mono (by decide)) rfl T.mg_walk_to T.kp_walk_to b_walk_to .nil B7 (@A2 _ _ _ _ _ _ (A1 (pv 0)) (@A2 _ _ _ _ _ _ (A1 (pv 1)) (@A2 _ _ _ _ _ _ (@K7 _ _ _ _ _ _ _ (@D9 _ _ _ _ (@W9 _ _ _ _ _ _ _ _ rfl (V5 (M3.new (N := ["land", "rows", "last"]) (osc := A7 A36) (by decide +kernel)) rfl (U2 (T8 rfl T.n_range (A8 (B9 (pv 0) (E9 (E6 (v := V.int 0) rfl T.mg_MANY ⟨_, rfl⟩)) (fun _ _ => rfl)) C5 C2))) (fun _ => (B5g (F8 e9 v4 (B9 (pv 2) (A1 (pv 3)) (fun _ _ => rfl)) J6 (D2 _)))) (fun _ => (A1 (pv 3)))))) B1 (fun _ _ => rfl)) C0 C2) A0) A0) (by decide) A0 ((A5 A0 (A5 C2 A6)))))))), fun ds Q hl h => ?_⟩)
 obtain ⟨m, ws, rs, r, rfl, ok, hR, hn, hl2, ⟨p0, n0, hp0⟩, q⟩ := h
 have m2 := ok.m2
 have hr0 := hR r (List.mem_of_getLast? hl2)
 array_mem_dec
 rw [show -(1 : Int) = -1 from rfl, B0o (B3e hl2)]
 array_mem_dec
 refine ⟨⟨by omega, by omega⟩, ⟨rfl, by unfold G7; rw [E4, d7]; omega⟩, ?_⟩
 unfold G7
 rw [show ((m : Nat) : Int).toNat = m by simp]
 refine A96 (p := fun i => (gt r.2 i).isSome) (f := fun i => .int (0 + ((i : Nat) : Int))) (fun i hi Q' q' => ?_) (fun i hi _ Q' q' => ?_) ?_
 ·left
  rw [show (0 : Int) + ((i : Nat) : Int) = ((i : Nat) : Int) by omega] at q' ⊢
  rw [B8a (by rw [hr0.1]; exact X4.mp hi)]
  left
  cases c : gt r.2 i with
  | none => rw [c] at q'; exact q'
  | some n => rw [c] at q'; exact q'
 ·exact q'
 ·have hp0m : p0 < m := by
   by_cases h : p0 < m
   ·exact h
   ·rw [w6 (by rw [hr0.1]; omega)] at hp0; cases hp0
  have hmem : p0 ∈ (P6 m).filter fun i => (gt r.2 i).isSome := A83.mpr ⟨X4.mpr hp0m, by rw [hp0]; rfl⟩
  cases hf : (P6 m).filter fun i => (gt r.2 i).isSome with
  | nil => rw [hf] at hmem; cases hmem
  | cons p ps =>
   have hpm : p ∈ (P6 m).filter fun i => (gt r.2 i).isSome := by rw [hf]; exact B4
   obtain ⟨h1, h2⟩ := A83.mp hpm
   obtain ⟨n, hn'⟩ := Option.isSome_iff_exists.mp h2
   rw [M0, o8, C3f]
   left
   refine ⟨m, ws, rs, p, by rw [show (0 : Int) + ((p : Nat) : Int) = ((p : Nat) : Int) by omega]; rfl, X4.mp h1, ok, hR, hn, q p n (X4.mp h1) hn'⟩
end
theorem B8k {P : Nat -> Nat} : ∀ k : Nat, (∀ i j, i < j -> j < k -> P i ≠ P j) -> ((P6 k).map P).Nodup
 | 0, _ => B35
 | k + 1, h => by
  rw [List.range_succ, d8, List.nodup_append]
  refine ⟨B8k k fun i j h1 h2 => h i j h1 (by omega), by simp, fun a ha b hb => ?_⟩
  obtain ⟨i, hi, rfl⟩ := S2.mp ha
  have : b = P k := by simpa using hb
  subst this
  exact h i k (X4.mp hi) (by omega)
theorem D06 {P : Nat -> Nat} {n k : Nat} (h : k <= n) : ((P6 n).map P).take k = (P6 k).map P := by
 rw [<- p6, List.take_range, A87 h]
def plI (P : Nat -> Nat) (n : Nat) : List Int := ((P6 n).map P).map fun p => ((p : Nat) : Int)
theorem B3f {P : Nat -> Nat} {n : Nat} {x : Nat} : ((x : Nat) : Int) ∈ plI P n ↔ ∃ i, i < n /\ P i = x := by
 unfold plI
 constructor
 ·intro h
  obtain ⟨y, hy, e⟩ := S2.mp h
  obtain ⟨i, hi, rfl⟩ := S2.mp hy
  exact ⟨i, X4.mp hi, by omega⟩
 ·rintro ⟨i, hi, rfl⟩
  exact S2.mpr ⟨P i, S2.mpr ⟨i, X4.mpr hi, rfl⟩, rfl⟩
theorem C8c {P : Nat -> Nat} {n : Nat} : J8 ((P6 n).map P) = (plI P n).map PyData.int := by
 simp only [J8, plI, j5]
 rfl
theorem B3g {P : Nat -> Nat} {n : Nat} : (plI P n).length = n := by unfold plI; rw [E4, E4, d7]
theorem C8d {P : Nat -> Nat} {n : Nat} {x : Nat} (h : ((x : Nat) : Int) ∈ plI P n) : (plI P n).idxOf ((x : Nat) : Int) < n /\ P ((plI P n).idxOf ((x : Nat) : Int)) = x := by
 have h1 := B03.mpr h
 have h2 := B9m h1
 rw [B3g] at h1
 refine ⟨h1, ?_⟩
 have hx : ∀ i (h : i < (plI P n).length), (plI P n)[i] = ((P i : Nat) : Int) := fun i h => by simp [plI]
 rw [hx] at h2
 omega
section
variable {P : Program} {w : World} {K : A4} {mg : Str -> Option Value} {base : Heap}
theorem C8e (T : Txt K mg) : D3 P w K mg base CX0 1 T.a_parted_at_round T.d_parted_at_round ["land", "walk"] (spD [.sh, .sh] C78) := by
 refine G5 T.F_parted_at_round A8x rfl (fun C cdv A outer s H E hr => ⟨_, (@G4 _ _ _ _ _ _ (@E1 _ _ _ _ _ (@C8 _ _ 2 _ _ _ _ A8x.nd rfl (B3 rfl) (@D9 _ _ _ _ (@Z9 _ _ _ _ _ _ _ (D9 (L6 (A8 (B9 (pv 1) (E9 (E6 (v := V.int 0) rfl T.mg_FROM ⟨_, rfl⟩)) (fun _ _ => rfl)) C5 C2))) (@D9 _ _ _ _ (@W9 _ _ _ _ _ _ _ _ rfl (@V5 _ _ _ _ _ _ _ _ _ _ _ _ _ _ _ (M3.new (N := ["land", "walk", "places", "end", "begin"]) (osc := A7 A37) (by decide +kernel)) rfl (A5g (B9 (pv 1) (E9 (E6 (v := V.int 1) rfl T.mg_BY ⟨_, rfl⟩)) (fun _ _ => rfl))) (fun _ => P3) (fun _ => (K7 (K7 (B9 (pv 0) (E9 (E6 (v := V.int 1) rfl T.mg_WAYS ⟨_, rfl⟩)) (fun _ _ => rfl)) (A1 (pv 5)) (fun _ _ => rfl)) (E9 (E6 (v := V.int 1) rfl T.mg_END ⟨_, rfl⟩)) (fun _ _ => rfl))) (by rfl) (by rfl) (by intro _; rfl)))))) (by rfl) (by first | exact .inl rfl | exact .inr rfl | assumption))) (@G4 _ _ _ _ _ _ (E1 (C8 (i := 3) A8x.nd rfl (B3 rfl) B1)) (@G4 _ _ _ _ _ _ (A94 (A8g N4 (F8 C1i C29 (B9 (pv 2) (A1 (pv 3)) (fun _ _ => rfl)) (D9 (A22 (pv 2) A1a (Z8 (A1 (pv 3))))) (by with_unfolding_all rfl))
   (B2 (E1 (C8 (i := 3) A8x.nd rfl (B3 rfl) (F2 K6 M4 (A1 (pv 3)) B1)))))) (@G4 _ _ _ _ _ _ (E1 (C8 (i := 4) A8x.nd rfl (B3 rfl) (B6r (j8 A0m B9l PySem.F.type_list_index B5v (pv 2) (C3 (B9 (pv 2) (A1 (pv 3)) (fun _ _ => rfl)) D6 C2))))) (B2 (D0 (Q8 (A8 (D9 (B2c (B9 (pv 1) (E9 (E6 (v := V.int 1) rfl T.mg_BY ⟨_, rfl⟩)) (fun _ _ => rfl)) A1a (Z8 (A1 (pv 4))))) (A8 (D9 (B2c (B9 (pv 1) (E9 (E6 (v := V.int 1) rfl T.mg_BY ⟨_, rfl⟩)) (fun _ _ => rfl)) (Z8 (A1 (pv 4))) (Z8 (A1 (pv 3))))) C5 C2) C2)))))))), fun ds Q hl h => ?_⟩)
 obtain ⟨m, ws, st, b, N, PP, L, rfl, ok, hb, W, hN, q⟩ := h
 have m2 := ok.m2
 have hpl : ∀ k, k <= m -> PP k < m := fun k hk => W.pl ok hb k (by omega)
 unfold A8z
 array_mem_dec
 refine ⟨by decide, ⟨rfl, by rw [A4i]; omega⟩, ?_⟩
 unfold J8
 refine V7 (f := fun n => .int (y4 ws n : Nat)) (fun n hm Q' q' => ?_) ?_
 ·obtain ⟨k, hk, rfl⟩ := p5.mp hm
  obtain ⟨w, hw, _, e, _⟩ := W.way k N[k] (J5 hk)
  right
  rw [B0n hw]
  right
  have e2 : y4 ws N[k] = w.2.1 := by unfold y4; rw [hw]
  rw [e2] at q'
  exact q'
 ·left
  refine ⟨by rw [E4]; omega, ?_⟩
  have epl : PyData.int ((PP 0 : Nat) : Int) :: N.map (fun n => PyData.int ((y4 ws n : Nat) : Int)) = (plI PP (m + 1)).map PyData.int := by
   have := W.places
   rw [hN] at this
   rw [<- C8c, <- this]
   unfold J8
   rw [d8, j5]
   rfl
  rw [epl]
  unfold A8q
  refine ⟨fun μ ρ => ∃ (k : Nat) (z : Sl), ρ = [Sl.sh (D4 m ws), Sl.sh (A8z (PP 0) N), Sl.sh (.list ((plI PP (m + 1)).map PyData.int)), Sl.sh (.int (k : Nat)), z] /\ 1 <= k /\ k <= m /\ μ + k = m /\ ∀ i j, i < j -> j < k -> PP i ≠ PP j, ⟨m - 1, 1, _, rfl, by omega, ok.m1, by have := ok.m1; omega, fun i j h1 h2 => by omega⟩, ?_⟩
  rintro μ ρ ⟨k, z, rfl, k1, k2, hμ, hd⟩
  right
  have eat : atI ((plI PP (m + 1)).map PyData.int) ((k : Nat) : Int) = some (.int ((PP k : Nat) : Int)) := W5 (by
   unfold plI
   rw [j5, N1, N1, B9n (by omega)]
   rfl)
  have ecut : V1 ((plI PP (m + 1)).map PyData.int) none (some ((k : Nat) : Int)) = (plI PP k).map PyData.int := by
   rw [B2q, <- p6]
   congr 1
   unfold plI
   rw [<- p6, <- p6, List.take_range, A87 (by omega)]
  rw [eat]
  right
  rw [ecut, A95]
  right
  by_cases c : ((PP k : Nat) : Int) ∈ plI PP k
  ·rw [show (!(plI PP k).contains ((PP k : Nat) : Int)) = false by simp [c]]
   right
   rw [A95]
   right
   have hc2 : ((PP k : Nat) : Int) ∈ plI PP (m + 1) := B3f.mpr ⟨k, by omega, rfl⟩
   refine ⟨⟨hc2, by rw [B3g]; omega⟩, ?_⟩
   obtain ⟨i0, hi0, ei0⟩ := B3f.mp c
   obtain ⟨hi1, hi2⟩ := C8d hc2
   have hik : (plI PP (m + 1)).idxOf ((PP k : Nat) : Int) < k := by
    by_cases h : (plI PP (m + 1)).idxOf ((PP k : Nat) : Int) < k
    ·exact h
    ·exfalso
     have hmem : ((PP k : Nat) : Int) ∈ (plI PP (m + 1)).take k := by
      have : (plI PP (m + 1)).take k = plI PP k := by
       unfold plI
       rw [<- p6, <- p6, List.take_range, A87 (by omega)]
      rw [this]; exact c
     have h1 := B03.mpr hmem
     rw [A10, B3g] at h1
     have h2 : (plI PP (m + 1)).idxOf ((PP k : Nat) : Int) = ((plI PP (m + 1)).take k).idxOf ((PP k : Nat) : Int) := by
      conv => lhs; rw [<- List.take_append_drop k (plI PP (m + 1))]
      rw [List.idxOf_append, if_pos hmem]
     omega
   unfold A8z
   right
   generalize (plI PP (m + 1)).idxOf ((PP k : Nat) : Int) = i at hi1 hi2 hik
   refine ⟨by decide, ?_⟩
   have qq := q i k hik k2 hi2
   have e1 : V1 (J8 N) none (some ((i : Nat) : Int)) = J8 (seg N 0 i) := by
    rw [B2q]
    unfold J8 seg
    rw [<- p6, List.drop_zero, Nat.sub_zero]
   have e2 : V1 (J8 N) (some ((i : Nat) : Int)) (some ((k : Nat) : Int)) = J8 (seg N i k) := by
    rw [C3g (by rw [A4i]; omega) (by rw [A4i]; omega)]
    unfold J8 seg
    rw [p6, List.map_drop]
   rw [e1, e2]
   exact qq
  ·rw [show (!(plI PP k).contains ((PP k : Nat) : Int)) = true by simp [c]]
   decreasing_trivial_pre_omega
   have hd2 : ∀ i j, i < j -> j < k + 1 -> PP i ≠ PP j := fun i j h1 h2 e => by
    by_cases hj : j < k
    ·exact hd i j h1 hj e
    ·have : j = k := by omega
     subst this
     exact c (B3f.mpr ⟨i, h1, e⟩)
   have hkm : k + 1 <= m := by
    have := B22 m ((P6 (k + 1)).map PP) (B8k (k + 1) hd2) fun x hx => by
     obtain ⟨i, hi, rfl⟩ := S2.mp hx
     exact hpl i (by have := X4.mp hi; omega)
    rw [E4, d7] at this
    exact this
   exact ⟨μ - 1, by omega, k + 1, _, rfl, by omega, hkm, by omega, hd2⟩
end
theorem Wk.nb {ws : List Wy} {st : Int} {b : Tb} {N : List Nat} {P : Nat -> Nat} {L : Nat -> Int} (W : Wk ws st b N P L) : ∀ n ∈ N, n < ws.length := fun n hn => by
 obtain ⟨k, hk, rfl⟩ := p5.mp hn
 obtain ⟨w, hw, _⟩ := W.way k N[k] (J5 hk)
 exact (A1z.mp hw).1
theorem C8f {N : List Nat} {i j n : Nat} (h : n ∈ seg N i j) : n ∈ N := List.mem_of_mem_drop (List.mem_of_mem_take h)
theorem C8g {N : List Nat} {i j : Nat} : (seg N i j).length <= N.length := by
 unfold seg
 rw [A10, B3x]
 omega
theorem C8h {m : Nat} {ws : List Wy} (ok : L1 m ws) (n : Nat) : b9 ws n <= 1000000000000000000 := by
 unfold b9
 split
 ·rename_i w hw; exact ok.hi w (N3 hw)
 ·decide
theorem B8l {B : Int} : ∀ {cs : List Int}, (∀ c ∈ cs, c <= B) -> cs.sum <= (cs.length : Int) * B
 | [], _ => by simp
 | c :: cs, h => by
  have := B8l (cs := cs) fun d hd => h d (A9 _ hd)
  have h1 := h c B4
  rw [A4q, M1, Int.natCast_add, Int.add_mul]
  omega
theorem C8i {x g : Int} (hx : 0 < x) (hg : 0 < g) : 1 <= -(-x / g) /\ -(-x / g) <= x := by
 have e := Int.mul_ediv_add_emod (-x) g
 have r0 := B07 (-x) (show g ≠ 0 by omega)
 have r1 := B37 (-x) hg
 generalize -x / g = d at e
 constructor
 ·by_cases h : 0 <= d
  ·have := Int.mul_nonneg (Int.le_of_lt hg) h
   omega
  ·omega
 ·by_cases h : -x <= d
  ·omega
  ·exfalso
   have h1 : g * d <= g * (-x - 1) := Int.mul_le_mul_of_nonneg_left (by omega) (by omega)
   have h2 : g * (-x - 1) = -(g * x) - g := by rw [Int.mul_sub, Int.mul_neg, Int.mul_one]
   have h3 : 1 * x <= g * x := Int.mul_le_mul_of_nonneg_right (by omega) (by omega)
   omega
def A7z (N : List Nat) (i j k : Nat) (tm : Int) : List Pt := (prt (seg N 0 i) ++ [(seg N i j, tm)]) ++ prt (seg N i (i + k))
def C8j : DSp := fun ds Q => ∃ (m : Nat) (ws : List Wy) (st : Int) (b : Tb) (N : List Nat) (P : Nat -> Nat) (L : Nat -> Int), ds = [D4 m ws, .int st, .int (L 0), A8z (P 0) N] /\ L1 m ws /\ 0 <= st /\ st <= 1000000000000000000000 /\ D1 m st b /\ Wk ws st b N P L /\ N.length = m /\
 ∀ i j k le g tp tm, i < j -> j <= m -> P i = P j -> le <= L i -> Rnd st (chs ws (seg N i j)) (L i) le g tp k -> 1 <= tm -> tm <= 1000000000000000000000000 -> Q (.list ((A7z N i j k tm).map Y8))
theorem B0q {ns : List Nat} : (prt ns).length <= 1 := by unfold prt; split <;> simp
section
variable {P : Program} {w : World} {K : A4} {mg : Str -> Option Value} {base : Heap}
theorem C8k (T : Txt K mg) : D3 P w K mg base CX0 6 T.a_filling_parts T.d_filling_parts ["land", "store", "level", "walk"] (spD [.sh, .sh, .sh, .sh] C8j) := by
 have G_parted_at_round := @C8e P w K mg base T
 have b_parted_at_round := C57 T
 have G_effect_of := @C7g P w K mg base T
 have b_effect_of := C5r T
 have G_changes_of := @C7r P w K mg base T
 have b_changes_of := C5v T
 have G_levels_along := @C7h P w K mg base T
 have b_levels_along := C5o T
 have G_parts_by := @C7z P w K mg base T
 have b_parts_by := C58 T
 refine G5 T.F_filling_parts A1t rfl (fun C cdv A outer s H E hr => ⟨_, (@C9 _ _ _ _ _ _ (E1 (C8 (i := 4) A1t.nd rfl (B3 rfl) (C1 (B6 G_parted_at_round (hr.mono (by decide)) rfl T.mg_parted_at_round T.kp_parted_at_round b_parted_at_round .nil B7 (A2 (A1 (pv 0)) (A2 (A1 (pv 3)) C0 A0) A0) (he := A0) (hpl := (A5 A0 A6)))))) (@C9 _ _ _ _ _ _ (E1 (C8 (i := 5) A1t.nd rfl (B3 rfl) (B9 (pv 4) B1 (fun _ _ => rfl)))) (@C9 _ _ _ _ _ _ (E1 (C8 (i := 6) A1t.nd rfl (B3 rfl) (B9 (pv 4) B1 (fun _ _ => rfl)))) (@C9 _ _ _ _ _ _ (@E1 _ _ _ _ _ (@C8 _ _ 7 _ _ _ _ A1t.nd rfl (B3 rfl) (@C1 _ _ _ _ _ _ _ (@B6 _ _ _ _ _ _ _ _ _ _ _ _ _ _ _ _ G_effect_of (hr.mono (by decide)) rfl T.mg_effect_of T.kp_effect_of b_effect_of .nil B7 (A2 (A1 (pv 1)) (A2 (C1 (B6 G_changes_of (hr.mono (by decide)) rfl T.mg_changes_of T.kp_changes_of b_changes_of .nil B7 (A2 (A1 (pv 0)) (A2 (A1 (pv 6)) C0 A0) A0) (he := A0) (hpl := (A5 A0 A6)))) C0 E3) A0) (by decide) A0 ((A5 E3 A6)))) (by rfl) (by first | exact .inl rfl | exact .inr rfl | assumption))) (@C9 _ _ _ _ _ _ (@E1 _ _ _ _ _ (@C8 _ _ 8 _ _ _ _ A1t.nd rfl (B3 rfl) (@F2 _ _ _ _ _ _ _ _ _ _ A0t A05 (B9 (pv 7) (E9 (E6 (v := V.int 2) rfl T.mg_TOP ⟨_, rfl⟩)) (fun _ _ => rfl)) (@K7 _ _ _ _ _ _ _ (@C1 _ _ _ _ _ _ _ (@B6 _ _ _ _ _ _ _ _ _ _ _ _ _ _ _ _ G_levels_along (hr.mono (by decide)) rfl T.mg_levels_along T.kp_levels_along b_levels_along .nil B7 (A2 (A1 (pv 1)) (A2 (A1 (pv 2)) (A2 (C1 (B6 G_changes_of (hr.mono (by decide)) rfl T.mg_changes_of T.kp_changes_of b_changes_of .nil B7 (A2 (A1 (pv 0)) (A2 (A1 (pv 5)) C0 A0) A0) (he := A0) (hpl := (A5 A0 A6)))) C0 E3) A0) A0) (by decide) A0 ((A5 A0 (A5 E3 A6))))) (j9 B1) (fun _ _ => rfl))) (by rfl) (by first | exact .inl rfl | exact .inr rfl | assumption))) (@C9 _ _ _ _ _ _ (E1 (C8 (i := 9) A1t.nd rfl (B3 rfl) (j9 (F2 A8j A9w (j9 (A1 (pv 8))) (B9 (pv 7) (E9 (E6 (v := V.int 1) rfl T.mg_GAIN ⟨_, rfl⟩)) (fun _ _ => rfl)))))) (@C9 _ _ _ _ _ _ (@E1 _ _ _ _ _ (@C8 _ _ 10 _ _ _ _ A1t.nd rfl (B3 rfl) (@C1 _ _ _ _ _ _ _ (@B6 _ _ _ _ _ _ _ _ _ _ _ _ _ _ _ _ G_levels_along (hr.mono (by decide)) rfl T.mg_levels_along T.kp_levels_along b_levels_along .nil B7 (A2 (A1 (pv 1)) (A2 (B9 (pv 7) (E9 (E6 (v := V.int 2) rfl T.mg_TOP ⟨_, rfl⟩)) (fun _ _ => rfl)) (A2 (C1 (B6 G_changes_of (hr.mono (by decide)) rfl T.mg_changes_of T.kp_changes_of b_changes_of .nil B7 (A2 (A1 (pv 0)) (A2 (A1 (pv 6)) C0 A0) A0) (he := A0) (hpl := (A5 A0 A6)))) C0 E3) C2) A0) (by decide) A0 ((A5 C2 (A5 E3 A6))))) (by rfl) (by first | exact .inl rfl | exact .inr rfl | assumption))) (@B2 _ _ _ _ (@D0 _ _ _ _ _ (@D9 _ _ _ _ (@Z9 _ _ _ _ _ _ _ (D9 (Z9 (C1 (B6 G_parts_by (hr.mono (by decide)) rfl T.mg_parts_by T.kp_parts_by b_parts_by .nil B7 (A2 (A1 (pv 5)) C0 A0) (he := A0) (hpl := A6))) (D9 (L6 (A8 (Q8 (A8 (A1 (pv 6)) (A8 (A1 (pv 9)) C5 A0) A0)) C5 A18))))) (C1 (B6 G_parts_by (hr.mono (by decide)) rfl T.mg_parts_by T.kp_parts_by b_parts_by .nil B7 (A2 (D9 (A22 (pv 6) A1a (Z8 (B6r (j8 A0m B9l PySem.F.type_list_index B5v (pv 10) (C3 (A1 (pv 1)) D6 A0)))))) C0 C2) (he := C2) (hpl := A6)))))))))))))), fun ds Q hl h => ?_⟩)
 obtain ⟨m, ws, st, b, N, PP, L, rfl, ok, h0, hst, hb, W, hN, q⟩ := h
 have m2 := ok.m2
 left
 refine ⟨m, ws, st, b, N, PP, L, rfl, ok, hb, W, hN, fun i j hij hj hp => ?_⟩
 have nb : ∀ a c n, n ∈ seg N a c -> n < ws.length := fun a c n hn => W.nb n (C8f hn)
 have fw : ∀ a c, (seg N a c).length <= 900 := fun a c => by have := @C8g N a c; omega
 have fw2 : ∀ a c, (chs ws (seg N a c)).length <= 900 := fun a c => by unfold chs; rw [E4]; exact fw a c
 obtain ⟨b0, b1⟩ := W.bd h0 hb i (by omega)
 obtain ⟨le, g, tp, k, R, hle⟩ := C38 b0 b1 (W.seg (i := i) (j := j) (by omega) (by omega)) (W.strict i j hij (by omega) hp)
 have kl : k <= j - i := by
  have := R.kl
  unfold chs at this
  rw [E4, B0a (by omega)] at this
  exact this
 refine go ?_; left
 refine go ?_; left
 refine go ?_; left
 refine ⟨m, ws, seg N i j, rfl, nb i j, fw i j, ?_⟩
 left
 refine ⟨st, _, rfl, ?_⟩
 rw [R.fx]
 refine go ?_; right
 refine ⟨m, ws, seg N 0 i, rfl, nb 0 i, fw 0 i, ?_⟩
 left
 refine ⟨st, L 0, _, rfl, fw2 0 i, ?_⟩
 have w0 := W.seg (i := 0) (j := i) (M8 _) (by omega)
 have hlast : (M6 st (L 0) (chs ws (seg N 0 i))).getLast? = some (L i) := by
  obtain ⟨z, z1, z2⟩ := B20 w0 (chs ws (seg N 0 i)).length (F6 _)
  rw [B34 (F6 _), w0] at z2
  cases z2
  rw [List.getLast?_eq_getElem?, B21 w0]
  exact z1
 left
 rw [show -(1 : Int) = -1 from rfl, B0o (xs := R7 _) (B3e hlast)]
 left
 refine go ?_; left
 have hg : g < 100000000000000000000000000000000000000000000000000000000000000 := by
  rw [R.gs]
  have h1 := B8l (B := 1000000000000000000) (cs := chs ws (seg N i j)) fun c hc => by
   obtain ⟨n, _, rfl⟩ := S2.mp hc
   exact C8h ok n
  have h2 := fw2 i j
  omega
 refine ⟨⟨R.g0, hg⟩, ?_⟩
 refine go ?_; left
 refine ⟨m, ws, seg N i j, rfl, nb i j, fw i j, ?_⟩
 left
 refine ⟨st, tp, _, rfl, fw2 i j, ?_⟩
 refine go ?_; left
 refine ⟨seg N 0 i, rfl, ?_⟩
 left
 have hp1 := @B0q (seg N 0 i)
 refine ⟨by decide, by decide, by rw [E4]; simp; omega, ?_⟩
 unfold R7
 rw [A95]
 left
 refine ⟨⟨R.km, by rw [R.ll]; have := fw2 i j; omega⟩, ?_⟩
 rw [R.ki]
 have ecut : V1 (J8 (seg N i j)) none (some ((k : Nat) : Int)) = J8 (seg N i (i + k)) := by
  rw [B2q]
  unfold J8
  rw [<- p6, B7b kl]
 rw [ecut]
 refine ⟨_, rfl, ?_⟩
 left
 have hp2 := @B0q (seg N i (i + k))
 refine ⟨by simp; omega, ?_⟩
 obtain ⟨t1, t2⟩ := C8i (x := tp - L i) (g := g) (by have := R.xt; omega) R.g0
 have t3 := R.tst
 have qq := q i j k le g tp (-(-(tp - L i) / g)) hij hj hp hle R t1 (by omega)
 unfold A7z at qq
 rw [d8, d8] at qq
 exact qq
end
theorem Rows.risen {m : Nat} {ws : List Wy} {st : Int} {b : Tb} (ok : L1 m ws) (h0 : 0 <= st) (hb : D1 m st b) {r : Rw} {rs : List Rw} (h : Rows m ws st b (r :: rs)) (hn : rs ≠ []) : ∃ p n, gt r.2 p = some n := by
 cases h with
 | one => exact absurd rfl hn
 | @more r0 rs0 h' c =>
  obtain ⟨a1, _, _⟩ := h'.ok ok h0 hb
  have I := m9 (st := st) (t := r0.1) ok a1.len
  by_cases z : ∃ p n, gt (N9 m ws st r0.1 r0.1).2 p = some n
  ·exact z
  ·refine absurd (C3t (by rw [I.l1, a1.len]) fun p => I.no p ?_) c
   cases e : gt (N9 m ws st r0.1 r0.1).2 p with
   | none => rfl
   | some n => exact absurd ⟨p, n, e⟩ z
theorem Rows.rok {m : Nat} {ws : List Wy} {st : Int} {b : Tb} (ok : L1 m ws) (h0 : 0 <= st) (hb : D1 m st b) : ∀ {rs : List Rw}, Rows m ws st b rs -> A8y m ws rs
 | _, .one => fun r hr => by
  have : r = (b, D8 m none) := by simpa using hr
  subst this
  exact ⟨by simp, fun q n e => by rw [A3n] at e; cases e⟩
 | _, .more (r := r0) h c => fun r hr => by
  rcases K1.mp hr with e | hr
  ·subst e
   obtain ⟨a1, _, _⟩ := h.ok ok h0 hb
   have I := m9 (st := st) (t := r0.1) ok a1.len
   refine ⟨I.l2, fun q n e => ?_⟩
   obtain ⟨w, hw, _⟩ := I.yes q n e
   exact (A1z.mp hw).1
  ·exact Rows.rok ok h0 hb h r hr
theorem C8l {m : Nat} {ws : List Wy} {st : Int} {b : Tb} (ok : L1 m ws) (h0 : 0 <= st) (hb : D1 m st b) : ∃ r rs, (Q1 m ws st m (b, D8 m none)).reverse = r :: rs /\ (Q1 m ws st m (b, D8 m none)).getLast? = some r /\ (Q1 m ws st m (b, D8 m none)).length = rs.length + 1 /\ rs.length <= m /\ Rows m ws st b (r :: rs) /\ A8y m ws (Q1 m ws st m (b, D8 m none)) /\
  ((Q1 m ws st m (b, D8 m none)).length <= m -> b7 m ws st b r.1) := by
 obtain ⟨r, rs, e, h, z⟩ := B63 (m := m) (ws := ws) (st := st) (b := b) m (b, D8 m none) [] .one
 rw [List.reverse_nil, M0] at e
 have hl : (Q1 m ws st m (b, D8 m none)).length = rs.length + 1 := by
  rw [<- A77, e]; rfl
 have hbd : ∀ (k : Nat) (q : Rw), (Q1 m ws st k q).length <= k + 1 := by
  intro k
  induction k with
  | zero => intro q; exact F6 _
  | succ k ih =>
   intro q
   unfold Q1
   split
   ·simp
   ·have := ih (N9 m ws st q.1 q.1); simp; omega
 have hb2 := hbd m (b, D8 m none)
 refine ⟨r, rs, e, ?_, hl, by omega, h, fun q hq => h.rok ok h0 hb q (by rw [<- e]; exact List.mem_reverse.mpr hq), fun hm => ?_⟩
 ·rw [<- List.head?_reverse, e]; rfl
 ·rcases z with z | z
  ·exact h.least ok h0 hb z
  ·rw [M1] at z
   simp at z
   omega
def C8m (B : Nat) (d : PyData) : Prop := ∃ q ps, d = .tuple [q, .list ps] /\ ps.length <= B
def C8n : DSp := fun ds Q => ∃ (m : Nat) (ws : List Wy) (st : Int) (b0 : Tb), ds = [D4 m ws, .int st, .list (A3 b0)] /\ L1 m ws /\ 0 <= st /\ st <= 1000000000000000000000 /\ D1 m st b0 /\
 ∀ (rs : List Rw) (r : Rw) (rd : List PyData), rs.getLast? = some r -> b7 m ws st b0 r.1 -> Q (.tuple [.list (rs.map T5), .list rd])
def C8o : DSp := fun ds Q => ∃ (m : Nat) (ws : List Wy) (st : Int) (b0 : Tb), ds = [D4 m ws, .int st, .list (A3 b0)] /\ L1 m ws /\ 0 <= st /\ st <= 1000000000000000000000 /\ D1 m st b0 /\ ∀ t, b7 m ws st b0 t -> Q (.list (A3 t))
theorem C8p {st : Int} {b : Tb} : A3o st b <= b.length := List.countP_le_length
theorem C8q {N : List Nat} {i j k : Nat} {tm : Int} : (A7z N i j k tm).length <= 3 := by
 unfold A7z
 have h1 := @B0q (seg N 0 i)
 have h2 := @B0q (seg N i (i + k))
 rw [M7, M7]
 simp
 omega
section
variable {P : Program} {w : World} {K : A4} {mg : Str -> Option Value} {base : Heap}
theorem C8r (T : Txt K mg) : D3 P w K mg base CX0 7 T.a_settled T.d_settled ["land", "store", "base"] (spD [.sh, .sh, .sh] C8n) := by
 have G_rows_from := @C79 P w K mg base T
 have b_rows_from := C54 T
 have G_still_rises := @C8a P w K mg base T
 have b_still_rises := C55 T
 have G_rising_walk := @C8b P w K mg base T
 have b_rising_walk := C56 T
 have G_filling_parts := @C8k P w K mg base T
 have b_filling_parts := C59 T
 have G_end_of := @C72 P w K mg base T
 have b_end_of := C53 T
 refine G5 T.F_settled A0e rfl (fun C cdv A outer s H E hr => ⟨_, (@C9 _ _ _ _ _ _ (g8 (C8 (i := 3) A0e.nd rfl (B3 rfl) (A09 (Y0 t6 rfl T.n_list W6 (C3 (pv 2) D6 A0) (he := A0) (hpl := A6))))) (@C9 _ _ _ _ _ _ (@C24 _ _ _ _ _ _ _ _ _ rfl (@A17 _ _ _ _ _ _ _ _ _ _ _ _ _ 4 _ _ _ _ _ A0e.nd rfl (B3 rfl) (M3.new (N := ["land", "store", "base", "table", "roads", "rows", "walk", "parts", "full", "road"]) (osc := A7 A38) (by decide +kernel)) rfl (U2 (T8 rfl T.n_range (A8 (B9 (pv 0) (E9 (E6 (v := V.int 0) rfl T.mg_MANY ⟨_, rfl⟩)) (fun _ _ => rfl)) C5 C2))) (fun _ => P3) (fun _ => (Q8 (A8 (A1 (pv 10)) (A8 (D9 (L6 C5)) C5 B5n) A0))) (by rfl) (by first | exact .inl rfl | exact .inr rfl | assumption) (by rfl) (by rfl) (by intro _; rfl))) (@C9 _ _ _ _ _ _ (E1 (C8 (i := 5) A0e.nd rfl (B3 rfl) (C1 (B6 G_rows_from (hr.mono (by decide)) rfl T.mg_rows_from T.kp_rows_from b_rows_from .nil B7 (A2 (A1 (pv 0)) (A2 (A1 (pv 1)) (J7 (pv 3) C0 A0) A0) A0) (he := A0) (hpl := (A5 A0 (A5 A0 A6))))))) (@C9 _ _ _ _ _ _ (@A94 _ _ _ _ _ (@A8g _ _ _ _ _ _ N4 (U9 (C1 (B6 G_still_rises (hr.mono (by decide)) rfl T.mg_still_rises T.kp_still_rises b_still_rises .nil B7 (A2 (A1 (pv 0)) (A2 (A1 (pv 5)) C0 A0) A0) (he := A0) (hpl := (A5 A0 A6))))) (@C9 _ _ _ _ _ _ (E1 (C8 (i := 6) A0e.nd rfl (B3 rfl) (C1 (B6 G_rising_walk (hr.mono (by decide)) rfl T.mg_rising_walk T.kp_rising_walk b_rising_walk .nil B7 (A2 (A1 (pv 0)) (A2 (A1 (pv 5)) C0 A0) A0) (he := A0) (hpl := (A5 A0 A6)))))) (@C9 _ _ _ _ _ _ (@E1 _ _ _ _ _ (@C8 _ _ 7 _ _ _ _ A0e.nd rfl (B3 rfl) (@C1 _ _ _ _ _ _ _ (@B6 _ _ _ _ _ _ _ _ _ _ _ _ _ _ _ _ G_filling_parts (hr.mono (by decide)) rfl T.mg_filling_parts T.kp_filling_parts b_filling_parts .nil B7 (A2 (A1 (pv 0)) (A2 (A1 (pv 1)) (A2 (B9 (pv 3) (B9 (pv 6) (E9 (E6 (v := V.int 0) rfl T.mg_FROM ⟨_, rfl⟩)) (fun _ _ => rfl)) (fun _ _ => rfl)) (A2 (A1 (pv 6)) C0 A0) C2) A0) A0) (by decide) A0 ((A5 A0 (A5 C2 (A5 A0 A6)))))) (by rfl) (by first | exact .inl rfl | exact .inr rfl | assumption))) (@C9 _ _ _ _ _ _ (E1 (C8 (i := 8) A0e.nd rfl (B3 rfl) (C1 (B6 G_end_of (hr.mono (by decide)) rfl T.mg_end_of T.kp_end_of b_end_of .nil B7 (A2 (A1 (pv 0)) (A2 (B9 (pv 6) (E9 (E6 (v := V.int 0) rfl T.mg_FROM ⟨_, rfl⟩)) (fun _ _ => rfl)) (A2 (A1 (pv 7)) C0 A0) C2) A0) (he := A0) (hpl := (A5 C2 (A5 A0 A6))))))) (@C9 _ _ _ _ _ _ (E1 (C8 (i := 9) A0e.nd rfl (B3 rfl) (B9 (pv 4) (B9 (pv 6) (E9 (E6 (v := V.int 0) rfl T.mg_FROM ⟨_, rfl⟩)) (fun _ _ => rfl)) (fun _ _ => rfl)))) (@C9 _ _ _ _ _ _ (A5h (S9 (Q8 (A8 (B9 (pv 9) (E9 (E6 (v := V.int 0) rfl T.mg_FROM ⟨_, rfl⟩)) (fun _ _ => rfl)) (A8 (D9 (Z9 (B9 (pv 9) (E9 (E6 (v := V.int 1) rfl T.mg_BY ⟨_, rfl⟩)) (fun _ _ => rfl)) (A1 (pv 7)))) C5 J1) C2)) (V4 (pv 4) (A1 (pv 8)) U1))) (@C9 _ _ _ _ _ _ (A5h (S9 (A1 (pv 1)) (V4 (pv 3) (A1 (pv 8)) U1))) (B2 (E1 (C8 (i := 5) A0e.nd rfl (B3 rfl) (C1 (B6 G_rows_from (hr.mono (by decide)) rfl T.mg_rows_from T.kp_rows_from b_rows_from .nil B7 (A2 (A1 (pv 0)) (A2 (A1 (pv 1)) (J7 (pv 3) C0 A0) A0) A0) (he := A0) (hpl := (A5 A0 (A5 A0 A6)))))))))))))))) (B2 (D0 (Q8 (A8 (A1 (pv 5)) (A8 (A1 (pv 4)) C5 A0) A0)))))))), fun ds Q hl h => ?_⟩)
 obtain ⟨m, ws, st, b0, rfl, ok, h0, hst, hb0, q⟩ := h
 have m2 := ok.m2
 left
 refine go ?_; array_mem_dec
 refine ⟨⟨by omega, by omega⟩, ⟨rfl, by unfold G7; rw [E4, d7]; omega⟩, ?_⟩
 unfold G7
 rw [show ((m : Nat) : Int).toNat = m by simp]
 refine V7 (f := fun i => .tuple [.int (0 + ((i : Nat) : Int)), .list []]) (fun i hi Q' q' => ?_) ?_
 ·left
  exact ⟨by decide, by decide, q'⟩
 left
 refine go ?_; left
 refine ⟨rfl, m, ws, st, b0, rfl, ok, hb0.len, ?_⟩
 left
 refine go ?_
 unfold L8 A8q
 refine ⟨fun μ ρ => ∃ (b : Tb) (rd : List PyData) (z6 z7 z8 z9 : Sl), ρ = [Sl.sh (D4 m ws), Sl.sh (.int st), Sl.sh (.list (A3 b0)), Sl.ow (A3 b), Sl.ow rd, Sl.sh (.list ((Q1 m ws st m (b, D8 m none)).map T5)), z6, z7, z8, z9] /\ D1 m st b /\ A3o st b = μ /\ (∀ t, b7 m ws st b t -> b7 m ws st b0 t) /\ rd.length = m /\ ∀ d ∈ rd, C8m (3 * (m - μ)) d,
  ⟨A3o st b0, b0, _, _, _, _, _, rfl, hb0, rfl, fun t h => h, by simp, fun d hd => ?_⟩, ?_⟩
 ·have hd' : d ∈ (P6 m).map fun i => PyData.tuple [.int (0 + ((i : Nat) : Int)), .list []] := hd
  obtain ⟨i, _, rfl⟩ := S2.mp hd'
  exact ⟨_, [], rfl, M8 _⟩
 rintro μ ρ ⟨b, rd, z6, z7, z8, z9, rfl, hb, hμ, hle, hrl, hrd⟩
 obtain ⟨r, rs, e1, e2, e3, e4, hR, hok, hfin⟩ := C8l ok h0 hb
 left
 refine ⟨m, ws, _, rfl, ?_⟩
 by_cases c : m < (Q1 m ws st m (b, D8 m none)).length
 ·rw [decide_eq_true c]
  sizeOf_list_dec
  have hne : rs ≠ [] := fun z => by rw [z] at e3; have := ok.m1; simp at e3; omega
  refine ⟨m, ws, _, r, rfl, ok, hok, by omega, e2, hR.risen ok h0 hb hne, fun p n hp hn => ?_⟩
  obtain ⟨N, PP, L, f1, f2, f3, f4, W, f6⟩ := B68 ok h0 hb hR p (.inr ⟨n, hn⟩)
  have hN : N.length = m := by omega
  rw [e1, f1]
  have hbeg : gt b (PP 0) = some (L 0) := W.beg
  have hP0 : PP 0 < m := W.pl ok hb 0 (M8 _)
  refine go ?_; left
  rw [R8 (by rw [hb.len]; exact hP0), hbeg]
  right
  refine ⟨m, ws, st, b, N, PP, L, rfl, ok, h0, hst, hb, W, hN, fun i j k le g tp tm hij hj hpp hle2 R t1 t2 => ?_⟩
  have kl : k <= j - i := by
   have := R.kl
   unfold chs at this
   rw [E4, B0a (by omega)] at this
   exact this
  have hfull : PP (i + k) < m := W.pl ok hb (i + k) (by omega)
  have htrp : Trp ws (PP 0) (A7z N i j k tm) (PP (i + k)) := by
   unfold A7z
   refine ((B8e (W.pth (i := 0) (j := i) (M8 _) (by omega))).app ?_).app (B8e (W.pth (i := i) (j := i + k) (by omega) (by omega)))
   have hs := W.pth (i := i) (j := j) (by omega) (by omega)
   rw [<- hpp] at hs
   exact .cons hs (fun z => by have := congrArg B0z z; rw [B0a (by omega)] at this; simp at this; omega) t1 t2 (.inr rfl) .nil
  refine go ?_; left
  refine ⟨m, ws, PP 0, PP (i + k), _, rfl, htrp, ?_⟩
  obtain ⟨d0, hd0⟩ : ∃ d, rd[PP 0]? = some d := ⟨_, J5 (by omega)⟩
  obtain ⟨q0, ps0, rfl, hps⟩ := hrd d0 (N3 hd0)
  refine go ?_; left
  rw [W5 hd0]
  left
  refine go ?_; left
  have h3 := @C8q N i j k tm
  have hlk := B7c st b (PP (i + k)) (by rw [hb.len]; exact hfull) (C4a W h0 hb hij (by omega) hpp (by omega))
  have hlm := @C8p st b
  rw [hb.len] at hlm
  refine ⟨by rw [E4]; omega, by decide, ?_⟩
  rw [o0 (by rw [hrl]; exact hfull)]
  left
  refine go ?_; left
  rw [o0 (by rw [N2, hb.len]; exact hfull)]
  left
  rw [show (A3 b).set (PP (i + k)) (PyData.int st) = A3 (b.set (PP (i + k)) (some st)) from B3d (x := some st)]
  refine go ?_; left
  have hb' := C4b h0 hb hfull
  refine ⟨rfl, m, ws, st, _, rfl, ok, hb'.len, ?_⟩
  left
  refine ⟨A3o st (b.set (PP (i + k)) (some st)), by omega, b.set (PP (i + k)) (some st), _, _, _, _, _, rfl, hb', rfl, fun t h => hle t (h.fill hb hfull fun T hT h1 h2 => C39 W hij (by omega) hpp hle2 R hT h1 h2), by rw [L9]; exact hrl, fun d hd => ?_⟩
  rcases B38 hd with hd | hd
  ·obtain ⟨q1, ps1, e, h5⟩ := hrd d hd
   exact ⟨q1, ps1, e, by omega⟩
  ·exact ⟨_, _, hd, by rw [M7, E4]; omega⟩
 ·rw [decide_eq_false c]
  left
  refine go ?_
  left
  refine ⟨by decide, ?_⟩
  exact q _ r rd e2 (hle _ (hfin (by omega)))
theorem C8s (T : Txt K mg) : D3 P w K mg base CX0 8 T.a_highest T.d_highest ["land", "store", "base"] (spD [.sh, .sh, .sh] C8o) := by
 have G_settled := @C8r P w K mg base T
 have b_settled := C6a T
 refine G5 T.F_highest C49 rfl (fun C cdv A outer s H E hr => ⟨_, (@B2 _ _ _ _ (@D0 _ _ _ _ _ (@K7 _ _ _ _ _ _ _ (K7 (K7 (C1 (B6 G_settled (hr.mono (by decide)) rfl T.mg_settled T.kp_settled b_settled .nil B7 (A2 (A1 (pv 0)) (A2 (A1 (pv 1)) (A2 (A1 (pv 2)) C0 A0) A0) A0) (he := A0) (hpl := (A5 A0 (A5 A0 A6))))) B1 (fun _ _ => rfl)) (j9 B1) (fun _ _ => rfl)) (E9 (E6 (v := V.int 0) rfl T.mg_TABLE ⟨_, rfl⟩)) (fun _ _ => rfl)))), fun ds Q hl h => ?_⟩)
 obtain ⟨m, ws, st, b0, rfl, ok, h0, hst, hb0, q⟩ := h
 left
 refine ⟨m, ws, st, b0, rfl, ok, h0, hst, hb0, fun rs r rd hl hL => ?_⟩
 left
 rw [show -(1 : Int) = -1 from rfl, B0o (B3e hl)]
 right
 exact q _ hL
end
def D07 : DSp := fun ds Q => ∃ d, ds = [d] /\ ∀ r : Int, 1 <= r -> r <= 1000000000000000000 -> Q (.int r)
def C8t : DSp := fun ds Q => ∃ (d : PyData) (sc : Int), ds = [d, .int sc] /\ 0 <= sc /\ sc <= 1000000000000000000 /\ ∀ r : Int, -sc <= r -> r <= sc -> Q (.int r)
def C8u : DSp := fun ds Q => ∃ (d : PyData) (sc : Int), ds = [d, .int sc] /\ 0 <= sc /\ sc <= 1000000000000000000 /\ ∀ r : Int, 0 <= r -> r <= 100000000000000000000 -> Q (.int r)
def C8v : DSp := fun ds Q => ∃ (d : PyData) (pl wn : Nat) (sc : Int), ds = [d, .int (pl : Nat), .int (wn : Nat), .int sc] /\ 1 <= pl /\ pl <= 12 /\ wn <= 40 /\ 1 <= sc /\ sc <= 1000000000000000000 /\ ∀ m ws, L1 m ws -> Q (D4 m ws)
def C8w : DSp := fun ds Q => ∃ (d : PyData) (m : Nat) (st : Int), ds = [d, .int (m : Nat), .int st] /\ m <= 12 /\ 0 <= st /\ st <= 1000000000000000000000 /\ ∀ t, D1 m st t -> Q (.list (A3 t))
def ODs (st : Int) (d : PyData) : Prop := ∃ o : Option Int, d = oD o /\ ∀ x, o = some x -> 0 <= x /\ x <= st
theorem B8m {st : Int} : ∀ {ds : List PyData}, (∀ d ∈ ds, ODs st d) -> ∃ t : Tb, ds = A3 t /\ D1 ds.length st t
 | [], _ => ⟨[], rfl, rfl, fun p x e => by rw [w6 (M8 _)] at e; cases e⟩
 | d :: ds, h => by
  obtain ⟨t, rfl, ht⟩ := B8m (ds := ds) fun e he => h e (A9 _ he)
  obtain ⟨o, rfl, ho⟩ := h d B4
  refine ⟨o :: t, rfl, ⟨by rw [M1, M1, N2], fun p x e => ?_⟩⟩
  cases p with
  | zero => exact ho x e
  | succ p => exact ht.bd p x e
theorem lt2 {r : Int} (h0 : 0 <= r) (h1 : r < 2) : r = 0 \/ r = 1 := by omega
section
variable {P : Program} {w : World} {K : A4} {mg : Str -> Option Value} {base : Heap}
theorem C8x (T : Txt K mg) : D3 P w K mg base CX0 4 T.a_change T.d_change ["_law_hand_here", "_law_scale_here"] (spD [.hd, .sh] C8t) := by
 have G_draw := @A1w P w K mg base T
 have b_draw := A1v T
 refine G5 T.F_change C5i rfl (fun C cdv A outer s H E hr => ⟨_, (B2 (D0 (F2 A0t A05 (C1 (B6 G_draw (hr.mono (by decide)) rfl T.mg_draw T.kp_draw b_draw .nil B7 (J7 (pv 0) (A2 (F2 K6 M4 (F2 A0u B19 B1 (A1 (pv 1))) B1) C0 J1) A0) (he := A0) (hpl := (A5 J1 A6)))) (A1 (pv 1))))), fun ds Q hl h => ?_⟩)
 obtain ⟨d, sc, rfl, s0, s1, q⟩ := h
 left
 refine ⟨rfl, .inl ⟨by decide, by decide⟩, 2 * sc + 1, rfl, by omega, by omega, fun r r0 r1 => ?_⟩
 left
 exact q _ (by omega) (by omega)
theorem C8y (T : Txt K mg) : D3 P w K mg base CX0 4 T.a_store T.d_store ["_law_hand_here", "_law_scale_here"] (spD [.hd, .sh] C8u) := by
 have G_draw := @A1w P w K mg base T
 have b_draw := A1v T
 refine G5 T.F_store B7y rfl (fun C cdv A outer s H E hr => ⟨_, (@G4 _ _ _ _ _ _ (E1 (C8 (i := 2) B7y.nd rfl (B3 rfl) (C1 (B6 G_draw (hr.mono (by decide)) rfl T.mg_draw T.kp_draw b_draw .nil B7 (J7 (pv 0) (A2 B1 C0 G1) A0) (he := A0) (hpl := (A5 G1 A6)))))) (@G4 _ _ _ _ _ _ (J3 (F8 (Z5 (Q3 hr)) Q0 (A1 (pv 2)) B1 (D2 _))
   (B2 (D0 (C1 (B6 G_draw (hr.mono (by decide)) rfl T.mg_draw T.kp_draw b_draw .nil B7 (J7 (pv 0) (A2 B1 C0 G1) A0) (he := A0) (hpl := (A5 G1 A6))))))
   J2) (@G4 _ _ _ _ _ _ (@J3 _ _ _ _ _ _ _ _ _ (F8 (Z5 (Q3 hr)) Q0 (A1 (pv 2)) B1 (D2 _)) (B2 (D0 (K7 (D9 (L6 (A8 (F2 A0v A2n B1 B1) (A8 (F2 A0v A2n B1 B1) C5 J1) J1))) (C1 (B6 G_draw (hr.mono (by decide)) rfl T.mg_draw T.kp_draw b_draw .nil B7 (J7 (pv 0) (A2 B1 C0 G1) A0) (he := A0) (hpl := (A5 G1 A6)))) (fun _ _ => rfl)))) J2) (@B2 _ _ _ _ (@D0 _ _ _ _ _ (@P2 _ _ _ _ _ _ A07 (@F9 _ _ _ _ _ _ _ _ _ (A0z rfl) rfl T.n_min A02 (A8 (F2 A0v A2n B1 B1) (A8 (C1 (B6 G_draw (hr.mono (by decide)) rfl T.mg_draw T.kp_draw b_draw .nil B7 (J7 (pv 0) (A2 (F2 K6 M4 (F2 A0u B19 B1 (A1 (pv 1))) B1) C0 J1) A0) (he := A0) (hpl := (A5 J1 A6)))) C5 E3) J1) (by decide) (by decide) J1 ((A5 E3 A6))))))))), fun ds Q hl h => ?_⟩)
 obtain ⟨d, sc, rfl, s0, s1, q⟩ := h
 left
 refine ⟨rfl, 6, rfl, by decide, by decide, fun r r0 r1 => ?_⟩
 left
 refine ⟨rfl, rfl, T6 _ _, ?_⟩
 rw [T7]
 by_cases c0 : r = 0
 ·rw [c0, show ((0 : Int) == 0) = true from rfl]
  left
  refine ⟨rfl, 4, rfl, by decide, by decide, fun r r0 r1 => ?_⟩
  exact q _ r0 (by omega)
 ·rw [beq_eq_false_iff_ne.mpr c0]
  left
  refine ⟨rfl, rfl, T6 _ _, ?_⟩
  rw [T7]
  by_cases c1 : r = 1
  ·rw [c1, show ((1 : Int) == 1) = true from rfl]
   left
   refine ⟨⟨by decide, by decide, by decide⟩, ⟨by decide, by decide, by decide⟩, by decide, rfl, 2, rfl, by decide, by decide, fun r r0 r1 => ?_⟩
   left
   rcases lt2 r0 r1 with rfl | rfl
   all_goals exact q _ (by decide) (by decide)
  ·rw [beq_eq_false_iff_ne.mpr c1]
   left
   refine ⟨⟨by decide, by decide, by decide⟩, rfl, .inl ⟨by decide, by decide⟩, 4 * sc + 1, rfl, by omega, by omega, fun r r0 r1 => ?_⟩
   left
   refine q _ ?_ ?_
   ·split
    ·exact r0
    ·decide
   ·split
    ·omega
    ·decide
end
def WyB (m : Nat) (w : Wy) : Prop := w.1 < m /\ w.2.1 < m /\ -1000000000000000000 <= w.2.2 /\ w.2.2 <= 1000000000000000000
theorem A4j {r : Int} {m : Nat} (h0 : 0 <= r) (h1 : r < ((m : Nat) : Int)) : ∃ n : Nat, r = ((n : Nat) : Int) /\ n < m := ⟨r.toNat, by omega, by omega⟩
section
variable {P : Program} {w : World} {K : A4} {mg : Str -> Option Value} {base : Heap}
theorem C8z (T : Txt K mg) : D3 P w K mg base CX0 5 T.a_land T.d_land ["_law_hand_here", "_law_places", "_law_ways", "_law_scale_here"] (spD [.hd, .sh, .sh, .sh] C8v) := by
 have G_draw := @A1w P w K mg base T
 have b_draw := A1v T
 have G_change := @C8x P w K mg base T
 have b_change := C6k T
 refine G5 T.F_land A4h rfl (fun C cdv A outer s H E hr => ⟨_, (@C9 _ _ _ _ _ _ (E1 (C8 (i := 4) A4h.nd rfl (B3 rfl) (F2 K6 M4 B1 (C1 (B6 G_draw (hr.mono (by decide)) rfl T.mg_draw T.kp_draw b_draw .nil B7 (J7 (pv 0) (A2 (A1 (pv 1)) C0 A0) A0) (he := A0) (hpl := (A5 A0 A6))))))) (@C9 _ _ _ _ _ _ (g8 (C8 (i := 5) A4h.nd rfl (B3 rfl) (L6 C5))) (@C9 _ _ _ _ _ _ (@P5 _ _ _ _ _ _ (@P0 _ _ _ _ _ _ _ _ N4 rfl (U2 (T8 rfl T.n_range (A8 (C1 (B6 G_draw (hr.mono (by decide)) rfl T.mg_draw T.kp_draw b_draw .nil B7 (J7 (pv 0) (A2 (F2 K6 M4 (A1 (pv 2)) B1) C0 J1) A0) (he := A0) (hpl := (A5 J1 A6)))) C5 E3))) (T3 (K3 (i := 6) A4h.nd rfl (B3 rfl))) (@C9 _ _ _ _ _ _ (E1 (C8 (i := 7) A4h.nd rfl (B3 rfl) (C1 (B6 G_draw (hr.mono (by decide)) rfl T.mg_draw T.kp_draw b_draw .nil B7 (J7 (pv 0) (A2 (A1 (pv 4)) C0 A0) A0) (he := A0) (hpl := (A5 A0 A6)))))) (@C9 _ _ _ _ _ _ (E1 (C8 (i := 8) A4h.nd rfl (B3 rfl) (C1 (B6 G_draw (hr.mono (by decide)) rfl T.mg_draw T.kp_draw b_draw .nil B7 (J7 (pv 0) (A2 (A1 (pv 4)) C0 A0) A0) (he := A0) (hpl := (A5 A0 A6)))))) (@C9 _ _ _ _ _ _ (@O7 _ _ _ _ (@J3 _ _ _ _ _ _ _ _ _ (F8 (Z5 (Q3 hr)) Q0 (C1 (B6 G_draw (hr.mono (by decide)) rfl T.mg_draw T.kp_draw b_draw .nil B7 (J7 (pv 0) (A2 B1 C0 G1) A0) (he := A0) (hpl := (A5 G1 A6)))) B1 (D2 _)) (B2 (E1 (C8 (i := 8) A4h.nd rfl (B3 rfl) (F2 d9 B2a (F2 K6 M4 (A1 (pv 7)) B1) (A1 (pv 4)))))) J2)) (@B2 _ _ _ _ (@A1i _ _ _ _ _ _ (@Z4 _ _ _ _ (@j8 _ _ _ _ _ _ _ _ _ _ _ _ A0m A4r A4s A00 (pv 5) (@C3 _ _ _ _ _ (@Q8 _ _ _ _ _ _ (@A8 _ _ _ _ _ _ (A1 (pv 7)) (@A8 _ _ _ _ _ _ (A1 (pv 8)) (@A8 _ _ _ _ _ _ (@C1 _ _ _ _ _ _ _ (@B6 _ _ _ _ _ _ _ _ _ _ _ _ _ _ _ _ G_change (hr.mono (by decide)) rfl T.mg_change T.kp_change b_change .nil B7 (J7 (pv 0) (A2 (K7 (D9 (L6 (A8 (A1 (pv 3)) (A8 (A1 (pv 3)) (A8 B1 C5 G1) A0) A0))) (C1 (B6 G_draw (hr.mono (by decide)) rfl T.mg_draw T.kp_draw b_draw .nil B7 (J7 (pv 0) (A2 B1 C0 G1) A0) (he := A0) (hpl := (A5 G1 A6)))) (fun _ _ => rfl)) C0 C2) A0) (by decide) A0 ((A5 C2 A6)))) C5 E3) A0) A0)) D6 A18) (by rfl) (by rfl) (by rfl) (by rfl) (by rfl)) (by rfl))))))) (by intro _; rfl))) (B2 (D0 (Q8 (A8 (A1 (pv 4)) (A8 (A1 (pv 5)) C5 A0) A0))))))), fun ds Q hl h => ?_⟩)
 obtain ⟨d, pl, wn, sc, rfl, p1, p2, w2, s0, s1, q⟩ := h
 left
 refine ⟨rfl, _, rfl, by omega, by omega, fun r r0 r1 => ?_⟩
 left
 obtain ⟨m, hm, m1⟩ : ∃ m : Nat, 1 + r = ((m : Nat) : Int) /\ 1 <= m /\ m <= 12 := ⟨(1 + r).toNat, by omega, by omega, by omega⟩
 rw [hm]
 refine go ?_; left
 refine ⟨by decide, ?_⟩
 refine go ?_; array_mem_dec
 refine ⟨rfl, _, rfl, by omega, by omega, fun c c0 c1 => ?_⟩
 array_mem_dec
 refine ⟨⟨by omega, by omega⟩, fun r ρ => ∃ (ws : List Wy) (z6 z7 z8 : Sl), ρ = [Sl.hd, Sl.sh (.int (pl : Nat)), Sl.sh (.int (wn : Nat)), Sl.sh (.int sc), Sl.sh (.int (m : Nat)), Sl.ow (ws.map K5), z6, z7, z8] /\ r.length + ws.length <= 40 /\ ∀ w ∈ ws, WyB m w, ⟨[], _, _, _, rfl, by unfold G7; simp; omega, fun w hw => nomatch hw⟩, ?_, ?_⟩
 ·rintro x r ρ ⟨ws, z6, z7, z8, rfl, hl2, hw⟩
  sizeOf_list_dec
  refine ⟨rfl, _, rfl, by omega, by omega, fun a a0 a1 => ?_⟩
  refine go ?_; left
  refine ⟨rfl, _, rfl, by omega, by omega, fun b b0 b1 => ?_⟩
  refine go ?_
  unfold L8
  obtain ⟨a', rfl, ha⟩ := A4j a0 a1
  obtain ⟨b', rfl, hb⟩ := A4j b0 b1
  refine ⟨fun ρ => ∃ e : Nat, e < m /\ ρ = [Sl.hd, Sl.sh (.int (pl : Nat)), Sl.sh (.int (wn : Nat)), Sl.sh (.int sc), Sl.sh (.int (m : Nat)), Sl.ow (ws.map K5), Sl.sh x, Sl.sh (.int (a' : Nat)), Sl.sh (.int (e : Nat))], ?_, ?_⟩
  ·left
   refine ⟨rfl, _, rfl, by decide, by decide, fun u u0 u1 => ?_⟩
   left
   refine ⟨rfl, rfl, T6 _ _, ?_⟩
   rw [T7]
   cases (u == 0) with
   | true =>
    left
    refine ⟨by omega, ?_⟩
    obtain ⟨e, he, hem⟩ := A4j (r := (((a' : Nat) : Int) + 1) % ((m : Nat) : Int)) (m := m) (B07 _ (by omega)) (B37 _ (by omega))
    rw [he]
    exact ⟨e, hem, rfl⟩
   | false =>
    left
    exact ⟨b', hb, rfl⟩
  ·rintro ρ ⟨e, he, rfl⟩
   refine go ?_; left
   refine ⟨rfl, by show 3 <= 1000; decide, rfl, _, rfl, by decide, by decide, fun u u0 u1 => ?_⟩
   left
   obtain ⟨sc', hsc, hs0, hs1⟩ : ∃ sc' : Int, atI [PyData.int sc, .int sc, .int 1] u = some (.int sc') /\ 0 <= sc' /\ sc' <= 1000000000000000000 := by
    have hu : u = 0 \/ u = 1 \/ u = 2 := by omega
    rcases hu with rfl | rfl | rfl
    ·exact ⟨sc, rfl, by omega, s1⟩
    ·exact ⟨sc, rfl, by omega, s1⟩
    ·exact ⟨1, rfl, by decide, by decide⟩
   rw [hsc]
   left
   refine ⟨_, sc', rfl, hs0, hs1, fun v v0 v1 => ?_⟩
   left
   refine ⟨by decide, by rw [E4]; simp at hl2; omega, ws ++ [(a', e, v)], _, _, _, by rw [d8]; rfl, by simp at hl2 ⊢; omega, fun w hw' => ?_⟩
   rcases X5.mp hw' with z | z
   ·exact hw w z
   ·have : w = (a', e, v) := by simpa using z
    subst this
    exact ⟨ha, he, show -1000000000000000000 <= v by omega, show v <= 1000000000000000000 by omega⟩
 ·rintro ρ ⟨ws, z6, z7, z8, rfl, hl2, hw⟩
  refine go ?_; left
  refine ⟨by decide, ?_⟩
  exact q m ws ⟨m1.1, m1.2, by simp at hl2; omega, fun w h => (hw w h).1, fun w h => (hw w h).2.1, fun w h => (hw w h).2.2.1, fun w h => (hw w h).2.2.2⟩
theorem B8n (T : Txt K mg) : D3 P w K mg base CX0 4 T.a_table T.d_table ["_law_hand_here", "_law_many", "_law_store_here"] (spD [.hd, .sh, .sh] C8w) := by
 have G_draw := @A1w P w K mg base T
 have b_draw := A1v T
 refine G5 T.F_table B7z rfl (fun C cdv A outer s H E hr => ⟨_, (@G4 _ _ _ _ _ _ (E1 (C8 (i := 3) B7z.nd rfl (Or.inr rfl) (F2 K6 M4 B1 (F2 A0u B19 B1 (C1 (B6 G_draw (hr.mono (by decide)) rfl T.mg_draw T.kp_draw b_draw .nil B7 (J7 (pv 0) (A2 B1 C0 G1) A0) (he := A0) (hpl := (A5 G1 A6)))))))) (@B2 _ _ _ _ (@D0 _ _ _ _ _ (@D9 _ _ _ _ (@W9 _ _ _ _ _ _ _ _ rfl (@V5 _ _ _ _ _ _ _ _ _ _ _ _ _ _ _ (M3.new (N := ["_law_hand_here", "_law_many", "_law_store_here", "_law_rare"]) (osc := A7 A4c) (by decide +kernel)) rfl (U2 (T8 rfl T.n_range (A8 (A1 (pv 1)) C5 A0))) (fun _ => P3) (fun _ => (@K7 _ _ _ _ _ _ _ (D9 (L6 (A8 (C1 (B6 G_draw (hr.mono (by decide)) rfl T.mg_draw T.kp_draw b_draw .nil B7 (J7 (pv 0) (A2 (F2 K6 M4 (A1 (pv 2)) B1) C0 J1) A0) (he := A0) (hpl := (A5 J1 A6)))) (A8 J6 C5 G1) E3))) (P2 B6b (Y0 B4t rfl T.n_int A9r (A8 (Z6 A0x A2o (C1 (B6 G_draw (hr.mono (by decide)) rfl T.mg_draw T.kp_draw b_draw .nil B7 (J7 (pv 0) (A2 (A1 (pv 3)) C0 A0) A0) (he := A0) (hpl := (A5 A0 A6)))) B1 (D2 _)) C5 A9s) (he := A9s) (hpl := A6))) (fun _ _ => rfl))) (by rfl) (by rfl) (by intro _; rfl))))))), fun ds Q hl h => ?_⟩)
 obtain ⟨d, m, st, rfl, m2, s0, s1, q⟩ := h
 left
 refine ⟨rfl, _, rfl, by decide, by decide, fun r r0 r1 => ?_⟩
 array_mem_dec
 refine ⟨.inl ⟨by decide, by decide⟩, ⟨by omega, by omega⟩, ⟨rfl, by unfold G7; rw [E4, d7]; omega⟩, ?_⟩
 refine B6t (R := ODs st) (fun x hx Q' q' => ?_) fun ds hl2 hR => ?_
 ·left
  refine ⟨rfl, _, rfl, by omega, by omega, fun u u0 u1 => ?_⟩
  left
  refine ⟨by decide, rfl, _, rfl, by omega, by omega, fun v v0 v1 => ?_⟩
  left
  cases decide (0 < v) with
  | true =>
   exact q' _ ⟨none, rfl, fun x e => nomatch e⟩
  | false =>
   exact q' _ ⟨some u, rfl, fun x e => by cases e; exact ⟨u0, by omega⟩⟩
 ·obtain ⟨t, e, ht⟩ := B8m hR
  rw [M0, e]
  have hlen : ds.length = m := by rw [hl2]; unfold G7; rw [E4, d7]; simp
  rw [hlen] at ht
  exact q t ht
end
def D08 : DSp := fun ds Q => ∃ d, ds = [d] /\ ∀ m ws st g, L1 m ws -> 0 <= st -> st <= 100000000000000000000 -> D1 m st g -> Q (.tuple [D4 m ws, .int st, .list (A3 g)])
theorem D09 {st x : Int} (h0 : 0 <= st) : 0 <= (if st - x % 3 > 0 then st - x % 3 else 0) /\ (if st - x % 3 > 0 then st - x % 3 else 0) <= st := by
 have := B07 x (show (3 : Int) ≠ 0 by decide)
 split <;> omega
section
variable {P : Program} {w : World} {K : A4} {mg : Str -> Option Value} {base : Heap}
end
theorem B8o : ∀ ws : List Wy, PyData.canLayAll0 (ws.map K5) = true
 | [] => rfl
 | w :: ws => by
  show (PyData.canLay0 (K5 w) && PyData.canLayAll0 (ws.map K5)) = true
  rw [B8o ws]; rfl
theorem B8p : ∀ ws : List Wy, PyData.depthAll (ws.map K5) <= 1
 | [] => M8 _
 | w :: ws => by
  show max (PyData.depth (K5 w)) (PyData.depthAll (ws.map K5)) <= 1
  have := B8p ws
  have h : PyData.depth (K5 w) = 1 := rfl
  omega
theorem D1a (m : Nat) (ws : List Wy) : (D4 m ws).canLay0 = true := by
 show (PyData.canLay0 (.int m) && (PyData.canLayAll0 (ws.map K5) && true)) = true
 rw [B8o]; rfl
theorem D1b (m : Nat) (ws : List Wy) (d : PyData) : min (D4 m ws).depth d.depth <= 64 := by
 have : (D4 m ws).depth <= 64 := by
  show max (PyData.depth (.int m)) (max (PyData.depthAll (ws.map K5) + 1) 0) + 1 <= 64
  have := B8p ws
  have h : PyData.depth (.int m) = 0 := rfl
  omega
 omega
theorem D1c {lo : Int} {N k : Nat} {x : PyData} {r : List PyData} (h : x :: r = (G7 lo N).drop k) : x = .int (lo + ((k : Nat) : Int)) /\ r = (G7 lo N).drop (k + 1) /\ k < N := by
 have hk : k < (G7 lo N).length := by
  rcases P8 k (G7 lo N).length with c | c
  ·exact c
  ·rw [List.drop_of_length_le c] at h; cases h
 rw [A78 hk] at h
 injection h with h1 h2
 obtain ⟨hk', e⟩ := B2h (J5 hk)
 exact ⟨by rw [h1, e], h2, hk'⟩
theorem D1d {lo : Int} {N k : Nat} (h : [] = (G7 lo N).drop k) : N <= k := by
 have := congrArg B0z h
 unfold G7 at this
 simp at this
 omega
theorem B8q (n : Nat) : G7 0 n = (P6 n).map fun k => PyData.int ((k : Nat) : Int) := by
 unfold G7
 congr 1
 funext i
 rw [Int.zero_add]
def F1 (n : Nat) (d : PyData) : Prop := d.canLay0 = true /\ d.depth <= n
theorem F1.all {n : Nat} : ∀ {ds : List PyData}, (∀ d ∈ ds, F1 n d) -> PyData.canLayAll0 ds = true /\ PyData.depthAll ds <= n
 | [], _ => ⟨rfl, M8 _⟩
 | d :: ds, h => by
  obtain ⟨a, b⟩ := F1.all fun x hx => h x (A9 _ hx)
  obtain ⟨a1, b1⟩ := h d B4
  constructor
  ·show (PyData.canLay0 d && PyData.canLayAll0 ds) = true
   rw [a, a1]; rfl
  ·show max (PyData.depth d) (PyData.depthAll ds) <= n
   omega
theorem F1.lst {n : Nat} {ds : List PyData} (h : ∀ d ∈ ds, F1 n d) : F1 (n + 1) (.list ds) := by
 obtain ⟨a, b⟩ := F1.all h
 refine ⟨by rw [PyData.canLay0]; exact a, ?_⟩
 show PyData.depthAll ds + 1 <= n + 1
 omega
theorem F1.tup {n : Nat} {ds : List PyData} (h : ∀ d ∈ ds, F1 n d) : F1 (n + 1) (.tuple ds) := by
 obtain ⟨a, b⟩ := F1.all h
 refine ⟨by rw [PyData.canLay0]; exact a, ?_⟩
 show PyData.depthAll ds + 1 <= n + 1
 omega
theorem F1.mono {n k : Nat} {d : PyData} (h : F1 n d) (l : n <= k) : F1 k d := ⟨h.1, Y9 h.2 l⟩
theorem F1.int {n : Nat} (i : Int) : F1 n (.int i) := ⟨rfl, M8 _⟩
theorem F1.str {n : Nat} {i : Str} (h : (PyData.str i).canLay0 = true) : F1 n (.str i) := ⟨h, M8 _⟩
theorem F1.non {n : Nat} : F1 n .none := ⟨rfl, M8 _⟩
theorem F1.bl {n : Nat} (b : Bool) : F1 n (.bool b) := ⟨rfl, M8 _⟩
theorem F1.o {n : Nat} (o : Option Int) : F1 n (oD o) := by cases o <;> exact ⟨rfl, M8 _⟩
theorem F1.tab (t : Tb) : F1 1 (.list (A3 t)) := F1.lst fun d hd => by
 unfold A3 at hd
 obtain ⟨o, _, rfl⟩ := S2.mp hd
 exact .o o
theorem F1.way (w : Wy) : F1 1 (K5 w) := F1.tup fun d hd => by
 rcases K1.mp hd with rfl | hd
 ·exact .int _
 rcases K1.mp hd with rfl | hd
 ·exact .int _
 rw [A0l.mp hd]; exact .int _
theorem F1.land (m : Nat) (ws : List Wy) : F1 3 (D4 m ws) := F1.tup fun d hd => by
 rcases K1.mp hd with rfl | hd
 ·exact .int _
 rw [A0l.mp hd]
 exact F1.lst fun d hd => by
  obtain ⟨w, _, rfl⟩ := S2.mp hd
  exact .way w
theorem F1.two {n : Nat} {a b : PyData} (ha : F1 n a) (hb : F1 n b) : ∀ d ∈ [a, b], F1 n d := fun d hd => by
 rcases K1.mp hd with rfl | hd
 ·exact ha
 rw [A0l.mp hd]; exact hb
theorem F1.three {n : Nat} {a b c : PyData} (ha : F1 n a) (hb : F1 n b) (hc : F1 n c) : ∀ d ∈ [a, b, c], F1 n d := fun d hd => by
 rcases K1.mp hd with rfl | hd
 ·exact ha
 exact F1.two hb hc d hd
theorem F1.dep {n : Nat} {a : PyData} (h : F1 n a) (l : n <= 64) (b : PyData) : min a.depth b.depth <= 64 := by have := h.2; omega
theorem F1.same {n : Nat} {a : PyData} (h : F1 n a) : PyData.eqv a a = true := PySem.SeqAt.eqv_refl _ h.1
theorem F1.eq {n : Nat} {a : PyData} (h : F1 n a) (l : n <= 64) {Q : Bool -> Prop} (q : Q true) : a.canLay0 = true /\ a.canLay0 = true /\ min a.depth a.depth <= 64 /\ Q (PyData.eqv a a) := ⟨h.1, h.1, h.dep l a, by rw [h.same]; exact q⟩
def D1e : DSp := fun ds Q => ∃ a b : Option Int, ds = [oD a, oD b] /\ Q (oD (mxO a b))
def C6 (ts : List Tb) : List PyData := ts.map fun t => .list (A3 t)
def D1f : DSp := fun ds Q => ∃ (m : Nat) (ts : List Tb), ds = [.list (C6 ts)] /\ ts ≠ [] /\ (∀ t ∈ ts, t.length = m) /\ m <= 900 /\ Q (.list (A3 (jnF m ts)))
theorem C80 {t : Tb} {m : Nat} (h : t.length = m) : [] ++ List.map (fun _ => PyData.none) t = A3 (D8 m none) := by
 rw [M0, List.map_const', h]
 unfold A3
 rw [B9p]
 rfl
theorem C81 (a t : Tb) : w5 (A3 a) (A3 t) = (a.zip t).map fun p => .tuple [oD p.1, oD p.2] := by
 unfold w5 A3
 rw [List.zip_map, j5]
 rfl
theorem D1g (x y : Int) : mxO (some x) (some y) = if x < y then some y else some x := by
 unfold mxO K8
 by_cases c : x < y <;> simp [c]
theorem A0g {N k : Nat} {x : PyData} {r : List PyData} (h : x :: r = (G7 0 N).drop k) : x = .int (k : Nat) /\ r = (G7 0 N).drop (k + 1) /\ k < N := by
 have hk : k < (G7 0 N).length := by
  rcases P8 k (G7 0 N).length with c | c
  ·exact c
  ·rw [List.drop_of_length_le c] at h; cases h
 rw [A78 hk] at h
 injection h with h1 h2
 obtain ⟨hk', e⟩ := B2h (J5 hk)
 exact ⟨by rw [h1, e, Int.zero_add], h2, hk'⟩
theorem A1y {N k : Nat} (h : [] = (G7 0 N).drop k) : N <= k := by
 have := congrArg B0z h
 unfold G7 at this
 simp at this
 omega
theorem C82 {α β : Type} {R : α -> β -> Prop} : ∀ {as : List α} {bs : List β} {a : α} {b : β}, h9 R as bs -> R a b -> h9 R (as ++ [a]) (bs ++ [b])
 | _, _, _, _, .nil, r => .cons r .nil
 | _, _, _, _, .cons x t, r => .cons x (C82 t r)
theorem B8r {α β : Type} {R : α -> β -> Prop} : ∀ {as : List α} {bs : List β}, h9 R as bs -> bs.length = as.length
 | _, _, .nil => rfl
 | _, _, .cons _ t => by rw [M1, M1, B8r t]
theorem C83 {m : Nat} {ws : List Wy} {st : Int} : ∀ {bs ts : List Tb} {t : Tb}, h9 (b7 m ws st) bs ts -> t ∈ ts -> D1 m st t
 | _, _, _, .nil, h => nomatch h
 | _, _, t, .cons r rs, h => by
  rcases K1.mp h with rfl | h
  ·exact r.tab
  ·exact C83 rs h
section
variable {P : Program} {w : World} {K : A4} {mg : Str -> Option Value} {base : Heap}
end
def j0 (S : Int) : PyData -> Bool
 | .none => true
 | .int x => decide (0 <= x) && decide (x <= S)
 | _ => false
def R9 (m : Nat) (S : Int) : PyData -> Bool
 | .list ds => (((ds.length : Nat) : Int) == ((m : Nat) : Int)) && ds.all (j0 S)
 | _ => false
def B0r (m : Nat) (S : Int) : PyData -> Bool
 | .list ds => ds.all (R9 m S)
 | _ => false
def tbL (ts : List Tb) : List PyData := ts.map fun t => .list (A3 t)
theorem C84 {S : Int} {d : PyData} (h : j0 S d = true) : ∃ o : Option Int, d = oD o /\ ∀ x, o = some x -> 0 <= x /\ x <= S := by
 unfold j0 at h
 split at h
 ·exact ⟨none, rfl, fun x e => nomatch e⟩
 ·rename_i x
  rw [P7] at h
  exact ⟨some x, rfl, fun y e => by cases e; exact ⟨of_decide_eq_true h.1, of_decide_eq_true h.2⟩⟩
 ·cases h
theorem B8s {S : Int} : ∀ {ds : List PyData}, ds.all (j0 S) = true -> ∃ t : Tb, ds = A3 t /\ ∀ o ∈ t, ∀ x, o = some x -> 0 <= x /\ x <= S
 | [], _ => ⟨[], rfl, fun o h => nomatch h⟩
 | d :: ds, h => by
  rw [B01, P7] at h
  obtain ⟨o, rfl, ho⟩ := C84 h.1
  obtain ⟨t, rfl, ht⟩ := B8s h.2
  refine ⟨o :: t, rfl, fun p hp => ?_⟩
  rcases K1.mp hp with rfl | hp
  ·exact ho
  ·exact ht p hp
theorem B8t {m : Nat} {S : Int} {d : PyData} (h : R9 m S d = true) : ∃ t, d = .list (A3 t) /\ D1 m S t := by
 unfold R9 at h
 split at h
 ·rename_i ds
  rw [P7] at h
  obtain ⟨t, rfl, ht⟩ := B8s h.2
  have hl : (((A3 t).length : Nat) : Int) = ((m : Nat) : Int) := by simpa using h.1
  rw [N2] at hl
  refine ⟨t, rfl, by omega, fun p x e => ?_⟩
  unfold gt at e
  cases q : t[p]? with
  | none => rw [q] at e; cases e
  | some o =>
   rw [q] at e
   exact ht o (N3 q) x e
 ·cases h
theorem B3h {m : Nat} {S : Int} {t : Tb} (h : D1 m S t) : R9 m S (.list (A3 t)) = true := by
 unfold R9
 rw [P7]
 refine ⟨by rw [N2, h.len]; simp, o9.mpr fun d hd => ?_⟩
 unfold A3 at hd
 obtain ⟨o, ho, rfl⟩ := S2.mp hd
 cases o with
 | none => rfl
 | some x =>
  obtain ⟨p, hp, e⟩ := p5.mp ho
  have b := h.bd p x (by unfold gt; rw [J5 hp, e]; rfl)
  show (decide (0 <= x) && decide (x <= S)) = true
  rw [decide_eq_true b.1, decide_eq_true b.2]; rfl
theorem B3i {m : Nat} {S : Int} : ∀ {ds : List PyData}, ds.all (R9 m S) = true -> ∃ ts, ds = tbL ts /\ ∀ t ∈ ts, D1 m S t
 | [], _ => ⟨[], rfl, fun o h => nomatch h⟩
 | d :: ds, h => by
  rw [B01, P7] at h
  obtain ⟨t, rfl, ht⟩ := B8t h.1
  obtain ⟨ts, rfl, hts⟩ := B3i h.2
  refine ⟨t :: ts, rfl, fun p hp => ?_⟩
  rcases K1.mp hp with rfl | hp
  ·exact ht
  ·exact hts p hp
theorem B3j {t u : Tb} (h : A3 t = A3 u) : t = u := by
 unfold A3 at h
 refine (List.map_inj_right fun a b e => ?_).mp h
 cases a <;> cases b <;> cases e <;> rfl
open Classical in
noncomputable def o7 (m : Nat) (ws : List Wy) (S : Int) (b : Tb) (d : PyData) : Bool := decide (∃ t, d = .list (A3 t) /\ D1 m S t /\ leT b t /\ O9 ws S t)
open Classical in
theorem C85 {m : Nat} {ws : List Wy} {S : Int} {b : Tb} {d : PyData} (h : R9 m S d = false) : o7 m ws S b d = false := by
 unfold o7
 refine decide_eq_false fun ⟨t, e, ht, _⟩ => ?_
 subst e
 rw [B3h ht] at h; cases h
open Classical in
theorem B8u {m : Nat} {ws : List Wy} {S : Int} {b t : Tb} (h : ¬ (leT b t /\ O9 ws S t)) : o7 m ws S b (.list (A3 t)) = false := by
 unfold o7
 refine decide_eq_false fun ⟨u, e, hu, h1, h2⟩ => ?_
 have e := B3j (PyData.list.inj e)
 subst e
 exact h ⟨h1, h2⟩
open Classical in
theorem B3k {m : Nat} {ws : List Wy} {S : Int} {b t : Tb} (ht : D1 m S t) (h1 : leT b t) (h2 : O9 ws S t) : o7 m ws S b (.list (A3 t)) = true := by
 unfold o7
 exact decide_eq_true ⟨t, rfl, ht, h1, h2⟩
theorem D1h {m : Nat} {ws : List Wy} {S : Int} {b t : Tb} (hb : b.length = m) (ht : D1 m S t) : o7 m ws S b (.list (A3 t)) = (A8t t b && Y5 ws S t t) := by
 rw [A75, P7, B7l (by rw [ht.len, hb]), B25]
 constructor
 ·intro h
  cases Classical.em (leT b t /\ O9 ws S t) with
  | inl z => exact z
  | inr z => rw [B8u z] at h; cases h
 ·exact fun ⟨h1, h2⟩ => B3k ht h1 h2
def C86 : DSp := fun ds Q => ∃ (S : Int) (d : PyData), ds = [.int S, d] /\ d ≠ .none /\ Q (.bool (j0 S d))
def C87 : DSp := fun ds Q => ∃ (m : Nat) (S : Int) (d : PyData), ds = [.int (m : Nat), .int S, d] /\ (∀ ds, d = .list ds -> ds.length <= 400) /\ Q (.bool (R9 m S d))
def C88 : DSp := fun ds Q => ∃ (m : Nat) (S : Int) (d : PyData), ds = [d, .int (m : Nat), .int S] /\ (∀ ds, d = .list ds -> ds.length <= 400) /\ Q (.bool (R9 m S d))
def C89 : DSp := fun ds Q => ∃ (t b : Tb), ds = [.list (A3 t), .list (A3 b)] /\ t.length = b.length /\ t.length <= 900 /\ Q (.bool (A8t t b))
def C9a : DSp := fun ds Q => ∃ (m : Nat) (ws : List Wy) (st : Int) (t l : Tb), ds = [D4 m ws, .int st, .list (A3 t), .list (A3 l)] /\ L1 m ws /\ t.length = m /\ l.length = m /\ Q (.bool (Y5 ws st t l))
def C9b : DSp := fun ds Q => ∃ (m : Nat) (ws : List Wy) (st : Int) (t : Tb), ds = [D4 m ws, .int st, .list (A3 t)] /\ L1 m ws /\ t.length = m /\ Q (.bool (Y5 ws st t t))
def C9c : DSp := fun ds Q => ∃ (m : Nat) (ws : List Wy) (S : Int) (b : Tb) (d : PyData), ds = [D4 m ws, .int S, .list (A3 b), d] /\ L1 m ws /\ D1 m S b /\ (∀ ds, d = .list ds -> ds.length <= 400) /\ Q (.bool (o7 m ws S b d))
def C9d : DSp := fun ds Q => ∃ (st : Int) (l : Option Int) (c : Int), ds = [.int st, oD l, .int c] /\ Q (oD (l.bind fun x => G6 st x c))
def D1i : DSp := fun ds Q => ∃ (m : Nat) (ws : List Wy), ds = [D4 m ws] /\ ws.length <= 900 /\ Q (D4 m ws)
theorem A0h {α : Type} (f : α -> Bool) : ∀ xs : List α, A2x (xs.map fun x => PyData.bool (f x)) = some (xs.map f)
 | [] => rfl
 | x :: xs => by
  show (A2x (xs.map fun x => PyData.bool (f x))).map (f x :: ·) = _
  rw [A0h f xs]; rfl
theorem B3l {α : Type} (f : α -> Bool) : ∀ xs : List α, (xs.map f).any id = xs.any f
 | [] => rfl
 | x :: xs => by
  show (f x || (xs.map f).any id) = (f x || xs.any f)
  rw [B3l f xs]
theorem A4k {α : Type} (f : α -> Bool) : ∀ xs : List α, (xs.map f).all id = xs.all f
 | [] => rfl
 | x :: xs => by
  show (f x && (xs.map f).all id) = (f x && xs.all f)
  rw [A4k f xs]
section
variable {P : Program} {w : World} {K : A4} {mg : Str -> Option Value} {base : Heap}
theorem C9e (T : Txt K mg) : D3 P w K mg base CX0 2 T.a_is_level T.d_is_level ["store", "thing"] (spD [.sh, .sh] C86) := by
 have G_is_whole := @B8b P w K mg base T
 have b_is_whole := B71 T
 refine G5 T.F_is_level C4x rfl (fun C cdv A outer s H E hr => ⟨_, (B2 (D0 (A04 (C1 (B6 G_is_whole (hr.mono (by decide)) rfl T.mg_is_whole T.kp_is_whole b_is_whole .nil B7 (A2 (A1 (pv 1)) C0 A0) (he := A0) (hpl := A6))) (Z7 (B2b A0w A0w B1 (A1 (pv 1)) (A1 (pv 0))))))), fun ds Q hl h => ?_⟩)
 obtain ⟨S, d, rfl, hd, q⟩ := h
 left
 refine ⟨d, rfl, ?_⟩
 cases d with
 | int x =>
  rw [show A1x (.int x) = true from rfl]
  left
  rw [show j0 S (.int x) = (decide (0 <= x) && decide (x <= S)) from rfl] at q
  cases e : decide (0 <= x) with
  | true =>
   rw [e, A9j] at q
   exact q
  | false =>
   rw [e] at q
   exact q
 | none => exact absurd rfl hd
 | _ => exact q
theorem C9f (T : Txt K mg) : D3 P w K mg base CX0 3 T.a_is_table T.d_is_table ["many", "store", "thing"] (spD [.sh, .sh, .sh] C87) := by
 have G_is_level := @C9e P w K mg base T
 have b_is_level := C5n T
 refine G5 T.F_is_table C43 rfl (fun C cdv A outer s H E hr => ⟨_, (@G4 _ _ _ _ _ _ (@J3 _ _ _ _ _ _ _ _ _ (PW.pt (@W7 _ _ _ _ _ _ _ _ (g5 (U9 (v6 A9z (F9 u8 rfl T.n_isinstance t9 (C3 (pv 2) (C3 (r8 (v := V.ty "list") rfl T.n_list W6 rfl) D6 A0) A0) (he := A0) (hpl := (A5 A0 A6)))))) (Y2 (F8 (t8 (Q3 hr)) Q0 (S6 (F9 N6 rfl T.n_len N7 (C3 (pv 2) D6 A0) (he := A0) (hpl := A6))) (A1 (pv 0)) (D2 _))))) (B2 (D0 O6)) J2) (@B2 _ _ _ _ (@D0 _ _ _ _ _ (@P2 _ _ _ _ _ _ A5c (@F9 _ _ _ _ _ _ _ _ _ (A44 rfl) rfl T.n_all A45 (@A8 _ _ _ _ _ _ (@D9 _ _ _ _ (@W9 _ _ _ _ _ _ _ _ rfl (@V5 _ _ _ _ _ _ _ _ _ _ _ _ _ _ _ (M3.new (N := ["many", "store", "thing"]) (osc := A7 A34) (by decide +kernel)) rfl (T2 (pv 2)) (fun _ => P3) (fun _ => (A9u (Z6 U0 V0 (A1 (pv 3)) J6 (D2 _)) (Z7 (C1 (B6 G_is_level (hr.mono (by decide)) rfl T.mg_is_level T.kp_is_level b_is_level .nil B7 (A2 (A1 (pv 1)) (A2 (A1 (pv 3)) C0 A0) A0) (he := A0) (hpl := (A5 A0 A6))))))) (by rfl) (by rfl) (by intro _; rfl)))) C5 S5) (by decide) (by decide) S5 A6))))), fun ds Q hl h => ?_⟩)
 obtain ⟨m, S, d, rfl, hT, q⟩ := h
 cases d with
 | list ds =>
  have hl2 := hT ds rfl
  left
  rw [if_neg (by decide)]
  refine ⟨rfl, rfl, T6 _ _, ?_⟩
  rw [T7]
  rw [show R9 m S (.list ds) = ((((ds.length : Nat) : Int) == ((m : Nat) : Int)) && ds.all (j0 S)) from rfl] at q
  cases e : (((ds.length : Nat) : Int) == ((m : Nat) : Int)) with
  | false =>
   rw [e] at q
   left
   exact q
  | true =>
   rw [e, A9j] at q
   array_mem_dec
   refine ⟨⟨rfl, by omega⟩, ?_⟩
   rw [show ds = ds.map id by simp]
   refine V7 (f := fun d => .bool (j0 S d)) (fun d hd Q' q' => ?_) ?_
   ·cases d with
    | none =>
     left
     exact q'
    | _ =>
     left
     exact ⟨S, _, rfl, (fun z => nomatch z), q'⟩
   rw [M0]
   unfold gBs
   left
   rw [A0h]
   left
   rw [A4k]
   exact q
 | _ =>
  left
  rw [if_pos (by decide)]
  exact q
theorem C9g (T : Txt K mg) : D3 P w K mg base CX0 1 T.a_law_is_whole T.d_law_is_whole ["_law_thing"] (spD [.sh] B3b) := by
 refine G5 T.F_law_is_whole C5k rfl (fun C cdv A outer s H E hr => ⟨_, (@B2 _ _ _ _ (@D0 _ _ _ _ _ (@A04 _ _ _ _ _ _ _ _ (v6 B6g (F9 u8 rfl T.n_isinstance t9 (C3 (pv 0) (C3 (r8 (v := V.ty "int") rfl T.n_int A9r rfl) D6 A0) A0) (he := A0) (hpl := (A5 A0 A6)))) (Z7 (A9v (v6 B2e (F9 u8 rfl T.n_isinstance t9 (C3 (pv 0) (C3 (r8 (v := V.ty "bool") rfl T.n_bool B10 rfl) D6 A0) A0) (he := A0) (hpl := (A5 A0 A6))))))))), fun ds Q hl h => ?_⟩)
 obtain ⟨d, rfl, q⟩ := h
 left
 unfold A1x at q
 cases d <;> exact q
theorem C9h (T : Txt K mg) : D3 P w K mg base CX0 2 T.a_law_is_table T.d_law_is_table ["_law_thing", "_law_many", "_law_store_here"] (spD [.sh, .sh, .sh] C88) := by
 have G_law_is_whole := @C9g P w K mg base T
 have b_law_is_whole := C6o T
 refine G5 T.F_law_is_table C5l rfl (fun C cdv A outer s H E hr => ⟨_, (@G4 _ _ _ _ _ _ (@J3 _ _ _ _ _ _ _ _ _ (PW.pt (@W7 _ _ _ _ _ _ _ _ (g5 (U9 (v6 A9z (F9 u8 rfl T.n_isinstance t9 (C3 (pv 0) (C3 (r8 (v := V.ty "list") rfl T.n_list W6 rfl) D6 A0) A0) (he := A0) (hpl := (A5 A0 A6)))))) (Y2 (F8 (t8 (Q3 hr)) Q0 (S6 (F9 N6 rfl T.n_len N7 (C3 (pv 0) D6 A0) (he := A0) (hpl := A6))) (A1 (pv 1)) (D2 _))))) (B2 (D0 O6)) J2) (@B2 _ _ _ _ (@D0 _ _ _ _ _ (@P2 _ _ _ _ _ _ A5c (@F9 _ _ _ _ _ _ _ _ _ (A44 rfl) rfl T.n_all A45 (@A8 _ _ _ _ _ _ (@D9 _ _ _ _ (@W9 _ _ _ _ _ _ _ _ rfl (@V5 _ _ _ _ _ _ _ _ _ _ _ _ _ _ _ (M3.new (N := ["_law_thing", "_law_many", "_law_store_here"]) (osc := A7 A4d) (by decide +kernel)) rfl (T2 (pv 0)) (fun _ => P3) (fun _ => (A9u (Z6 U0 V0 (A1 (pv 3)) J6 (D2 _)) (Z7 (A04 (C1 (B6 G_law_is_whole (hr.mono (by decide)) rfl T.mg_law_is_whole T.kp_law_is_whole b_law_is_whole .nil B7 (A2 (A1 (pv 3)) C0 A0) (he := A0) (hpl := A6))) (Z7 (B2b A0w A0w B1 (A1 (pv 3)) (A1 (pv 2)))))))) (by rfl) (by rfl) (by intro _; rfl)))) C5 S5) (by decide) (by decide) S5 A6))))), fun ds Q hl h => ?_⟩)
 obtain ⟨m, S, d, rfl, hT, q⟩ := h
 cases d with
 | list ds =>
  have hl2 := hT ds rfl
  left
  rw [if_neg (by decide)]
  refine ⟨rfl, rfl, T6 _ _, ?_⟩
  rw [T7]
  rw [show R9 m S (.list ds) = ((((ds.length : Nat) : Int) == ((m : Nat) : Int)) && ds.all (j0 S)) from rfl] at q
  cases e : (((ds.length : Nat) : Int) == ((m : Nat) : Int)) with
  | false =>
   rw [e] at q
   left
   exact q
  | true =>
   rw [e, A9j] at q
   array_mem_dec
   refine ⟨⟨rfl, by omega⟩, ?_⟩
   rw [show ds = ds.map id by simp]
   refine V7 (f := fun d => .bool (j0 S d)) (fun d hd Q' q' => ?_) ?_
   ·cases d with
    | none =>
     left
     exact q'
    | int x =>
     left
     try dsimp only [id]
     refine ⟨_, rfl, ?_⟩
     rw [show A1x (.int x) = true from rfl]
     left
     rw [show j0 S (.int x) = (decide (0 <= x) && decide (x <= S)) from rfl] at q'
     cases e : decide (0 <= x) with
     | true =>
      rw [e, A9j] at q'
      exact q'
     | false =>
      rw [e] at q'
      exact q'
    | _ =>
     left
     refine ⟨_, rfl, ?_⟩
     exact q'
   rw [M0]
   unfold gBs
   left
   rw [A0h]
   left
   rw [A4k]
   exact q
 | _ =>
  left
  rw [if_pos (by decide)]
  exact q
theorem C9i (T : Txt K mg) : D3 P w K mg base CX0 2 T.a_covers T.d_covers ["table", "base"] (spD [.sh, .sh] C89) := by
 have G_is_more := @B0p P w K mg base T
 have b_is_more := B0l T
 refine G5 T.F_covers C5a rfl (fun C cdv A outer s H E hr => ⟨_, (@B2 _ _ _ _ (@D0 _ _ _ _ _ (@A9v _ _ _ _ _ (@P2 _ _ _ _ _ _ B6d (@F9 _ _ _ _ _ _ _ _ _ (B5t rfl) rfl T.n_any B5m (@A8 _ _ _ _ _ _ (@D9 _ _ _ _ (@B6u _ _ _ _ _ _ _ (@B5s _ _ _ _ _ _ _ _ _ _ _ _ _ _ _ _ _ _ (A19.new (N := ["table", "base"]) (osc := A7 A39) (by decide +kernel)) rfl (C3l (C2g rfl T.n_zip (C3 (A1 (pv 1)) (C3 (A1 (pv 0)) D6 A0) A0))) (fun _ => P3) (fun _ => (C1 (B6 G_is_more (hr.mono (by decide)) rfl T.mg_is_more T.kp_is_more b_is_more .nil B7 (A2 (A1 (pv 2)) (A2 (A1 (pv 3)) C0 A0) A0) (he := A0) (hpl := (A5 A0 A6))))) (by rfl) (by rfl) (by intro _; rfl)))) C5 S5) (by decide) (by decide) S5 A6))))), fun ds Q hl h => ?_⟩)
 obtain ⟨t, b, rfl, hl2, hm, q⟩ := h
 array_get_dec
 refine ⟨by unfold w5; rw [E4, B05, N2, N2]; omega, ?_⟩
 rw [C81]
 refine B2s (g1 := fun p : Option Int × Option Int => oD p.1) (g2 := fun p => oD p.2) (f := fun p => .bool (K8 p.1 p.2)) (fun p hp Q' q' => ?_) ?_
 ·left
  exact ⟨p.1, p.2, rfl, q'⟩
 ·rw [M0]
  unfold gBs
  left
  rw [A0h]
  left
  rw [B3l]
  exact q
theorem C9j (T : Txt K mg) : D3 P w K mg base CX0 3 T.a_leads_within T.d_leads_within ["land", "store", "table", "lid"] (spD [.sh, .sh, .sh, .sh] C9a) := by
 have G_is_more := @B0p P w K mg base T
 have b_is_more := B0l T
 have G_behind_way := @B8c P w K mg base T
 have b_behind_way := B72 T
 refine G5 T.F_leads_within C5b rfl (fun C cdv A outer s H E hr => ⟨_, (@B2 _ _ _ _ (@D0 _ _ _ _ _ (@A9v _ _ _ _ _ (@P2 _ _ _ _ _ _ B6d (@F9 _ _ _ _ _ _ _ _ _ (B5t rfl) rfl T.n_any B5m (@A8 _ _ _ _ _ _ (@D9 _ _ _ _ (@W9 _ _ _ _ _ _ _ _ rfl (@V5 _ _ _ _ _ _ _ _ _ _ _ _ _ _ _ (M3.new (N := ["land", "store", "table", "lid"]) (osc := A7 A4a) (by decide +kernel)) rfl (A5g (B9 (pv 0) (E9 (E6 (v := V.int 1) rfl T.mg_WAYS ⟨_, rfl⟩)) (fun _ _ => rfl))) (fun _ => P3) (fun _ => (@C1 _ _ _ _ _ _ _ (@B6 _ _ _ _ _ _ _ _ _ _ _ _ _ _ _ _ G_is_more (hr.mono (by decide)) rfl T.mg_is_more T.kp_is_more b_is_more .nil B7 (@A2 _ _ _ _ _ _ (C1 (B6 G_behind_way (hr.mono (by decide)) rfl T.mg_behind_way T.kp_behind_way b_behind_way .nil B7 (A2 (A1 (pv 1)) (A2 (A1 (pv 2)) (A2 (A1 (pv 4)) C0 A0) A0) A0) (he := A0) (hpl := (A5 A0 (A5 A0 A6))))) (A2 (B9 (pv 3) (B9 (pv 4) (E9 (E6 (v := V.int 1) rfl T.mg_END ⟨_, rfl⟩)) (fun _ _ => rfl)) (fun _ _ => rfl)) C0 C2) E3) (by decide) E3 ((A5 C2 A6))))) (by rfl) (by rfl) (by intro _; rfl)))) C5 S5) (by decide) (by decide) S5 A6))))), fun ds Q hl h => ?_⟩)
 obtain ⟨m, ws, st, t, l, rfl, ok, ht, hl2, q⟩ := h
 have few := ok.few
 array_mem_dec
 refine ⟨⟨rfl, by rw [E4]; omega⟩, ?_⟩
 refine V7 (f := fun w => .bool (K8 (K0 st t w) (gt l w.2.1))) (fun w hw Q' q' => ?_) ?_
 ·left
  refine ⟨st, t, w, rfl, by rw [ht]; exact ok.st w hw, ?_⟩
  unfold K5
  left
  rw [R8 (by rw [hl2]; exact ok.en w hw)]
  left
  exact ⟨_, _, rfl, q'⟩
 ·rw [M0]
  unfold gBs
  left
  rw [A0h]
  left
  rw [B3l]
  exact q
theorem C9k (T : Txt K mg) : D3 P w K mg base CX0 4 T.a_is_closed T.d_is_closed ["land", "store", "table"] (spD [.sh, .sh, .sh] C9b) := by
 have G_leads_within := @C9j P w K mg base T
 have b_leads_within := C6d T
 refine G5 T.F_is_closed C5c rfl (fun C cdv A outer s H E hr => ⟨_, (B2 (D0 (C1 (B6 G_leads_within (hr.mono (by decide)) rfl T.mg_leads_within T.kp_leads_within b_leads_within .nil B7 (A2 (A1 (pv 0)) (A2 (A1 (pv 1)) (A2 (A1 (pv 2)) (A2 (A1 (pv 2)) C0 A0) A0) A0) A0) (he := A0) (hpl := (A5 A0 (A5 A0 (A5 A0 A6)))))))), fun ds Q hl h => ?_⟩)
 obtain ⟨m, ws, st, t, rfl, ok, ht, q⟩ := h
 left
 exact ⟨m, ws, st, t, t, rfl, ok, ht, ht, q⟩
theorem B8v (T : Txt K mg) : D3 P w K mg base CX0 1 T.a_step T.d_step ["_law_store_here", "_law_level", "_law_change_here"] (spD [.sh, .sh, .sh] C9d) := by
 refine G5 T.F_step C5j rfl (fun C cdv A outer s H E hr => ⟨_, (@G4 _ _ _ _ _ _ (J3 (PW.pt (W7 (F8 U0 V0 (A1 (pv 1)) J6 (D2 _)) (Y2 (F8 X7 m5 (F2 K6 M4 (A1 (pv 1)) (A1 (pv 2))) B1 (D2 _)))))
   (B2 (D0 J6))
   J2) (B2 (D0 (P2 A07 (F9 (A0z rfl) rfl T.n_min A02 (A8 (A1 (pv 0)) (A8 (F2 K6 M4 (A1 (pv 1)) (A1 (pv 2))) C5 J1) A0) (he := A0) (hpl := (A5 J1 A6))))))), fun ds Q hl h => ?_⟩)
 obtain ⟨st, l, c, rfl, q⟩ := h
 cases l with
 | none =>
  right
  exact q
 | some x =>
  have e : oD ((some x).bind fun y => G6 st y c) = if x + c < 0 then .none else .int (if x + c < st then x + c else st) := by
   show oD (G6 st x c) = _
   unfold G6
   by_cases h : x + c < 0
   ·rw [if_pos h, if_pos h]; rfl
   ·rw [if_neg h, if_neg h]
    show PyData.int _ = PyData.int _
    congr 1
    split <;> split <;> omega
  rw [e] at q
  right
  by_cases c1 : x + c < 0
  ·rw [if_pos c1] at q
   rw [decide_eq_true c1]
   right
   exact q
  ·rw [if_neg c1] at q
   rw [decide_eq_false c1]
   right
   exact q
end
section
variable {P : Program} {w : World} {K : A4} {mg : Str -> Option Value} {base : Heap}
theorem C9l (T : Txt K mg) : D3 P w K mg base CX0 3 T.a_is_lid T.d_is_lid ["_law_land_here", "_law_store_here", "_law_base", "_law_table_here"] (spD [.sh, .sh, .sh, .sh] C9c) := by
 have G_law_is_table := @C9h P w K mg base T
 have b_law_is_table := C6p T
 have G_step := @B8v P w K mg base T
 have b_step := B77 T
 refine G5 T.F_is_lid A7y rfl (fun C cdv A outer s H E hr => ⟨_, (@C9 _ _ _ _ _ _ (O7 (J3 (g5 (U9 (C1 (B6 G_law_is_table (hr.mono (by decide)) rfl T.mg_law_is_table T.kp_law_is_table b_law_is_table .nil B7 (A2 (A1 (pv 3)) (A2 (B9 (pv 0) B1 (fun _ _ => rfl)) (A2 (A1 (pv 1)) C0 A0) C2) A0) (he := A0) (hpl := (A5 C2 (A5 A0 A6)))))))
   (B2 (D0 O6))
   J2)) (@C9 _ _ _ _ _ _ (@O7 _ _ _ _ (@P5 _ _ _ _ _ _ (@P0 _ _ _ _ _ _ _ _ N4 rfl (U2 (T8 rfl T.n_range (A8 (B9 (pv 0) B1 (fun _ _ => rfl)) C5 C2))) (T3 (K3 (i := 4) A7y.nd rfl (B3 rfl))) (@B2 _ _ _ _ (@J3 _ _ _ _ _ _ _ _ _ (PW.pt (A49 (F8 e9 v4 (B9 (pv 2) (A1 (pv 4)) (fun _ _ => rfl)) J6 (D2 _)) (A48 (PW.pt (W7 (F8 U0 V0 (B9 (pv 3) (A1 (pv 4)) (fun _ _ => rfl)) J6 (D2 _)) (Y2 (F8 X7 m5 (B9 (pv 3) (A1 (pv 4)) (fun _ _ => rfl)) (B9 (pv 2) (A1 (pv 4)) (fun _ _ => rfl)) (D2 _)))))))) (B2 (D0 O6)) J2)) (by intro _; rfl)))) (@C9 _ _ _ _ _ _ (@O7 _ _ _ _ (@P5 _ _ _ _ _ _ (@P0 _ _ _ _ _ _ _ _ N4 rfl (A5g (B9 (pv 0) B1 (fun _ _ => rfl))) (B2m (A0q (n := 3) rfl (S3 (K3 (i := 5) A7y.nd rfl (B3 rfl)) (S3 (K3 (i := 6) A7y.nd rfl (B3 rfl)) (S3 (K3 (i := 7) A7y.nd rfl (B3 rfl)) A0p))))) (@C9 _ _ _ _ _ _ (E1 (C8 (i := 8) A7y.nd rfl (B3 rfl) (C1 (B6 G_step (hr.mono (by decide)) rfl T.mg_step T.kp_step b_step .nil B7 (A2 (A1 (pv 1)) (A2 (B9 (pv 3) (A1 (pv 5)) (fun _ _ => rfl)) (A2 (A1 (pv 7)) C0 A0) C2) A0) (he := A0) (hpl := (A5 C2 (A5 A0 A6))))))) (B2 (J3 (PW.pt (A49 (F8 e9 v4 (A1 (pv 8)) J6 (D2 _)) (A48 (PW.pt (W7 (F8 U0 V0 (B9 (pv 3) (A1 (pv 6)) (fun _ _ => rfl)) J6 (D2 _)) (Y2 (F8 X7 m5 (B9 (pv 3) (A1 (pv 6)) (fun _ _ => rfl)) (A1 (pv 8)) (D2 _))))))))
   (B2 (D0 O6))
   J2))) (by intro _; rfl)))) (B2 (D0 O6))))), fun ds Q hl h => ?_⟩)
 obtain ⟨m, ws, st, b, d, rfl, ok, hb, hT, q⟩ := h
 have m1 := ok.m1
 have m2 := ok.m2
 have e1 := hb.len
 (try unfold L8); (try unfold P4)
 refine ⟨fun ρ' => ρ' = [Sl.sh (D4 m ws), Sl.sh (.int st), Sl.sh (.list (A3 b)), Sl.sh d, .no, .no, .no, .no, .no] /\ R9 m st d = true, ?_, ?_⟩
 ·right
  refine ⟨m, st, d, rfl, hT, ?_⟩
  cases eR : R9 m st d with
  | false =>
   rw [C85 eR] at q
   exact M2 q
  | true => exact L4 ⟨rfl, rfl⟩
 rintro ρ ⟨rfl, eR⟩
 obtain ⟨t, rfl, ht⟩ := B8t eR
 have e2 := ht.len
 have no : ¬ (leT b t /\ O9 ws st t) -> Q (.bool false) := fun z => by rw [B8u z] at q; exact q
 try dsimp only
 refine go ?_
 (try unfold L8); (try unfold P4)
 refine ⟨fun ρ' => leT b t /\ ∃ z : Sl, ρ' = [Sl.sh (D4 m ws), Sl.sh (.int st), Sl.sh (.list (A3 b)), Sl.sh (.list (A3 t)), z, .no, .no, .no, .no], ?_, ?_⟩
 ·array_mem_dec
  refine ⟨⟨by omega, by omega⟩, ?_⟩
  rw [show ((m : Nat) : Int).toNat = m by simp]
  refine ⟨fun r ρ => ∃ (k : Nat) (z : Sl), r = (G7 0 m).drop k /\ (∀ p, p < k -> leO (gt b p) (gt t p)) /\ ρ = [Sl.sh (D4 m ws), Sl.sh (.int st), Sl.sh (.list (A3 b)), Sl.sh (.list (A3 t)), z, .no, .no, .no, .no], ⟨0, _, rfl, fun p hp => absurd hp (A4t _), rfl⟩, ?_, ?_⟩
  ·rintro x r ρ ⟨k, z, h1, hp, rfl⟩
   obtain ⟨rfl, rfl, hk⟩ := A0g h1
   have nx : leO (gt b k) (gt t k) -> ∀ p, p < k + 1 -> leO (gt b p) (gt t p) := fun h p hp' => by
    rcases P8 p k with c | c
    ·exact hp p c
    ·have : p = k := by omega
     subst this; exact h
   sizeOf_list_dec
   rw [R8 (by omega)]
   cases eb : gt b k with
   | none =>
    rw [eb] at nx
    right
    exact ⟨k + 1, _, rfl, nx X0, rfl⟩
   | some x =>
    right
    rw [R8 (by omega)]
    cases et : gt t k with
    | none =>
     right
     exact no fun z => by have := z.1 k; rw [eb, et] at this; exact absurd this i7
    | some y =>
     rw [eb, et] at nx
     right
     by_cases c : y < x
     ·rw [decide_eq_true c]
      right
      exact no fun z => by have := z.1 k; rw [eb, et] at this; have := O8.mp this; omega
     ·rw [decide_eq_false c]
      right
      exact ⟨k + 1, _, rfl, nx (O8.mpr (by omega)), rfl⟩
  ·rintro ρ ⟨k, z, h1, hp, rfl⟩
   have := A1y h1
   refine ⟨fun p => ?_, _, rfl⟩
   rcases P8 p m with c | c
   ·exact hp p (by omega)
   ·have hn : gt b p = none := w6 (by rw [e1]; exact c)
    rw [hn]; exact X0
 rintro ρ ⟨hle, z, rfl⟩
 refine go ?_
 (try unfold L8); (try unfold P4)
 refine ⟨fun _ => O9 ws st t, ?_, fun ρ hc => ?_⟩
 ·array_mem_dec
  refine ⟨fun r ρ => ∃ (dn W : List Wy) (z5 z6 z7 z8 : Sl), ws = dn ++ W /\ r = W.map K5 /\ (∀ w ∈ dn, leO (K0 st t w) (gt t w.2.1)) /\ ρ = [Sl.sh (D4 m ws), Sl.sh (.int st), Sl.sh (.list (A3 b)), Sl.sh (.list (A3 t)), z, z5, z6, z7, z8], ⟨[], ws, _, _, _, _, rfl, rfl, fun w hw => (nomatch hw), rfl⟩, ?_, ?_⟩
  ·rintro x r ρ ⟨dn, W, z5, z6, z7, z8, hws, h1, hW, rfl⟩
   cases W with
   | nil => cases h1
   | cons w W =>
    cases (show x :: r = K5 w :: W.map K5 from h1)
    have hw : w ∈ ws := by rw [hws]; exact S8 _ B4
    have bq : K0 st t w = (gt t w.1).bind fun x => G6 st x w.2.2 := by
     unfold K0
     cases gt t w.1 <;> rfl
    have keep : ∀ {y5 y6 y7 y8 : Sl}, leO ((gt t w.1).bind fun x => G6 st x w.2.2) (gt t w.2.1) -> ∃ (dn W' : List Wy) (x5 x6 x7 x8 : Sl), ws = dn ++ W' /\ W.map K5 = W'.map K5 /\ (∀ w ∈ dn, leO (K0 st t w) (gt t w.2.1)) /\ [Sl.sh (D4 m ws), Sl.sh (.int st), Sl.sh (.list (A3 b)), Sl.sh (.list (A3 t)), z, y5, y6, y7, y8] = [Sl.sh (D4 m ws), Sl.sh (.int st), Sl.sh (.list (A3 b)), Sl.sh (.list (A3 t)), z, x5, x6, x7, x8] := fun h => ⟨dn ++ [w], W, _, _, _, _, by rw [hws, j4]; rfl, rfl, fun v hv => by
     rcases X5.mp hv with z | z
     ·exact hW v z
     ·rw [A0l.mp z, bq]; exact h, rfl⟩
    have quit : ¬ leO ((gt t w.1).bind fun x => G6 st x w.2.2) (gt t w.2.1) -> Q (.bool false) := fun h => no fun z => h (by rw [<- bq]; exact z.2 w hw)
    unfold K5
    sizeOf_list_dec
    rw [R8 (by rw [e2]; exact ok.st w hw)]
    left
    refine ⟨st, gt t w.1, w.2.2, rfl, ?_⟩
    generalize (gt t w.1).bind (fun x => G6 st x w.2.2) = l at keep quit
    cases l with
    | none =>
     refine go ?_; right
     exact keep X0
    | some x =>
     refine go ?_; right
     rw [R8 (by rw [e2]; exact ok.en w hw)]
     cases ey : gt t w.2.1 with
     | none =>
      rw [ey] at quit
      right
      exact quit i7
     | some y =>
      rw [ey] at quit keep
      right
      by_cases c : y < x
      ·rw [decide_eq_true c]
       right
       exact quit fun z => by have := O8.mp z; omega
      ·rw [decide_eq_false c]
       right
       exact keep (O8.mpr (by omega))
  ·rintro ρ ⟨dn, W, z5, z6, z7, z8, hws, h1, hW, rfl⟩
   cases W with
   | cons w W => cases h1
   | nil =>
    rw [d5] at hws
    rw [hws]; exact hW
 ·rw [B3k ht hle hc] at q
  refine go ?_; left
  exact q
end
def J0 (q : Sp2) : PyData := .tuple [.int (q.1 : Nat), .int q.2]
def sIn (s k : Nat) : Bool := decide (s / 2 ^ k % 2 = 1)
def tbs (ts : List Tb) (s : Nat) : Tb := (ts[s]?).getD []
def lvG (st : Int) (ts : List Tb) (r : Nat) (q : Sp2) : Option Int := (gt (tbs ts r) q.1).bind fun x => G6 st x q.2
def d3 (n s : Nat) : List Nat := (P6 n).filter (sIn s)
structure A4l (m : Nat) (sp : List Sp2) : Prop where
 few : sp.length <= 4
 pl : ∀ q ∈ sp, q.1 < m
 gf : ∀ q ∈ sp, 0 <= q.2
structure Bas (m : Nat) (st : Int) (sp : List Sp2) (ts : List Tb) (s : Nat) (ks : List Nat) (c : Tb) : Prop where
 tab : D1 m st c
 up : ∀ k ∈ ks, ∀ q, sp[k]? = some q -> leO (lvG st ts (s - 2 ^ k) q) (gt c q.1)
 le : ∀ L : Tb, (∀ k ∈ ks, ∀ q, sp[k]? = some q -> leO (lvG st ts (s - 2 ^ k) q) (gt L q.1)) -> leT c L
def j1 (m : Nat) (st : Int) (sp : List Sp2) (ts : List Tb) (b : Tb) (s : Nat) (c : Tb) : Prop := (s = 0 /\ c = b) \/ (0 < s /\ Bas m st sp ts s (d3 sp.length s) c)
theorem B8w {m : Nat} {st : Int} : D1 m st (D8 m none) := ⟨A11, fun p x e => by rw [A3n] at e; cases e⟩
theorem Bas.nil {m : Nat} {st : Int} {sp : List Sp2} {ts : List Tb} {s : Nat} : Bas m st sp ts s [] (D8 m none) :=
 ⟨B8w, fun k hk => (nomatch hk), fun L _ p => by rw [A3n]; exact X0⟩
theorem B8x {st : Int} {ts : List Tb} {r : Nat} {q : Sp2} {x : Int} (h0 : 0 <= st) (h : lvG st ts r q = some x) : 0 <= x /\ x <= st := by
 unfold lvG at h
 cases e : gt (tbs ts r) q.1 with
 | none => rw [e] at h; cases h
 | some l => rw [e] at h; exact A52 h0 h
theorem Bas.put {m : Nat} {st : Int} {sp : List Sp2} {ts : List Tb} {s : Nat} {ks : List Nat} {c : Tb} {k : Nat} {q : Sp2} (h0 : 0 <= st) (B : Bas m st sp ts s ks c) (hq : sp[k]? = some q) (hm : q.1 < m) (h : K8 (lvG st ts (s - 2 ^ k) q) (gt c q.1) = true) : Bas m st sp ts s (ks ++ [k]) (c.set q.1 (lvG st ts (s - 2 ^ k) q)) := by
 have hl : q.1 < c.length := by rw [B.tab.len]; exact hm
 have hle : leT c (c.set q.1 (lvG st ts (s - 2 ^ k) q)) := fun p => by
  rw [i8 hl]
  split
  ·rename_i e; cases e; exact A97 h
  ·exact b6 _
 refine ⟨⟨by rw [L9]; exact B.tab.len, fun p x e => ?_⟩, fun j hj r hr => ?_, fun L hL p => ?_⟩
 ·rw [i8 hl] at e
  split at e
  ·exact B8x h0 e
  ·exact B.tab.bd p x e
 ·rcases X5.mp hj with z | z
  ·exact Y4 (B.up j z r hr) (hle _)
  ·have : j = k := by simpa using z
   subst this
   rw [hq] at hr
   cases hr
   rw [i8 hl, if_pos rfl]
   exact b6 _
 ·rw [i8 hl]
  split
  ·rename_i e
   cases e
   exact hL k (S8 _ B4) q hq
  ·exact B.le L (fun j hj => hL j (A84 _ hj)) p
theorem Bas.keep {m : Nat} {st : Int} {sp : List Sp2} {ts : List Tb} {s : Nat} {ks : List Nat} {c : Tb} {k : Nat} {q : Sp2} (B : Bas m st sp ts s ks c) (hq : sp[k]? = some q) (h : leO (lvG st ts (s - 2 ^ k) q) (gt c q.1)) : Bas m st sp ts s (ks ++ [k]) c := by
 refine ⟨B.tab, fun j hj r hr => ?_, fun L hL => B.le L fun j hj => hL j (A84 _ hj)⟩
 rcases X5.mp hj with z | z
 ·exact B.up j z r hr
 ·have : j = k := by simpa using z
  subst this
  rw [hq] at hr
  cases hr
  exact h
theorem A70 {s k : Nat} (h : sIn s k = true) : 2 ^ k <= s := by
 have h1 : s / 2 ^ k % 2 = 1 := of_decide_eq_true h
 rcases P8 s (2 ^ k) with c | c
 ·rw [Nat.div_eq_of_lt c] at h1; cases h1
 ·exact c
theorem A71 {n s k : Nat} (h : k ∈ d3 n s) : k < n /\ sIn s k = true := by
 obtain ⟨h1, h2⟩ := A83.mp h
 exact ⟨X4.mp h1, h2⟩
theorem Bas.cong {m : Nat} {st : Int} {sp : List Sp2} {ts us : List Tb} {s n : Nat} {c : Tb} (h : ∀ r, r < s -> tbs ts r = tbs us r) (B : Bas m st sp ts s (d3 n s) c) : Bas m st sp us s (d3 n s) c := by
 have e : ∀ k ∈ d3 n s, ∀ q, lvG st ts (s - 2 ^ k) q = lvG st us (s - 2 ^ k) q := fun k hk q => by
  have h2 := A70 (A71 hk).2
  have h3 : 0 < 2 ^ k := Nat.pos_of_ne_zero (by simp)
  unfold lvG
  rw [h (s - 2 ^ k) (by omega)]
 exact ⟨B.tab, fun k hk q hq => by rw [<- e k hk]; exact B.up k hk q hq, fun L hL => B.le L fun k hk q hq => by rw [e k hk]; exact hL k hk q hq⟩
theorem j1.cong {m : Nat} {st : Int} {sp : List Sp2} {ts us : List Tb} {s : Nat} {b c : Tb} (h : ∀ r, r < s -> tbs ts r = tbs us r) (B : j1 m st sp ts b s c) : j1 m st sp us b s c := by
 rcases B with z | ⟨z, B⟩
 ·exact .inl z
 ·exact .inr ⟨z, B.cong h⟩
theorem j1.tab {m : Nat} {st : Int} {sp : List Sp2} {ts : List Tb} {s : Nat} {b c : Tb} (hb : D1 m st b) (B : j1 m st sp ts b s c) : D1 m st c := by
 rcases B with ⟨_, rfl⟩ | ⟨_, B⟩
 ·exact hb
 ·exact B.tab
def A80 (m : Nat) (ws : List Wy) (st : Int) (sp : List Sp2) (b : Tb) (ts : List Tb) : Prop := ∀ s, s < ts.length -> ∃ c, j1 m st sp ts b s c /\ b7 m ws st c (tbs ts s)
structure A72 (m : Nat) (ws : List Wy) (st : Int) (sp : List Sp2) (b : Tb) (ts : List Tb) : Prop where
 len : ts.length = 2 ^ sp.length
 all : A80 m ws st sp b ts
theorem B3m {ts us : List Tb} {r : Nat} (h : r < ts.length) : tbs (ts ++ us) r = tbs ts r := by
 unfold tbs
 rw [d6 h]
theorem d4 {ts : List Tb} {r : Nat} (h : r < ts.length) : ts[r]? = some (tbs ts r) := by
 unfold tbs
 rw [J5 h]
 rfl
theorem A81 {ts : List Tb} {t : Tb} (h : t ∈ ts) : ∃ s, s < ts.length /\ tbs ts s = t := by
 obtain ⟨p, hp, e⟩ := p5.mp h
 exact ⟨p, hp, by unfold tbs; rw [J5 hp, e]; rfl⟩
theorem Q4 {ts : List Tb} {s : Nat} (h : s < ts.length) : tbs ts s ∈ ts := N3 (d4 h)
theorem A80.snoc {m : Nat} {ws : List Wy} {st : Int} {sp : List Sp2} {b : Tb} {ts : List Tb} {c t : Tb} (h : A80 m ws st sp b ts) (B : j1 m st sp ts b ts.length c) (L : b7 m ws st c t) : A80 m ws st sp b (ts ++ [t]) := fun s hs => by
 rw [M7, B3y] at hs
 rcases P8 s ts.length with z | z
 ·obtain ⟨c, B', L'⟩ := h s z
  exact ⟨c, B'.cong fun r hr => (B3m (by omega)).symm, by rw [B3m z]; exact L'⟩
 ·have : s = ts.length := by omega
  subst this
  refine ⟨c, B.cong fun r hr => (B3m hr).symm, ?_⟩
  have e : tbs (ts ++ [t]) ts.length = t := by unfold tbs; simp
  rw [e]
  exact L
structure O0 (m : Nat) (ws : List Wy) (st : Int) (sp : List Sp2) (b : Tb) (ts : List Tb) : Prop where
 len : ts.length = 2 ^ sp.length
 tab : ∀ t ∈ ts, D1 m st t
 cl : ∀ t ∈ ts, O9 ws st t
 b0 : leT b (tbs ts 0)
 use : ∀ s, s < ts.length -> ∀ k q, sp[k]? = some q -> sIn s k = true -> leO (lvG st ts (s - 2 ^ k) q) (gt (tbs ts s) q.1)
theorem X3 (n : Nat) : 0 < 2 ^ n := Nat.pos_of_ne_zero (by simp)
theorem A4m {sp : List Sp2} {k : Nat} {q : Sp2} (h : sp[k]? = some q) : k < sp.length := by
 rcases P8 k sp.length with c | c
 ·exact c
 ·rw [U5 c] at h; cases h
theorem B8y {n s k : Nat} (h : k < n) (h2 : sIn s k = true) : k ∈ d3 n s := A83.mpr ⟨X4.mpr h, h2⟩
theorem B8z {s k : Nat} (h : sIn s k = true) : 0 < s := Q5 (X3 k) (A70 h)
theorem A72.lid {m : Nat} {ws : List Wy} {st : Int} {sp : List Sp2} {b : Tb} {ts : List Tb} (h : A72 m ws st sp b ts) : O0 m ws st sp b ts := by
 refine ⟨h.len, fun t ht => ?_, fun t ht => ?_, ?_, fun s hs k q hq hk => ?_⟩
 ·obtain ⟨s, hs, rfl⟩ := A81 ht
  obtain ⟨c, _, L⟩ := h.all s hs
  exact L.tab
 ·obtain ⟨s, hs, rfl⟩ := A81 ht
  obtain ⟨c, _, L⟩ := h.all s hs
  exact L.cl
 ·obtain ⟨c, B, L⟩ := h.all 0 (by rw [h.len]; exact X3 _)
  rcases B with ⟨_, rfl⟩ | ⟨z, _⟩
  ·exact L.up
  ·exact absurd z (by decide)
 ·obtain ⟨c, B, L⟩ := h.all s hs
  rcases B with ⟨z, _⟩ | ⟨_, B⟩
  ·have := B8z hk; omega
  ·exact Y4 (B.up k (B8y (A4m hq) hk) q hq) (L.up _)
theorem O0.under {m : Nat} {ws : List Wy} {st : Int} {sp : List Sp2} {b : Tb} {ts : List Tb} {s : Nat} {c : Tb} (h : O0 m ws st sp b ts) (hs : s < ts.length) (B : j1 m st sp ts b s c) : leT c (tbs ts s) := by
 rcases B with ⟨rfl, rfl⟩ | ⟨_, B⟩
 ·exact h.b0
 ·exact B.le _ fun k hk q hq => h.use s hs k q hq (A71 hk).2
theorem C9m {st : Int} {ts us : List Tb} {r : Nat} {q : Sp2} (h : leT (tbs ts r) (tbs us r)) : leO (lvG st ts r q) (lvG st us r q) := by
 unfold lvG
 have h := h q.1
 cases e : gt (tbs ts r) q.1 with
 | none => exact X0
 | some x =>
  rw [e] at h
  cases e2 : gt (tbs us r) q.1 with
  | none => rw [e2] at h; exact absurd h i7
  | some y => rw [e2] at h; exact B2w (O8.mp h)
theorem A72.under {m : Nat} {ws : List Wy} {st : Int} {sp : List Sp2} {b b' : Tb} {ts us : List Tb} (h : A72 m ws st sp b ts) (g : O0 m ws st sp b' us) (hb : leT b b') : ∀ s, s < ts.length -> leT (tbs ts s) (tbs us s) := fun s => by
 induction s using Nat.strongRecOn with
 | _ s ih =>
  intro hs
  have hs' : s < us.length := by rw [g.len, <- h.len]; exact hs
  obtain ⟨c, B, L⟩ := h.all s hs
  refine L.le _ (g.tab _ (Q4 hs')) ?_ (g.cl _ (Q4 hs'))
  rcases B with ⟨rfl, rfl⟩ | ⟨_, B⟩
  ·exact A98 hb g.b0
  ·refine B.le _ fun k hk q hq => ?_
   have h2 := A70 (A71 hk).2
   have h3 := X3 k
   exact Y4 (C9m (ih (s - 2 ^ k) (by omega) (by omega))) (g.use s hs' k q hq (A71 hk).2)
theorem O0.low {m : Nat} {ws : List Wy} {st : Int} {sp : List Sp2} {b b' : Tb} {ts : List Tb} (g : O0 m ws st sp b' ts) (hb : leT b b') : O0 m ws st sp b ts := ⟨g.len, g.tab, g.cl, A98 hb g.b0, g.use⟩
theorem B3n : ∀ n, n < 5 -> ∀ k, k < n -> ∀ s, s < 2 ^ n -> sIn s k = false -> sIn (s + 2 ^ k) k = true /\ s + 2 ^ k < 2 ^ n := by decide
theorem C9n : ∀ k, k < 4 -> ∀ s, s < 16 -> decide (Builtin.bitAnd ((s : Nat) : Int) ((2 ^ k : Nat) : Int) = 0) = !sIn s k := by decide
theorem O0.next {m : Nat} {ws : List Wy} {st : Int} {sp : List Sp2} {b : Tb} {ts : List Tb} {s k : Nat} {q : Sp2} (hf : sp.length <= 4) (g : O0 m ws st sp b ts) (hs : s < ts.length) (hq : sp[k]? = some q) (h : sIn s k = false) : s + 2 ^ k < ts.length /\ leO (lvG st ts s q) (gt (tbs ts (s + 2 ^ k)) q.1) := by
 obtain ⟨h1, h2⟩ := B3n sp.length (by omega) k (A4m hq) s (by rw [<- g.len]; exact hs) h
 have h3 : s + 2 ^ k < ts.length := by rw [g.len]; exact h2
 have := g.use (s + 2 ^ k) h3 k q hq h1
 rw [Nat.add_sub_cancel] at this
 exact ⟨h3, this⟩
theorem V9 (ts : List Tb) : (C6 ts).length = ts.length := E4 _
theorem A0i {ts : List Tb} {r : Nat} (h : r < ts.length) : atI (C6 ts) ((r : Nat) : Int) = some (.list (A3 (tbs ts r))) := W5 (by unfold C6; rw [N1, d4 h]; rfl)
theorem B0s {sp : List Sp2} {k : Nat} {q : Sp2} (h : sp[k]? = some q) : atI (sp.map J0) ((k : Nat) : Int) = some (J0 q) := W5 (by rw [N1, h]; rfl)
theorem B3o {sp : List Sp2} {k : Nat} (h : k < sp.length) : ∃ q, sp[k]? = some q := ⟨_, J5 h⟩
def C9o : DSp := fun ds Q => ∃ k : Nat, ds = [.int (k : Nat)] /\ k <= 900 /\ Q (.int ((2 ^ k : Nat) : Int))
def C9p : DSp := fun ds Q => ∃ (sp : List Sp2) (s : Nat), ds = [.list (sp.map J0), .int (s : Nat)] /\ sp.length <= 4 /\ s < 2 ^ sp.length /\ Q (.list (J8 (d3 sp.length s)))
def C9q : DSp := fun ds Q => ∃ (m : Nat) (st : Int) (sp : List Sp2) (ts : List Tb) (s k : Nat) (q : Sp2), ds = [.int st, .list (sp.map J0), .list (C6 ts), .int (s : Nat), .int (k : Nat)] /\ k <= 900 /\ sp[k]? = some q /\ 2 ^ k <= s /\ s - 2 ^ k < ts.length /\ q.1 < m /\ (∀ t ∈ ts, D1 m st t) /\ Q (oD (lvG st ts (s - 2 ^ k) q))
def C9r : DSp := fun ds Q => ∃ (m : Nat) (st : Int) (sp : List Sp2) (ts : List Tb) (b : Tb) (s : Nat), ds = [.int st, .list (sp.map J0), .list (C6 ts), .list (A3 b), .int (s : Nat)] /\ A4l m sp /\ 0 <= st /\ D1 m st b /\ m <= 900 /\ s < 2 ^ sp.length /\ s <= ts.length /\ (∀ t ∈ ts, D1 m st t) /\ ∀ c, j1 m st sp ts b s c -> Q (.list (A3 c))
def C9s : DSp := fun ds Q => ∃ (m : Nat) (ws : List Wy) (st : Int) (sp : List Sp2) (b : Tb), ds = [D4 m ws, .int st, .list (sp.map J0), .list (A3 b)] /\ L1 m ws /\ 0 <= st /\ st <= 1000000000000000000000 /\ A4l m sp /\ D1 m st b /\ ∀ ts, A72 m ws st sp b ts -> Q (.list (C6 ts))
theorem pw4 : ∀ n, n < 5 -> 2 ^ n <= 16 := by decide
theorem D1j {n s : Nat} (h : n <= 4) : (d3 n s).length <= 4 := by
 have := List.length_filter_le (sIn s) (P6 n)
 rw [d7] at this
 unfold d3
 omega
theorem ixS {ts : List Tb} {s k : Nat} (h : 2 ^ k <= s) : ((s : Nat) : Int) - ((2 ^ k : Nat) : Int) = ((s - 2 ^ k : Nat) : Int) := by omega
section
variable {P : Program} {w : World} {K : A4} {mg : Str -> Option Value} {base : Heap}
theorem B0t (T : Txt K mg) : D3 P w K mg base CX0 1 T.a_alone T.d_alone ["number"] (spD [.sh] C9o) := by
 refine G5 T.F_alone C5d rfl (fun C cdv A outer s H E hr => ⟨_, (B2 (D0 (F2 A4z A59 B1 (A1 (pv 0))))), fun ds Q hl h => ?_⟩)
 obtain ⟨k, rfl, hk, q⟩ := h
 left
 refine ⟨⟨by omega, by omega, by decide⟩, ?_⟩
 rw [show (1 : Int) * 2 ^ (((k : Nat) : Int)).toNat = ((2 ^ k : Nat) : Int) by rw [Int.one_mul, Z1, B39]; rfl]
 exact q
theorem C9t (T : Txt K mg) : D3 P w K mg base CX0 2 T.a_numbers_in T.d_numbers_in ["springs", "some"] (spD [.sh, .sh] C9p) := by
 have G_alone := @B0t P w K mg base T
 have b_alone := B0m T
 refine G5 T.F_numbers_in C5e rfl (fun C cdv A outer s H E hr => ⟨_, (@B2 _ _ _ _ (@D0 _ _ _ _ _ (@D9 _ _ _ _ (@W9 _ _ _ _ _ _ _ _ rfl (@V5 _ _ _ _ _ _ _ _ _ _ _ _ _ _ _ (M3.new (N := ["springs", "some"]) (osc := A7 A4b) (by decide +kernel)) rfl (U2 (T8 rfl T.n_range (A8 (S6 (F9 N6 rfl T.n_len N7 (C3 (pv 0) D6 A0) (he := A0) (hpl := A6))) C5 E3))) (fun _ => (B5g (F8 (t8 (Q3 hr)) Q0 (F2 C0o C4g (A1 (pv 1)) (C1 (B6 G_alone (hr.mono (by decide)) rfl T.mg_alone T.kp_alone b_alone .nil B7 (A2 (A1 (pv 2)) C0 A0) (he := A0) (hpl := A6)))) B1 (D2 _)))) (fun _ => (A1 (pv 2))) (by rfl) (by rfl) (by intro _; rfl)))))), fun ds Q hl h => ?_⟩)
 obtain ⟨sp, s, rfl, few, hs, q⟩ := h
 have s16 := pw4 sp.length (by omega)
 array_mem_dec
 rw [E4]
 refine ⟨⟨by omega, by omega⟩, ⟨rfl, by unfold G7; rw [E4, d7]; omega⟩, ?_⟩
 rw [Z1, B8q]
 refine A96 (p := fun k => sIn s k) (f := fun k => .int ((k : Nat) : Int)) (fun k hk Q' q' => ?_) (fun k hk _ Q' q' => ?_) ?_
 ·have hk := X4.mp hk
  left
  refine ⟨k, rfl, by omega, ?_⟩
  left
  refine ⟨rfl, rfl, T6 _ _, ?_⟩
  rw [T7]
  have e := C9n k (by omega) s (by omega)
  have e2 : (Builtin.bitAnd ((s : Nat) : Int) ((2 ^ k : Nat) : Int) == 0) = !sIn s k := e
  rw [e2]
  left
  rw [Bool.not_not]
  exact q'
 ·left
  exact q'
 ·rw [M0]
  exact q
theorem C9u (T : Txt K mg) : D3 P w K mg base CX0 2 T.a_level_by_spring T.d_level_by_spring ["store", "springs", "tables", "some", "number"] (spD [.sh, .sh, .bo, .sh, .sh] C9q) := by
 have G_alone := @B0t P w K mg base T
 have b_alone := B0m T
 have G_stepped := @B3c P w K mg base T
 have b_stepped := B3a T
 refine G5 T.F_level_by_spring B7x rfl (fun C cdv A outer s H E hr => ⟨_, (@G4 _ _ _ _ _ _ (@E1 _ _ _ _ _ (@C8 _ _ 5 _ _ _ _ B7x.nd rfl (B3 rfl) (K7 (B9 (pv 2) (F2 A0t A05 (A1 (pv 3)) (C1 (B6 G_alone (hr.mono (by decide)) rfl T.mg_alone T.kp_alone b_alone .nil B7 (A2 (A1 (pv 4)) C0 A0) (he := A0) (hpl := A6)))) (fun _ _ => rfl)) (K7 (B9 (pv 1) (A1 (pv 4)) (fun _ _ => rfl)) (E9 (E6 (v := V.int 0) rfl T.mg_PLACE ⟨_, rfl⟩)) (fun _ _ => rfl)) (fun _ _ => rfl)) (by rfl) (by first | exact .inl rfl | exact .inr rfl | assumption))) (@B2 _ _ _ _ (@D0 _ _ _ _ _ (@B18 _ _ _ _ _ _ _ _ _ (F8 U0 V0 (A1 (pv 5)) J6 (D2 _)) J6 (C1 (B6 G_stepped (hr.mono (by decide)) rfl T.mg_stepped T.kp_stepped b_stepped .nil B7 (A2 (A1 (pv 0)) (A2 (A1 (pv 5)) (A2 (K7 (B9 (pv 1) (A1 (pv 4)) (fun _ _ => rfl)) (E9 (E6 (v := V.int 1) rfl T.mg_GIFT ⟨_, rfl⟩)) (fun _ _ => rfl)) C0 C2) A0) A0) (he := A0) (hpl := (A5 A0 (A5 C2 A6))))))))), fun ds Q hl h => ?_⟩)
 obtain ⟨m, st, sp, ts, s, k, p, rfl, hk, hp, hle, hlt, hm, hT, q⟩ := h
 have tl := (hT _ (Q4 hlt)).len
 left
 refine ⟨k, rfl, by omega, ?_⟩
 left
 rw [ixS (ts := ts) hle, A0i hlt]
 left
 rw [B0s hp]
 unfold J0
 left
 rw [R8 (by rw [tl]; exact hm)]
 left
 unfold lvG at q
 cases e : gt (tbs ts (s - 2 ^ k)) p.1 with
 | none =>
  rw [e] at q
  right
  exact q
 | some x =>
  rw [e] at q
  right
  exact L4 ⟨st, x, p.2, rfl, q⟩
end
section
variable {P : Program} {w : World} {K : A4} {mg : Str -> Option Value} {base : Heap}
theorem B80 (T : Txt K mg) : D3 P w K mg base CX0 3 T.a_base_by T.d_base_by ["store", "springs", "tables", "base", "some"] (spD [.sh, .sh, .bo, .sh, .sh] C9r) := by
 have G_numbers_in := @C9t P w K mg base T
 have b_numbers_in := C6f T
 have G_level_by_spring := @C9u P w K mg base T
 have b_level_by_spring := C6g T
 have G_is_more := @B0p P w K mg base T
 have b_is_more := B0l T
 refine G5 T.F_base_by B0i rfl (fun C cdv A outer s H E hr => ⟨_, (@C9 _ _ _ _ _ _ (O7 (J3 (F8 (Z5 (Q3 hr)) Q0 (A1 (pv 4)) B1 (D2 _))
   (B2 (D0 (A1 (pv 3))))
   J2)) (@C9 _ _ _ _ _ _ (g8 (C8 (i := 5) B0i.nd rfl (B3 rfl) (B2d (D9 (L6 (A8 J6 C5 G1))) (S6 (F9 N6 rfl T.n_len N7 (C3 (pv 3) D6 A0) (he := A0) (hpl := A6)))))) (@C9 _ _ _ _ _ _ (@O7 _ _ _ _ (@P5 _ _ _ _ _ _ (@P0 _ _ _ _ _ _ _ _ N4 rfl (A5g (C1 (B6 G_numbers_in (hr.mono (by decide)) rfl T.mg_numbers_in T.kp_numbers_in b_numbers_in .nil B7 (A2 (A1 (pv 1)) (A2 (A1 (pv 4)) C0 A0) A0) (he := A0) (hpl := (A5 A0 A6))))) (T3 (K3 (i := 6) B0i.nd rfl (B3 rfl))) (@C9 _ _ _ _ _ _ (@E1 _ _ _ _ _ (@C8 _ _ 7 _ _ _ _ B0i.nd rfl (B3 rfl) (C1 (B6 G_level_by_spring (hr.mono (by decide)) rfl T.mg_level_by_spring T.kp_level_by_spring b_level_by_spring .nil B7 (A2 (A1 (pv 0)) (A2 (A1 (pv 1)) (J7 (pv 2) (A2 (A1 (pv 4)) (A2 (A1 (pv 6)) C0 A0) A0) A0) A0) A0) (he := A0) (hpl := (A5 A0 (A5 A0 (A5 A0 (A5 A0 A6))))))) (by rfl) (by first | exact .inl rfl | exact .inr rfl | assumption))) (@B2 _ _ _ _ (@J3 _ _ _ _ _ _ _ _ _ (U9 (C1 (B6 G_is_more (hr.mono (by decide)) rfl T.mg_is_more T.kp_is_more b_is_more .nil B7 (A2 (A1 (pv 7)) (A2 (B9 (pv 5) (K7 (B9 (pv 1) (A1 (pv 6)) (fun _ _ => rfl)) (E9 (E6 (v := V.int 0) rfl T.mg_PLACE ⟨_, rfl⟩)) (fun _ _ => rfl)) (fun _ _ => rfl)) C0 C2) A0) (he := A0) (hpl := (A5 C2 A6))))) (B2 (A5h (S9 (A1 (pv 7)) (V4 (pv 5) (K7 (B9 (pv 1) (A1 (pv 6)) (fun _ _ => rfl)) (E9 (E6 (v := V.int 0) rfl T.mg_PLACE ⟨_, rfl⟩)) (fun _ _ => rfl)) U1)))) J2))) (by intro _; rfl)))) (B2 (D0 (A1 (pv 5))))))), fun ds Q hl h => ?_⟩)
 obtain ⟨m, st, sp, ts, b, s, rfl, ok, s0, hb, m2, hs, hl2, hT, q⟩ := h
 have few := ok.few
 have bl := hb.len
 (try unfold L8); (try unfold P4)
 refine ⟨fun ρ' => 0 < s /\ ρ' = [Sl.sh (.int st), Sl.sh (.list (sp.map J0)), Sl.bo (C6 ts), Sl.sh (.list (A3 b)), Sl.sh (.int (s : Nat)), .no, .no, .no], ?_, ?_⟩
 ·left
  refine ⟨rfl, rfl, T6 _ _, ?_⟩
  rw [T7]
  by_cases c : s = 0
  ·subst c
   refine M2 ?_
   exact q b (.inl ⟨rfl, rfl⟩)
  ·rw [show (((s : Nat) : Int) == 0) = false from beq_eq_false_iff_ne.mpr (by omega)]
   exact L4 ⟨by omega, rfl⟩
 rintro ρ ⟨hs0, rfl⟩
 try dsimp only
 refine go ?_; left
 refine ⟨by decide, ⟨by rw [N2]; omega, by rw [N2]; omega, by decide⟩, ?_⟩
 rw [N2, bl, Z1, C7l]
 refine go ?_
 (try unfold L8); (try unfold P4)
 refine ⟨fun ρ' => ∃ (c : Tb) (z6 z7 : Sl), Bas m st sp ts s (d3 sp.length s) c /\ ρ' = [Sl.sh (.int st), Sl.sh (.list (sp.map J0)), Sl.bo (C6 ts), Sl.sh (.list (A3 b)), Sl.sh (.int (s : Nat)), Sl.ow (A3 c), z6, z7], ?_, ?_⟩
 ·array_get_dec
  refine ⟨sp, s, rfl, few, hs, ?_⟩
  array_get_dec
  refine ⟨fun r ρ => ∃ (ks R : List Nat) (c : Tb) (z6 z7 : Sl), r = J8 R /\ ks ++ R = d3 sp.length s /\ Bas m st sp ts s ks c /\ ρ = [Sl.sh (.int st), Sl.sh (.list (sp.map J0)), Sl.bo (C6 ts), Sl.sh (.list (A3 b)), Sl.sh (.int (s : Nat)), Sl.ow (A3 c), z6, z7], ⟨[], _, _, _, _, rfl, rfl, Bas.nil, rfl⟩, ?_, ?_⟩
  ·rintro x r ρ ⟨ks, R, c, z6, z7, h1, h2, B, rfl⟩
   cases R with
   | nil => cases h1
   | cons k R =>
    cases (show x :: r = PyData.int ((k : Nat) : Int) :: J8 R from h1)
    have hk := A71 (n := sp.length) (s := s) (k := k) (by rw [<- h2]; exact S8 _ B4)
    obtain ⟨p, hp⟩ := B3o hk.1
    have hpm := ok.pl p (N3 hp)
    have hle := A70 hk.2
    have hpp := X3 k
    have cl := B.tab.len
    have h3 : (ks ++ [k]) ++ R = d3 sp.length s := by rw [j4]; exact h2
    sizeOf_list_dec
    refine ⟨rfl, m, st, sp, ts, s, k, p, rfl, by omega, hp, hle, by omega, hpm, hT, ?_⟩
    refine go ?_; left
    rw [B0s hp]
    unfold J0
    left
    rw [R8 (by rw [cl]; exact hpm)]
    left
    refine ⟨_, _, rfl, ?_⟩
    cases e : K8 (lvG st ts (s - 2 ^ k) p) (gt c p.1) with
    | false =>
     left
     exact ⟨ks ++ [k], R, c, _, _, rfl, h3, B.keep hp e, rfl⟩
    | true =>
     left
     rw [o0 (by rw [N2, cl]; exact hpm)]
     left
     rw [B3d]
     exact ⟨ks ++ [k], R, _, _, _, rfl, h3, B.put s0 hp hpm e, rfl⟩
  ·rintro ρ ⟨ks, R, c, z6, z7, h1, h2, B, rfl⟩
   cases R with
   | cons k R => cases h1
   | nil =>
    rw [d5] at h2
    rw [h2] at B
    exact ⟨c, z6, z7, B, rfl⟩
 rintro ρ ⟨c, z6, z7, B, rfl⟩
 try dsimp only
 refine go ?_; left
 exact q c (.inr ⟨hs0, B⟩)
end
section
variable {P : Program} {w : World} {K : A4} {mg : Str -> Option Value} {base : Heap}
theorem B81 (T : Txt K mg) : D3 P w K mg base CX0 9 T.a_highest_by T.d_highest_by ["land", "store", "springs", "base"] (spD [.sh, .sh, .sh, .sh] C9s) := by
 have G_alone := @B0t P w K mg base T
 have b_alone := B0m T
 have G_base_by := @B80 P w K mg base T
 have b_base_by := B73 T
 have G_highest := @C8s P w K mg base T
 have b_highest := C6b T
 refine G5 T.F_highest_by B28 rfl (fun C cdv A outer s H E hr => ⟨_, (@C9 _ _ _ _ _ _ (g8 (C8 (i := 4) B28.nd rfl (B3 rfl) (L6 C5))) (@C9 _ _ _ _ _ _ (@P5 _ _ _ _ _ _ (@P0 _ _ _ _ _ _ _ _ N4 rfl (U2 (T8 rfl T.n_range (A8 (C1 (B6 G_alone (hr.mono (by decide)) rfl T.mg_alone T.kp_alone b_alone .nil B7 (A2 (S6 (F9 N6 rfl T.n_len N7 (C3 (pv 2) D6 A0) (he := A0) (hpl := A6))) C0 E3) (he := E3) (hpl := A6))) C5 E3))) (T3 (K3 (i := 5) B28.nd rfl (B3 rfl))) (@B2 _ _ _ _ (@A1i _ _ _ _ _ _ (@Z4 _ _ _ _ (@j8 _ _ _ _ _ _ _ _ _ _ _ _ A0m A4r A4s A00 (pv 4) (@C3 _ _ _ _ _ (@C1 _ _ _ _ _ _ _ (@B6 _ _ _ _ _ _ _ _ _ _ _ _ _ _ _ _ G_highest (hr.mono (by decide)) rfl T.mg_highest T.kp_highest b_highest .nil B7 (@A2 _ _ _ _ _ _ (A1 (pv 0)) (@A2 _ _ _ _ _ _ (A1 (pv 1)) (A2 (C1 (B6 G_base_by (hr.mono (by decide)) rfl T.mg_base_by T.kp_base_by b_base_by .nil B7 (A2 (A1 (pv 1)) (A2 (A1 (pv 2)) (J7 (pv 4) (A2 (A1 (pv 3)) (A2 (A1 (pv 5)) C0 A0) A0) A0) A0) A0) (he := A0) (hpl := (A5 A0 (A5 A0 (A5 A0 (A5 A0 A6))))))) C0 E3) A0) A0) (by decide) A0 ((A5 A0 (A5 E3 A6))))) D6 E3) (by rfl) (by rfl) (by rfl) (by rfl) (by rfl)) (by rfl)))) (by intro _; rfl))) (B2 (D0 (A1 (pv 4)))))), fun ds Q hl h => ?_⟩)
 obtain ⟨m, ws, st, sp, b, rfl, ok, s0, s1, so, hb, q⟩ := h
 have m2 := ok.m2
 have few := so.few
 have p16 := pw4 sp.length (by omega)
 have pp := X3 sp.length
 left
 refine ⟨by decide, ?_⟩
 refine go ?_; array_mem_dec
 rw [E4]
 refine ⟨sp.length, rfl, by omega, ?_⟩
 array_get_dec
 refine ⟨⟨by omega, by omega⟩, ?_⟩
 rw [Z1]
 refine ⟨fun r ρ => ∃ (ts : List Tb) (z5 : Sl), r = (G7 0 (2 ^ sp.length)).drop ts.length /\ ρ = [Sl.sh (D4 m ws), Sl.sh (.int st), Sl.sh (.list (sp.map J0)), Sl.sh (.list (A3 b)), Sl.ow (C6 ts), z5] /\ A80 m ws st sp b ts /\ ts.length <= 2 ^ sp.length, ⟨[], _, rfl, rfl, fun s hs => absurd hs (A4t _), M8 _⟩, ?_, ?_⟩
 ·rintro x r ρ ⟨ts, z5, h1, rfl, hP, hle⟩
  obtain ⟨rfl, rfl, hk⟩ := A0g h1
  have hT : ∀ t ∈ ts, D1 m st t := fun t ht => by
   obtain ⟨s, hs, rfl⟩ := A81 ht
   obtain ⟨c, _, L⟩ := hP s hs
   exact L.tab
  sizeOf_list_dec
  refine ⟨rfl, m, st, sp, ts, b, ts.length, rfl, so, s0, hb, by omega, hk, F6 _, hT, fun c B => ?_⟩
  left
  refine ⟨m, ws, st, c, rfl, ok, s0, s1, B.tab hb, fun t L => ?_⟩
  left
  refine ⟨by rw [V9]; omega, ts ++ [t], Sl.sh (.int (ts.length : Nat)), ?_, ?_, hP.snoc B L, ?_⟩
  ·rw [M7, B3y]
  ·unfold C6; rw [d8]; rfl
  ·rw [M7, B3y]; omega
 ·rintro ρ ⟨ts, z5, h1, rfl, hP, hle⟩
  have := A1y h1
  refine go ?_; left
  exact q ts ⟨by omega, hP⟩
end
def C9v : DSp := fun ds Q => ∃ (d : PyData) (m : Nat) (st : Int) (mo : Nat), ds = [d, .int (m : Nat), .int st, .int (mo : Nat)] /\ 1 <= m /\ m <= 12 /\ 0 <= st /\ st <= 100000000000000000000 /\ mo <= 4 /\ ∀ sp, A4l m sp -> Q (.list (sp.map J0))
section
variable {P : Program} {w : World} {K : A4} {mg : Str -> Option Value} {base : Heap}
theorem C9w (T : Txt K mg) : D3 P w K mg base CX0 4 T.a_springs T.d_springs ["_law_hand_here", "_law_many", "_law_store_here", "_law_most"] (spD [.hd, .sh, .sh, .sh] C9v) := by
 have G_draw := @A1w P w K mg base T
 have b_draw := A1v T
 refine G5 T.F_springs B0j rfl (fun C cdv A outer s H E hr => ⟨_, (@C9 _ _ _ _ _ _ (g8 (C8 (i := 4) B0j.nd rfl (B3 rfl) (L6 C5))) (@C9 _ _ _ _ _ _ (@P5 _ _ _ _ _ _ (@P0 _ _ _ _ _ _ _ _ N4 rfl (U2 (T8 rfl T.n_range (A8 (C1 (B6 G_draw (hr.mono (by decide)) rfl T.mg_draw T.kp_draw b_draw .nil B7 (J7 (pv 0) (A2 (F2 K6 M4 (A1 (pv 3)) B1) C0 J1) A0) (he := A0) (hpl := (A5 J1 A6)))) C5 E3))) (T3 (K3 (i := 5) B0j.nd rfl (B3 rfl))) (@C9 _ _ _ _ _ _ (@E1 _ _ _ _ _ (@C8 _ _ 6 _ _ _ _ B0j.nd rfl (B3 rfl) (@F2 _ _ _ _ _ _ _ _ _ _ K6 M4 B1 (@C1 _ _ _ _ _ _ _ (@B6 _ _ _ _ _ _ _ _ _ _ _ _ _ _ _ _ G_draw (hr.mono (by decide)) rfl T.mg_draw T.kp_draw b_draw .nil B7 (@J7 _ _ _ _ _ _ (pv 0) (@A2 _ _ _ _ _ _ (K7 (D9 (L6 (A8 B1 (A8 (F2 K6 M4 (A1 (pv 2)) B1) (A8 (F2 A0v A2n B1 B1) C5 J1) J1) G1))) (C1 (B6 G_draw (hr.mono (by decide)) rfl T.mg_draw T.kp_draw b_draw .nil B7 (J7 (pv 0) (A2 B1 C0 G1) A0) (he := A0) (hpl := (A5 G1 A6)))) (fun _ _ => rfl)) C0 C2) A0) (by decide) A0 ((A5 C2 A6))))) (by rfl) (by first | exact .inl rfl | exact .inr rfl | assumption))) (@B2 _ _ _ _ (@A1i _ _ _ _ _ _ (@Z4 _ _ _ _ (@j8 _ _ _ _ _ _ _ _ _ _ _ _ A0m A4r A4s A00 (pv 4) (@C3 _ _ _ _ _ (@Q8 _ _ _ _ _ _ (@A8 _ _ _ _ _ _ (C1 (B6 G_draw (hr.mono (by decide)) rfl T.mg_draw T.kp_draw b_draw .nil B7 (J7 (pv 0) (A2 (A1 (pv 1)) C0 A0) A0) (he := A0) (hpl := (A5 A0 A6)))) (A8 (P2 A07 (F9 (A0z rfl) rfl T.n_min A02 (A8 (F2 A0v A2n B1 B1) (A8 (A1 (pv 6)) C5 A0) J1) (he := J1) (hpl := (A5 A0 A6)))) C5 E3) E3)) D6 A18) (by rfl) (by rfl) (by rfl) (by rfl) (by rfl)) (by rfl))))) (by intro _; rfl))) (B2 (D0 (A1 (pv 4)))))), fun ds Q hl h => ?_⟩)
 obtain ⟨d, m, st, mo, rfl, m1, m2, s0, s1, h4, q⟩ := h
 left
 refine ⟨by decide, ?_⟩
 refine go ?_; array_mem_dec
 refine ⟨rfl, _, rfl, by omega, by omega, fun c c0 c1 => ?_⟩
 array_mem_dec
 refine ⟨⟨by omega, by omega⟩, fun r ρ => ∃ (sp : List Sp2) (z5 z6 : Sl), ρ = [Sl.hd, Sl.sh (.int (m : Nat)), Sl.sh (.int st), Sl.sh (.int (mo : Nat)), Sl.ow (sp.map J0), z5, z6] /\ r.length + sp.length <= 4 /\ ∀ p ∈ sp, p.1 < m /\ 0 <= p.2, ⟨[], _, _, rfl, by unfold G7; simp; omega, fun w hw => nomatch hw⟩, ?_, ?_⟩
 ·rintro x r ρ ⟨sp, z5, z6, rfl, hl2, hw⟩
  sizeOf_list_dec
  refine ⟨rfl, ⟨by decide, by decide, by decide⟩, by show 3 <= 1000; decide, rfl, _, rfl, by decide, by decide, fun u u0 u1 => ?_⟩
  left
  obtain ⟨g, hg, hg0, hg1⟩ : ∃ g : Int, atI [PyData.int 3, .int (st + 1), .int 1000000000000000000] u = some (.int g) /\ 0 < g /\ g <= 100000000000000000001 := by
   have hu : u = 0 \/ u = 1 \/ u = 2 := by omega
   rcases hu with rfl | rfl | rfl
   ·exact ⟨3, rfl, by decide, by decide⟩
   ·exact ⟨st + 1, rfl, by omega, by omega⟩
   ·exact ⟨1000000000000000000, rfl, by decide, by decide⟩
  rw [show ((10 : Int) ^ (18 : Int).toNat) = 1000000000000000000 from rfl, hg]
  left
  refine ⟨g, rfl, hg0, by omega, fun v v0 v1 => ?_⟩
  refine go ?_; left
  refine ⟨rfl, _, rfl, by omega, by omega, fun a a0 a1 => ?_⟩
  left
  obtain ⟨a', rfl, ha⟩ := A4j a0 a1
  refine ⟨⟨by decide, by decide, by decide⟩, by decide, by rw [E4]; simp at hl2; omega, sp ++ [(a', if 1 + v < 10 ^ Int.toNat 18 then 1 + v else 10 ^ Int.toNat 18)], _, _, by rw [d8]; rfl, by simp at hl2 ⊢; omega, fun p hp => ?_⟩
  rcases X5.mp hp with z | z
  ·exact hw p z
  ·have z := A0l.mp z
   subst z
   refine ⟨ha, ?_⟩
   show (0 : Int) <= if 1 + v < 10 ^ Int.toNat 18 then 1 + v else 10 ^ Int.toNat 18
   split
   ·omega
   ·decide
 ·rintro ρ ⟨sp, z5, z6, rfl, hl2, hw⟩
  refine go ?_; left
  exact q sp ⟨by simp at hl2; omega, fun p h => (hw p h).1, fun p h => (hw p h).2⟩
end
def nlV : V -> V -> Bool
 | _, .non => true
 | .int x, .int y => decide (y <= x)
 | _, _ => false
def C9x : Sp := fun vs H Q _ => ∃ a b : V, vs = [a, b] /\ oiV a = true /\ oiV b = true /\ Q (.bl (nlV a b)) H
section
variable {P : Program} {w : World} {K : A4} {mg : Str -> Option Value} {base : Heap}
theorem C9y (T : Txt K mg) : D3 P w K mg base CX0 1 T.a_no_less T.d_no_less ["_law_one", "_law_other"] C9x := by
 refine T.F_no_less.ok B70 (fun vs H Q E h => ?_) (fun cdv A outer s H vs Q E hr h => ?_)
 ·obtain ⟨a, b, rfl, _⟩ := h
  rfl
 ·obtain ⟨a, b, rfl, ha, hb, q⟩ := h
  refine ⟨_, (W3 (A0o (B4h (A9n U0 (pv 1) A9k (D2 _)) (B1e (B4g (A9n e9 (pv 0) A9k (D2 _)) (B1e (A9n B1k (pv 0) (pv 1) (D2 _)))))))), ?_⟩
  cases b with
  | non => exact ⟨_, rfl, rfl, _, rfl, M2 q⟩
  | int y =>
   cases a with
   | non => exact ⟨_, rfl, rfl, _, rfl, L4 ⟨_, rfl, rfl, _, rfl, L4 q⟩⟩
   | int x => exact ⟨_, rfl, rfl, _, rfl, L4 ⟨_, rfl, rfl, _, rfl, M2 ⟨_, rfl, _, rfl, _, _, rfl, rfl, q⟩⟩⟩
   | _ => cases ha
  | _ => cases hb
theorem C9z (T : Txt K mg) : D3 P w K mg base CX0 2 T.a_lift T.d_lift ["_law_table_here", "_law_place", "_law_level"] B26 := by
 have G_no_less := @C9y P w K mg base T
 have b_no_less := B78 T
 refine T.F_lift.ok C5m (fun vs H Q E h => ?_) (fun cdv A outer s H vs Q E hr h => ?_)
 ·obtain ⟨a, us, p, vl, u, rfl, _⟩ := h
  rfl
 ·obtain ⟨a, us, p, vl, u, rfl, ea, hu, ou, ol, q⟩ := h
  refine ⟨_, (O5 (A8k (A4v (PW.pt (B1d (A0y e9 (pv 2) A9k (D2 _)) (B1c (B4f (B4e (B6 G_no_less (hr.mono (by decide)) rfl T.mg_no_less T.kp_no_less b_no_less .nil B7 (C3 (M9 T1 (pv 0) (pv 1) (fun _ _ => rfl)) (C3 (pv 2) D6 A0) C2) (he := C2) (hpl := (A5 A0 A6))))))))
   (O5 (S9 (pv 2) (V4 (pv 0) (pv 1) U1))
   (W3 (A0o B1b)))
   A8c))
   (W3 (A0o B1b))), ?_⟩
  have hp : p < us.length := by
   rcases P8 p us.length with z | z
   ·exact z
   ·rw [U5 z] at hu; cases hu
  refine ⟨fun _ H' => A8u vl u = false /\ H' = H, ?_, fun σ' H' h' => ?_⟩
  ·cases vl with
   | non => exact ⟨_, rfl, rfl, _, rfl, L4 (L4 ⟨rfl, rfl⟩)⟩
   | int l =>
    have ix : ixN us.length ((p : Nat) : Int) = some p := o0 hp
    have up : A8u (.int l) u = true -> B4i (A0r (N5 2) (A9l (N5 0) (N5 1) A9q)) (B4k (tC (V.bl true))) { nx := fun _ H' => A8u (.int l) u = false /\ H' = H, rt := Q } (L2.start ["_law_table_here", "_law_place", "_law_level"] [V.ref a, V.int ((p : Nat) : Int), V.int l]) H := fun z => by
     rw [z] at q
     exact ⟨_, rfl, _, rfl, _, rfl, a, us, _, p, rfl, rfl, ea, ix, q⟩
    refine ⟨_, rfl, rfl, _, rfl, M2 ⟨_, rfl, _, rfl, a, us, _, u, rfl, rfl, SqL.of ea, (by unfold atI; rw [ix]; exact hu), _, rfl, u, .int l, rfl, ou, rfl, _, rfl, ?_⟩⟩
    cases u with
    | non => exact M2 (up rfl)
    | int y =>
     show if (!decide (l <= y)) = true then _ else _
     by_cases c : l <= y
     ·rw [decide_eq_true c]
      exact L4 ⟨decide_eq_false (by omega), rfl⟩
     ·rw [decide_eq_false c]
      exact M2 (up (decide_eq_true (by omega)))
    | _ => cases ou
   | _ => cases ol
  ·obtain ⟨e, rfl⟩ := h'
   rw [e] at q
   exact q
end
def ThS (d : PyData) : Prop := ∀ ds, d = .list ds -> ds.length <= 400 /\ ∀ r ∈ ds, ∀ rs, r = .list rs -> rs.length <= 400
open Classical in
noncomputable def slB (m : Nat) (ws : List Wy) (S : Int) (sp : List Sp2) (b : Tb) (d : PyData) : Bool := match d with
 | .list ds => decide (∃ ts, ds = C6 ts /\ O0 m ws S sp b ts)
 | _ => false
theorem C90 {ts us : List Tb} (h : C6 ts = C6 us) : ts = us := by
 unfold C6 at h
 exact (List.map_inj_right fun a b e => B3j (PyData.list.inj e)).mp h
theorem C91 {m : Nat} {S : Int} {ts : List Tb} (h : ∀ t ∈ ts, D1 m S t) : (C6 ts).all (R9 m S) = true := by
 refine o9.mpr fun d hd => ?_
 unfold C6 at hd
 obtain ⟨t, ht, rfl⟩ := S2.mp hd
 exact B3h (h t ht)
section
variable {m : Nat} {ws : List Wy} {S : Int} {sp : List Sp2} {b : Tb}
open Classical in
theorem B82 {d : PyData} (h : B0r m S d = false) : slB m ws S sp b d = false := by
 unfold slB
 split
 ·rename_i ds
  refine decide_eq_false fun ⟨ts, e, hL⟩ => ?_
  rw [show B0r m S (.list ds) = ds.all (R9 m S) from rfl, e, C91 hL.tab] at h
  cases h
 ·rfl
open Classical in
theorem B3p {ds : List PyData} (h : ds.length ≠ 2 ^ sp.length) : slB m ws S sp b (.list ds) = false := decide_eq_false fun ⟨ts, e, hL⟩ => h (by rw [e, <- hL.len]; exact E4 _)
open Classical in
theorem B3q {ts : List Tb} (h : O0 m ws S sp b ts) : slB m ws S sp b (.list (C6 ts)) = true := decide_eq_true ⟨ts, rfl, h⟩
open Classical in
theorem B83 {ts : List Tb} (h : ¬ O0 m ws S sp b ts) : slB m ws S sp b (.list (C6 ts)) = false := decide_eq_false fun ⟨us, e, hL⟩ => by
 cases C90 e
 exact h hL
def B3r (S : Int) (sp : List Sp2) (b : Tb) (ts : List Tb) (s : Nat) : Prop := (s = 0 -> leT b (tbs ts s)) /\ ∀ k q, sp[k]? = some q -> sIn s k = true -> leO (lvG S ts (s - 2 ^ k) q) (gt (tbs ts s) q.1)
open Classical in
noncomputable def cvB (S : Int) (sp : List Sp2) (b : Tb) (ts : List Tb) (s : Nat) : Bool := decide (B3r S sp b ts s)
theorem C92 {ts : List Tb} {s : Nat} {c : Tb} (B : j1 m S sp ts b s c) : leT c (tbs ts s) ↔ B3r S sp b ts s := by
 rcases B with ⟨rfl, rfl⟩ | ⟨hs, B⟩
 ·refine ⟨fun h => ⟨fun _ => h, fun k q hq hk => ?_⟩, fun h => h.1 rfl⟩
  have := B8z hk; omega
 ·refine ⟨fun h => ⟨fun z => by omega, fun k q hq hk => Y4 (B.up k (B8y (A4m hq) hk) q hq) (h _)⟩, fun h => B.le _ fun k hk q hq => h.2 k q hq (A71 hk).2⟩
open Classical in
theorem C93 {ts : List Tb} {s : Nat} {c : Tb} (B : j1 m S sp ts b s c) (hl : (tbs ts s).length = c.length) : A8t (tbs ts s) c = cvB S sp b ts s := by
 unfold cvB
 rw [A75, B7l hl, decide_eq_true_iff]
 exact C92 B
theorem B0u {ts : List Tb} (hl : ts.length = 2 ^ sp.length) (hT : ∀ t ∈ ts, D1 m S t) : O0 m ws S sp b ts ↔ (∀ t ∈ ts, O9 ws S t) /\ ∀ s, s < ts.length -> B3r S sp b ts s := by
 refine ⟨fun h => ⟨h.cl, fun s hs => ⟨fun z => by subst z; exact h.b0, h.use s hs⟩⟩, fun ⟨h1, h2⟩ => ⟨hl, hT, h1, (h2 0 (by rw [hl]; exact X3 _)).1 rfl, fun s hs => (h2 s hs).2⟩⟩
open Classical in
theorem C94 {ts : List Tb} (hl : ts.length = 2 ^ sp.length) (hT : ∀ t ∈ ts, D1 m S t) : slB m ws S sp b (.list (C6 ts)) = (ts.all (fun t => Y5 ws S t t) && ts.zipIdx.all fun p => cvB S sp b ts p.2) := by
 cases e : (ts.all (fun t => Y5 ws S t t) && ts.zipIdx.all fun p => cvB S sp b ts p.2) with
 | true =>
  rw [P7, o9 (p := fun t => Y5 ws S t t), o9 (p := fun p : Tb × Nat => cvB S sp b ts p.2)] at e
  refine B3q ((B0u hl hT).mpr ⟨fun t ht => B25.mp (e.1 t ht), fun s hs => ?_⟩)
  exact of_decide_eq_true (e.2 (tbs ts s, s) (A88.mpr (d4 hs)))
 | false =>
  refine B83 fun h => ?_
  obtain ⟨h1, h2⟩ := (B0u hl hT).mp h
  have : (ts.all (fun t => Y5 ws S t t) && ts.zipIdx.all fun p => cvB S sp b ts p.2) = true := by
   rw [P7, o9 (p := fun t => Y5 ws S t t), o9 (p := fun p : Tb × Nat => cvB S sp b ts p.2)]
   refine ⟨fun t ht => B25.mpr (h1 t ht), fun p hp => ?_⟩
   have e := A88.mp hp
   have hl : p.2 < ts.length := by
    rcases P8 p.2 ts.length with c | c
    ·exact c
    ·rw [U5 c] at e; cases e
   exact decide_eq_true (h2 p.2 hl)
  rw [this] at e
  cases e
end
theorem C95 {ts : List Tb} : Y3 (C6 ts) = ts.zipIdx.map fun p => .tuple [.int ((p.2 : Nat) : Int), .list (A3 p.1)] := by
 unfold Y3 C6
 rw [List.zipIdx_map, j5]
 rfl
theorem C96 {ts : List Tb} {p : Tb × Nat} (h : p ∈ ts.zipIdx) : p.2 < ts.length /\ p.1 = tbs ts p.2 := by
 have e := A88.mp h
 have hl : p.2 < ts.length := by
  rcases P8 p.2 ts.length with c | c
  ·exact c
  ·rw [U5 c] at e; cases e
 refine ⟨hl, ?_⟩
 rw [d4 hl] at e
 exact (Option.some.inj e).symm
theorem B84 : ∀ k, k < 4 -> ∀ s, s < 16 -> (((s : Nat) : Int) / ((2 ^ k : Nat) : Int) % 2 == 0) = !sIn s k := by decide
def C97 : DSp := fun ds Q => ∃ (m : Nat) (S : Int) (d : PyData), ds = [.int (m : Nat), .int S, d] /\ ThS d /\ Q (.bool (B0r m S d))
def B85 : DSp := fun ds Q => ∃ (m : Nat) (ws : List Wy) (S : Int) (sp : List Sp2) (b : Tb) (d : PyData), ds = [D4 m ws, .int S, .list (sp.map J0), .list (A3 b), d] /\ L1 m ws /\ 0 <= S /\ A4l m sp /\ D1 m S b /\ ThS d /\ Q (.bool (slB m ws S sp b d))
section
variable {P : Program} {w : World} {K : A4} {mg : Str -> Option Value} {base : Heap}
theorem C98 (T : Txt K mg) : D3 P w K mg base CX0 4 T.a_are_tables T.d_are_tables ["many", "store", "thing"] (spD [.sh, .sh, .sh] C97) := by
 have G_is_table := @C9f P w K mg base T
 have b_is_table := C5w T
 refine G5 T.F_are_tables C44 rfl (fun C cdv A outer s H E hr => ⟨_, (@B2 _ _ _ _ (@D0 _ _ _ _ _ (@A04 _ _ _ _ _ _ _ _ (v6 A9z (F9 u8 rfl T.n_isinstance t9 (C3 (pv 2) (C3 (r8 (v := V.ty "list") rfl T.n_list W6 rfl) D6 A0) A0) (he := A0) (hpl := (A5 A0 A6)))) (@Z7 _ _ _ _ _ _ (@P2 _ _ _ _ _ _ A5c (@F9 _ _ _ _ _ _ _ _ _ (A44 rfl) rfl T.n_all A45 (@A8 _ _ _ _ _ _ (@D9 _ _ _ _ (@W9 _ _ _ _ _ _ _ _ rfl (@V5 _ _ _ _ _ _ _ _ _ _ _ _ _ _ _ (M3.new (N := ["many", "store", "thing"]) (osc := A7 A35) (by decide +kernel)) rfl (T2 (pv 2)) (fun _ => P3) (fun _ => (C1 (B6 G_is_table (hr.mono (by decide)) rfl T.mg_is_table T.kp_is_table b_is_table .nil B7 (A2 (A1 (pv 0)) (A2 (A1 (pv 1)) (A2 (A1 (pv 3)) C0 A0) A0) A0) (he := A0) (hpl := (A5 A0 (A5 A0 A6)))))) (by rfl) (by rfl) (by intro _; rfl)))) C5 S5) (by decide) (by decide) S5 A6)))))), fun ds Q hl h => ?_⟩)
 obtain ⟨m, S, d, rfl, hT, q⟩ := h
 cases d with
 | list ds =>
  obtain ⟨l1, l2⟩ := hT ds rfl
  array_mem_dec
  (try rw [if_pos (by decide)])
  refine ⟨⟨rfl, by omega⟩, ?_⟩
  rw [show ds = ds.map id by simp]
  refine V7 (f := fun d => .bool (R9 m S d)) (fun d hd Q' q' => ?_) ?_
  ·left
   exact ⟨m, S, _, rfl, l2 d hd, q'⟩
  rw [M0]
  (try unfold gBs)
  left
  rw [A0h]
  left
  rw [A4k]
  exact q
 | _ =>
  array_mem_dec
  exact q
theorem C99 (T : Txt K mg) : D3 P w K mg base CX0 5 T.a_is_spring_lid T.d_is_spring_lid ["land", "store", "springs", "base", "tables"] (spD [.sh, .sh, .sh, .sh, .sh] B85) := by
 have G_are_tables := @C98 P w K mg base T
 have b_are_tables := C5x T
 have G_alone := @B0t P w K mg base T
 have b_alone := B0m T
 have G_is_closed := @C9k P w K mg base T
 have b_is_closed := C6e T
 have G_covers := @C9i P w K mg base T
 have b_covers := C6c T
 have G_base_by := @B80 P w K mg base T
 have b_base_by := B73 T
 refine G5 T.F_is_spring_lid C5f rfl (fun C cdv A outer s H E hr => ⟨_, (@C9 _ _ _ _ _ _ (@O7 _ _ _ _ (@J3 _ _ _ _ _ _ _ _ _ (PW.pt (@W7 _ _ _ _ _ _ _ _ (g5 (U9 (C1 (B6 G_are_tables (hr.mono (by decide)) rfl T.mg_are_tables T.kp_are_tables b_are_tables .nil B7 (A2 (B9 (pv 0) (E9 (E6 (v := V.int 0) rfl T.mg_MANY ⟨_, rfl⟩)) (fun _ _ => rfl)) (A2 (A1 (pv 1)) (A2 (A1 (pv 4)) C0 A0) A0) C2) (he := C2) (hpl := (A5 A0 (A5 A0 A6))))))) (@Y2 _ _ _ _ _ (@F8 _ _ _ _ _ _ _ _ _ _ (t8 (Q3 hr)) Q0 (S6 (F9 N6 rfl T.n_len N7 (C3 (pv 4) D6 A0) (he := A0) (hpl := A6))) (C1 (B6 G_alone (hr.mono (by decide)) rfl T.mg_alone T.kp_alone b_alone .nil B7 (A2 (S6 (F9 N6 rfl T.n_len N7 (C3 (pv 2) D6 A0) (he := A0) (hpl := A6))) C0 E3) (he := E3) (hpl := A6))) (D2 _))))) (B2 (D0 O6)) J2)) (@C9 _ _ _ _ _ _ (@O7 _ _ _ _ (@J3 _ _ _ _ _ _ _ _ _ (@g5 _ _ _ _ _ (@U9 _ _ _ _ (@P2 _ _ _ _ _ _ A5c (@F9 _ _ _ _ _ _ _ _ _ (A44 rfl) rfl T.n_all A45 (@A8 _ _ _ _ _ _ (@D9 _ _ _ _ (@W9 _ _ _ _ _ _ _ _ rfl (@V5 _ _ _ _ _ _ _ _ _ _ _ _ _ _ _ (M3.new (N := ["land", "store", "springs", "base", "tables"]) (osc := A7 A1s) (by decide +kernel)) rfl (T2 (pv 4)) (fun _ => P3) (fun _ => (C1 (B6 G_is_closed (hr.mono (by decide)) rfl T.mg_is_closed T.kp_is_closed b_is_closed .nil B7 (A2 (A1 (pv 0)) (A2 (A1 (pv 1)) (A2 (A1 (pv 5)) C0 A0) A0) A0) (he := A0) (hpl := (A5 A0 (A5 A0 A6)))))) (by rfl) (by rfl) (by intro _; rfl)))) C5 S5) (by decide) (by decide) S5 A6)) (by intro _; rfl))) (B2 (D0 O6)) J2)) (@B2 _ _ _ _ (@D0 _ _ _ _ _ (@P2 _ _ _ _ _ _ A5c (@F9 _ _ _ _ _ _ _ _ _ (A44 rfl) rfl T.n_all A45 (@A8 _ _ _ _ _ _ (@D9 _ _ _ _ (@B6u _ _ _ _ _ _ _ (@B5s _ _ _ _ _ _ _ _ _ _ _ _ _ _ _ _ _ _ (A19.new (N := ["land", "store", "springs", "base", "tables"]) (osc := A7 A1s) (by decide +kernel)) rfl (B2k (B12 rfl T.n_enumerate (C3 (A1 (pv 4)) D6 A0))) (fun _ => P3) (fun _ => (@C1 _ _ _ _ _ _ _ (@B6 _ _ _ _ _ _ _ _ _ _ _ _ _ _ _ _ G_covers (hr.mono (by decide)) rfl T.mg_covers T.kp_covers b_covers .nil B7 (@A2 _ _ _ _ _ _ (A1 (pv 6)) (A2 (C1 (B6 G_base_by (hr.mono (by decide)) rfl T.mg_base_by T.kp_base_by b_base_by .nil B7 (A2 (A1 (pv 1)) (A2 (A1 (pv 2)) (J7 (pv 4) (A2 (A1 (pv 3)) (A2 (A1 (pv 5)) C0 A0) A0) A0) A0) A0) (he := A0) (hpl := (A5 A0 (A5 A0 (A5 A0 (A5 A0 A6))))))) C0 E3) A0) (by decide) A0 ((A5 E3 A6))))) (by rfl) (by rfl) (by intro _; rfl)))) C5 S5) (by decide) (by decide) S5 A6)))))), fun ds Q hl h => ?_⟩)
 obtain ⟨m, ws, S, sp, b, d, rfl, ok, s0, so, hb, hT, q⟩ := h
 have m2 := ok.m2
 have few := so.few
 have p16 := pw4 sp.length (by omega)
 have pp := X3 sp.length
 (try unfold L8); (try unfold P4)
 refine ⟨fun ρ' => ρ' = [Sl.sh (D4 m ws), Sl.sh (.int S), Sl.sh (.list (sp.map J0)), Sl.sh (.list (A3 b)), Sl.sh d] /\ ∃ ts, d = .list (C6 ts) /\ ts.length = 2 ^ sp.length /\ ∀ t ∈ ts, D1 m S t, ?_, ?_⟩
 ·right
  refine ⟨m, S, d, rfl, hT, ?_⟩
  cases eR : B0r m S d with
  | false =>
   rw [B82 eR] at q
   left
   exact q
  | true =>
   cases d with
   | list ds =>
    obtain ⟨ts, rfl, hts⟩ := B3i (ds := ds) eR
    left
    rw [if_neg (by decide), E4]
    refine ⟨sp.length, rfl, by omega, ?_⟩
    left
    refine ⟨rfl, rfl, T6 _ _, ?_⟩
    rw [T7, show (tbL ts).length = ts.length from E4 _]
    by_cases e : ts.length = 2 ^ sp.length
    ·rw [e, beq_self_eq_true]
     left
     rw [if_neg (by decide)]
     exact ⟨rfl, ts, rfl, e, hts⟩
    ·rw [show (((ts.length : Nat) : Int) == ((2 ^ sp.length : Nat) : Int)) = false from beq_eq_false_iff_ne.mpr (by omega)]
     left
     rw [B3p (by rw [show (tbL ts).length = ts.length from E4 _]; exact e)] at q
     exact q
   | _ => cases eR
 rintro ρ ⟨rfl, ts, rfl, tl, hts⟩
 rw [C94 tl hts] at q
 try dsimp only
 refine go ?_
 (try unfold L8); (try unfold P4)
 refine ⟨fun ρ' => ρ' = [Sl.sh (D4 m ws), Sl.sh (.int S), Sl.sh (.list (sp.map J0)), Sl.sh (.list (A3 b)), Sl.sh (.list (C6 ts))] /\ ts.all (fun t => Y5 ws S t t) = true, ?_, ?_⟩
 ·array_mem_dec
  refine ⟨⟨rfl, by rw [V9]; omega⟩, ?_⟩
  rw [show C6 ts = ts.map fun t => PyData.list (A3 t) from rfl]
  refine V7 (f := fun t => .bool (Y5 ws S t t)) (fun t ht Q' q' => ?_) ?_
  ·left
   exact ⟨m, ws, S, t, rfl, ok, (hts t ht).len, q'⟩
  rw [M0]
  (try unfold gBs)
  left
  rw [A0h]
  left
  rw [A4k]
  cases e : ts.all (fun t => Y5 ws S t t) with
  | false =>
   rw [e] at q
   left
   exact q
  | true =>
   left
   rw [if_neg (by decide)]
   exact ⟨rfl, rfl⟩
 rintro ρ ⟨rfl, eW⟩
 rw [eW, A9j] at q
 try dsimp only
 refine go ?_
 array_mem_dec
 rw [C95]
 refine ⟨by rw [E4, B9o]; omega, ?_⟩
 refine B2s (g1 := fun p : Tb × Nat => .int ((p.2 : Nat) : Int)) (g2 := fun p => .list (A3 p.1)) (f := fun p => .bool (cvB S sp b ts p.2)) (fun p hp Q' q' => ?_) ?_
 ·obtain ⟨h1, h2⟩ := C96 hp
  have tp := (hts _ (Q4 h1)).len
  left
  refine ⟨rfl, m, S, sp, ts, b, p.2, rfl, so, s0, hb, by omega, by rw [<- tl]; exact h1, A0j h1, hts, fun c B => ?_⟩
  left
  have cl := (B.tab hb).len
  refine ⟨p.1, c, rfl, by rw [h2, tp, cl], by rw [h2, tp]; omega, ?_⟩
  rw [h2, C93 B (by rw [tp, cl])]
  rw [h2] at q'
  exact q'
 rw [M0]
 (try unfold gBs)
 left
 rw [A0h]
 left
 rw [A4k]
 exact q
end
open Classical in
theorem D0a {m : Nat} {ws : List Wy} {S : Int} {sp : List Sp2} {b : Tb} {ds : List PyData} (h : slB m ws S sp b (.list ds) = true) : ∃ ts, ds = C6 ts /\ O0 m ws S sp b ts := of_decide_eq_true h
open Classical in
theorem D0b {m : Nat} {ws : List Wy} {S : Int} {b : Tb} {d : PyData} (h : o7 m ws S b d = true) : ∃ t, d = .list (A3 t) /\ D1 m S t /\ leT b t /\ O9 ws S t := of_decide_eq_true h
theorem B86 : ∀ n, n < 5 -> ∀ k, k < n -> ∀ s, s < 2 ^ n -> sIn s k = true -> sIn (s - 2 ^ k) k = false /\ s - 2 ^ k < 2 ^ n := by decide
section
variable {P : Program} {w : World} {K : A4} {mg : Str -> Option Value} {base : Heap}
theorem D0c (T : Txt K mg) : D3 P w K mg base CX0 4 T.a_law_is_spring_lid T.d_law_is_spring_lid ["_law_land_here", "_law_store_here", "_law_springs_here", "_law_base", "_law_tables"] (spD [.sh, .sh, .sh, .sh, .sh] B85) := by
 have G_is_lid := @C9l P w K mg base T
 have b_is_lid := C6q T
 refine G5 T.F_law_is_spring_lid A0f rfl (fun C cdv A outer s H E hr => ⟨_, (@C9 _ _ _ _ _ _ (@O7 _ _ _ _ (@J3 _ _ _ _ _ _ _ _ _ (PW.pt (@W7 _ _ _ _ _ _ _ _ (g5 (U9 (v6 A9z (F9 u8 rfl T.n_isinstance t9 (C3 (pv 4) (C3 (r8 (v := V.ty "list") rfl T.n_list W6 rfl) D6 A0) A0) (he := A0) (hpl := (A5 A0 A6)))))) (Y2 (F8 (t8 (Q3 hr)) Q0 (S6 (F9 N6 rfl T.n_len N7 (C3 (pv 4) D6 A0) (he := A0) (hpl := A6))) (F2 A4z A59 B1 (S6 (F9 N6 rfl T.n_len N7 (C3 (pv 2) D6 A0) (he := A0) (hpl := A6)))) (D2 _))))) (B2 (D0 O6)) J2)) (@C9 _ _ _ _ _ _ (@O7 _ _ _ _ (@P5 _ _ _ _ _ _ (@P0 _ _ _ _ _ _ _ _ N4 rfl (U2 (T8 rfl T.n_range (A8 (S6 (F9 N6 rfl T.n_len N7 (C3 (pv 4) D6 A0) (he := A0) (hpl := A6))) C5 E3))) (T3 (K3 (i := 5) A0f.nd rfl (B3 rfl))) (@C9 _ _ _ _ _ _ (E1 (C8 (i := 6) A0f.nd rfl (B3 rfl) (A1 (pv 3)))) (@C9 _ _ _ _ _ _ (@O7 _ _ _ _ (@J3 _ _ _ _ _ _ _ _ _ (F8 A0x A2o (A1 (pv 5)) B1 (D2 _)) (B2 (A92 rfl (A17 (i := 6) A0f.nd rfl (B3 rfl) (M3.new (N := ["_law_land_here", "_law_store_here", "_law_springs_here", "_law_base", "_law_tables", "_law_some", "_law_begun", "_law_k", "_law_place", "_law_gift", "_law_behind"]) (osc := A7 A4e) (by decide +kernel)) rfl (T2 (pv 3)) (fun _ => P3) (fun _ => J6)))) J2)) (@B2 _ _ _ _ (@J3 _ _ _ _ _ _ _ _ _ (g5 (U9 (C1 (B6 G_is_lid (hr.mono (by decide)) rfl T.mg_is_lid T.kp_is_lid b_is_lid .nil B7 (A2 (A1 (pv 0)) (A2 (A1 (pv 1)) (A2 (A1 (pv 6)) (A2 (B9 (pv 4) (A1 (pv 5)) (fun _ _ => rfl)) C0 C2) A0) A0) A0) (he := A0) (hpl := (A5 A0 (A5 A0 (A5 C2 A6)))))))) (B2 (D0 O6)) J2)))) (by intro _; rfl)))) (@C9 _ _ _ _ _ _ (@O7 _ _ _ _ (@P5 _ _ _ _ _ _ (@P0 _ _ _ _ _ _ _ _ N4 rfl (U2 (T8 rfl T.n_range (A8 (S6 (F9 N6 rfl T.n_len N7 (C3 (pv 4) D6 A0) (he := A0) (hpl := A6))) C5 E3))) (T3 (K3 (i := 5) A0f.nd rfl (B3 rfl))) (@B2 _ _ _ _ (@P5 _ _ _ _ _ _ (@P0 _ _ _ _ _ _ _ _ N4 rfl (U2 (T8 rfl T.n_range (A8 (S6 (F9 N6 rfl T.n_len N7 (C3 (pv 2) D6 A0) (he := A0) (hpl := A6))) C5 E3))) (T3 (K3 (i := 7) A0f.nd rfl (B3 rfl))) (@C9 _ _ _ _ _ _ (B2n (S9 (B9 (pv 2) (A1 (pv 7)) (fun _ _ => rfl)) (A93 (A0q (n := 2) rfl (S3 (K3 (i := 8) A0f.nd rfl (B3 rfl)) (S3 (K3 (i := 9) A0f.nd rfl (B3 rfl)) A0p)))))) (@B2 _ _ _ _ (@J3 _ _ _ _ _ _ _ _ _ (PW.pt (A49 (F8 (Z5 (Q3 hr)) Q0 (F2 d9 B2a (F2 A8j A9w (A1 (pv 5)) (F2 A4z A59 B1 (A1 (pv 7)))) B1) B1 (D2 _)) (A48 (F8 e9 v4 (K7 (B9 (pv 4) (A1 (pv 5)) (fun _ _ => rfl)) (A1 (pv 8)) (fun _ _ => rfl)) J6 (D2 _))))) (@C9 _ _ _ _ _ _ (E1 (C8 (i := 10) A0f.nd rfl (B3 rfl) (K7 (B9 (pv 4) (F2 K6 M4 (A1 (pv 5)) (F2 A4z A59 B1 (A1 (pv 7)))) (fun _ _ => rfl)) (A1 (pv 8)) (fun _ _ => rfl)))) (@B2 _ _ _ _ (@J3 _ _ _ _ _ _ _ _ _ (PW.pt (@W7 _ _ _ _ _ _ _ _ (F8 U0 V0 (A1 (pv 10)) J6 (D2 _)) (Y2 (F8 X7 m5 (A1 (pv 10)) (P2 A07 (F9 (A0z rfl) rfl T.n_min A02 (A8 (A1 (pv 1)) (A8 (F2 K6 M4 (K7 (B9 (pv 4) (A1 (pv 5)) (fun _ _ => rfl)) (A1 (pv 8)) (fun _ _ => rfl)) (A1 (pv 9))) C5 J1) A0) (he := A0) (hpl := (A5 J1 A6)))) (D2 _))))) (B2 (D0 O6)) J2))) J2))) (by intro _; rfl)))) (by intro _; rfl)))) (B2 (D0 O6))))), fun ds Q hl h => ?_⟩)
 obtain ⟨m, ws, st, sp, b, d, rfl, ok, s0, so, hb, hT, q⟩ := h
 have m1 := ok.m1
 have m2 := ok.m2
 have few := so.few
 have p16 := pw4 sp.length (by omega)
 have pp := X3 sp.length
 have bl := hb.len
 (try unfold L8); (try unfold P4)
 refine ⟨fun ρ' => ∃ ds, d = .list ds /\ ds.length = 2 ^ sp.length /\ ρ' = [Sl.sh (D4 m ws), Sl.sh (.int st), Sl.sh (.list (sp.map J0)), Sl.sh (.list (A3 b)), Sl.sh (.list ds), .no, .no, .no, .no, .no, .no], ?_, ?_⟩
 ·cases d with
  | list ds =>
   left
   rw [if_neg (by decide), E4]
   refine ⟨⟨by omega, by omega, by decide⟩, rfl, rfl, T6 _ _, ?_⟩
   rw [T7, show (1 : Int) * 2 ^ (((sp.length : Nat) : Int)).toNat = ((2 ^ sp.length : Nat) : Int) by rw [Int.one_mul, Z1, B39]; rfl]
   by_cases e : ds.length = 2 ^ sp.length
   ·rw [e, beq_self_eq_true]
    exact L4 ⟨ds, rfl, e, rfl⟩
   ·rw [show (((ds.length : Nat) : Int) == ((2 ^ sp.length : Nat) : Int)) = false from beq_eq_false_iff_ne.mpr (by omega)]
    rw [B3p e] at q
    exact M2 q
  | _ =>
   left
   rw [if_pos (by decide)]
   exact q
 rintro ρ ⟨ds, rfl, tl, rfl⟩
 obtain ⟨l1, l2⟩ := hT ds rfl
 have no : (∀ ts, ds = C6 ts -> ¬ O0 m ws st sp b ts) -> Q (.bool false) := fun z => by
  cases e : slB m ws st sp b (.list ds) with
  | false => rw [e] at q; exact q
  | true =>
   obtain ⟨ts, e1, e2⟩ := D0a e
   exact absurd e2 (z ts e1)
 try dsimp only
 refine go ?_
 (try unfold L8); (try unfold P4)
 refine ⟨fun ρ' => (∀ s, s < ds.length -> ∃ t, ds[s]? = some (.list (A3 t)) /\ D1 m st t /\ O9 ws st t /\ (s = 0 -> leT b t)) /\ ∃ z5 z6 : Sl, ρ' = [Sl.sh (D4 m ws), Sl.sh (.int st), Sl.sh (.list (sp.map J0)), Sl.sh (.list (A3 b)), Sl.sh (.list ds), z5, z6, .no, .no, .no, .no], ?_, ?_⟩
 ·array_get_dec
  refine ⟨⟨by omega, by omega⟩, ?_⟩
  rw [Z1]
  refine ⟨fun r ρ => ∃ (k : Nat) (z5 z6 : Sl), r = (G7 0 ds.length).drop k /\ (∀ s, s < k -> ∃ t, ds[s]? = some (.list (A3 t)) /\ D1 m st t /\ O9 ws st t /\ (s = 0 -> leT b t)) /\ ρ = [Sl.sh (D4 m ws), Sl.sh (.int st), Sl.sh (.list (sp.map J0)), Sl.sh (.list (A3 b)), Sl.sh (.list ds), z5, z6, .no, .no, .no, .no], ⟨0, _, _, rfl, (fun s h => absurd h (A4t _)), rfl⟩, ?_, ?_⟩
  ·rintro x r ρ ⟨k, z5, z6, h1, hK, rfl⟩
   obtain ⟨rfl, rfl, hk⟩ := A0g h1
   obtain ⟨y, hy⟩ : ∃ y, ds[k]? = some y := ⟨_, J5 hk⟩
   sizeOf_list_dec
   refine go ?_
   (try unfold L8); (try unfold P4)
   refine ⟨fun ρ' => ∃ c : Tb, D1 m st c /\ (k = 0 -> c = b) /\ (0 < k -> c = D8 m none) /\ ρ' = [Sl.sh (D4 m ws), Sl.sh (.int st), Sl.sh (.list (sp.map J0)), Sl.sh (.list (A3 b)), Sl.sh (.list ds), Sl.sh (.int (k : Nat)), Sl.sh (.list (A3 c)), .no, .no, .no, .no], ?_, ?_⟩
   ·array_mem_dec
    by_cases c : 0 < k
    ·rw [decide_eq_true (show (0 : Int) < ((k : Nat) : Int) by omega)]
     array_mem_dec
     refine ⟨⟨rfl, by rw [N2]; omega⟩, ?_⟩
     rw [show A3 b = b.map oD from rfl]
     refine V7 (f := fun _ => .none) (fun o ho Q' q' => ?_) ?_
     ·left
      exact q'
     rw [C80 bl]
     exact ⟨_, B8w, fun z => by omega, fun _ => rfl, rfl⟩
    ·rw [decide_eq_false (show ¬ (0 : Int) < ((k : Nat) : Int) by omega)]
     left
     exact ⟨b, hb, fun _ => rfl, fun z => absurd z c, rfl⟩
   rintro ρ ⟨c, hc, hc0, hc1, rfl⟩
   refine go ?_; left
   rw [W5 hy]
   left
   refine ⟨m, ws, st, c, y, rfl, ok, hc, fun rs e => l2 y (N3 hy) rs e, ?_⟩
   cases eL : o7 m ws st c y with
   | false =>
    refine M2 (no fun ts e hL => ?_)
    have hk2 : k < ts.length := by rw [hL.len, <- tl]; exact hk
    have ey : y = .list (A3 (tbs ts k)) := by
     rw [e] at hy
     unfold C6 at hy
     rw [N1, d4 hk2] at hy
     exact (Option.some.inj hy).symm
    rw [ey, B3k (hL.tab _ (Q4 hk2)) ?_ (hL.cl _ (Q4 hk2))] at eL
    ·cases eL
    ·rcases Nat.eq_zero_or_pos k with z | z
     ·rw [hc0 z, z]; exact hL.b0
     ·rw [hc1 z]; exact fun p => by rw [A3n]; exact X0
   | true =>
    obtain ⟨t, e, ht, hle, hcl⟩ := D0b eL
    refine L4 ⟨k + 1, _, _, rfl, fun s hs => ?_, rfl⟩
    rcases P8 s k with z | z
    ·exact hK s z
    ·have : s = k := by omega
     subst this
     exact ⟨t, by rw [hy, e], ht, hcl, fun z => by rw [<- hc0 z]; exact hle⟩
  ·rintro ρ ⟨k, z5, z6, h1, hK, rfl⟩
   have := A1y h1
   exact ⟨fun s hs => hK s (by omega), z5, z6, rfl⟩
 rintro ρ ⟨hA, z5, z6, rfl⟩
 obtain ⟨ts, rfl, hts⟩ : ∃ ts, ds = C6 ts /\ ∀ t ∈ ts, D1 m st t := B3i (o9.mpr fun d hd => by
  obtain ⟨s, hs, e⟩ := p5.mp hd
  obtain ⟨t, e2, ht, _⟩ := hA s hs
  rw [J5 hs, e] at e2
  cases e2
  exact B3h ht)
 rw [V9] at tl
 have hA2 : ∀ s, s < ts.length -> O9 ws st (tbs ts s) /\ (s = 0 -> leT b (tbs ts s)) := fun s hs => by
  obtain ⟨t, e2, ht, hcl, h0⟩ := hA s (by rw [V9]; exact hs)
  unfold C6 at e2
  rw [N1, d4 hs] at e2
  have := B3j (PyData.list.inj (Option.some.inj e2))
  rw [this]
  exact ⟨hcl, h0⟩
 have no2 : ¬ O0 m ws st sp b ts -> Q (.bool false) := fun z => by rw [B83 z] at q; exact q
 try dsimp only
 refine go ?_
 (try unfold L8); (try unfold P4)
 refine ⟨fun _ => ∀ s, s < ts.length -> ∀ k p, sp[k]? = some p -> sIn s k = false -> leO (lvG st ts s p) (gt (tbs ts (s + 2 ^ k)) p.1), ?_, fun ρ hU => ?_⟩
 ·array_get_dec
  rw [V9]
  refine ⟨⟨by omega, by omega⟩, ?_⟩
  rw [Z1]
  refine ⟨fun r ρ => ∃ (s : Nat) (z5 z7 z8 z9 z10 : Sl), r = (G7 0 ts.length).drop s /\ (∀ s', s' < s -> ∀ k p, sp[k]? = some p -> sIn s' k = false -> leO (lvG st ts s' p) (gt (tbs ts (s' + 2 ^ k)) p.1)) /\ ρ = [Sl.sh (D4 m ws), Sl.sh (.int st), Sl.sh (.list (sp.map J0)), Sl.sh (.list (A3 b)), Sl.sh (.list (C6 ts)), z5, z6, z7, z8, z9, z10], ⟨0, _, _, _, _, _, rfl, (fun s h => absurd h (A4t _)), rfl⟩, ?_, ?_⟩
  ·rintro x r ρ ⟨s, z5, z7, z8, z9, z10, h1, hS, rfl⟩
   obtain ⟨rfl, rfl, hs⟩ := A0g h1
   have tsl := (hts _ (Q4 hs)).len
   sizeOf_list_dec
   array_get_dec
   rw [E4]
   refine ⟨⟨by omega, by omega⟩, ?_⟩
   rw [Z1]
   refine ⟨fun r ρ => ∃ (k : Nat) (z7 z8 z9 z10 : Sl), r = (G7 0 sp.length).drop k /\ (∀ k', k' < k -> ∀ p, sp[k']? = some p -> sIn s k' = false -> leO (lvG st ts s p) (gt (tbs ts (s + 2 ^ k')) p.1)) /\ ρ = [Sl.sh (D4 m ws), Sl.sh (.int st), Sl.sh (.list (sp.map J0)), Sl.sh (.list (A3 b)), Sl.sh (.list (C6 ts)), Sl.sh (.int (s : Nat)), z6, z7, z8, z9, z10], ⟨0, _, _, _, _, rfl, (fun s h => absurd h (A4t _)), rfl⟩, ?_, ?_⟩
   ·rintro x r ρ ⟨k, z7, z8, z9, z10, h1, hK, rfl⟩
    obtain ⟨rfl, rfl, hk⟩ := A0g h1
    obtain ⟨p, hp⟩ := B3o hk
    have hpm := so.pl p (N3 hp)
    have hpg := so.gf p (N3 hp)
    have keep : ∀ y7 y8 y9 y10 : Sl, (sIn s k = false -> leO (lvG st ts s p) (gt (tbs ts (s + 2 ^ k)) p.1)) -> ∃ (k' : Nat) (x7 x8 x9 x10 : Sl), (G7 0 sp.length).drop (k + 1) = (G7 0 sp.length).drop k' /\ (∀ k'', k'' < k' -> ∀ p, sp[k'']? = some p -> sIn s k'' = false -> leO (lvG st ts s p) (gt (tbs ts (s + 2 ^ k'')) p.1)) /\ [Sl.sh (D4 m ws), Sl.sh (.int st), Sl.sh (.list (sp.map J0)), Sl.sh (.list (A3 b)), Sl.sh (.list (C6 ts)), Sl.sh (.int (s : Nat)), z6, y7, y8, y9, y10] = [Sl.sh (D4 m ws), Sl.sh (.int st), Sl.sh (.list (sp.map J0)), Sl.sh (.list (A3 b)), Sl.sh (.list (C6 ts)), Sl.sh (.int (s : Nat)), z6, x7, x8, x9, x10] := fun y7 y8 y9 y10 hh => ⟨k + 1, _, _, _, _, rfl, fun k'' hk'' p' hp' hi' => by
     rcases P8 k'' k with z | z
     ·exact hK k'' z p' hp' hi'
     ·have : k'' = k := by omega
      subst this
      rw [hp] at hp'
      cases hp'
      exact hh hi', rfl⟩
    sizeOf_list_dec
    rw [B0s hp]
    unfold J0
    left
    refine go ?_; left
    have e2 : (1 : Int) * 2 ^ (((k : Nat) : Int)).toNat = ((2 ^ k : Nat) : Int) := by rw [Int.one_mul, Z1, B39]; rfl
    have kp := X3 k
    have kp16 := pw4 k (by omega)
    rw [e2]
    refine ⟨⟨by omega, by omega, by decide⟩, ⟨by omega, by omega⟩, by decide, rfl, rfl, T6 _ _, ?_⟩
    rw [T7, B84 k (by omega) s (by omega)]
    cases hin : sIn s k with
    | true =>
     left
     exact keep _ _ _ _ fun z => by rw [hin] at z; cases z
    | false =>
     left
     obtain ⟨hb1, hb2⟩ := B3n sp.length (by omega) k hk s (by omega) hin
     have h3 : s + 2 ^ k < ts.length := by omega
     have hlv : lvG st ts s p = (gt (tbs ts s) p.1).bind fun x => G6 st x p.2 := rfl
     rw [A0i hs]
     left
     rw [R8 (by rw [tsl]; exact hpm)]
     cases ey : gt (tbs ts s) p.1 with
     | none =>
      rw [ey] at hlv
      right
      exact keep _ _ _ _ fun _ => by rw [hlv]; exact X0
     | some y =>
      rw [ey] at hlv
      right
      refine M2 (M2 ⟨⟨by omega, by omega, by decide⟩, ?_⟩)
      rw [show ((s : Nat) : Int) + ((2 ^ k : Nat) : Int) = ((s + 2 ^ k : Nat) : Int) by omega, A0i h3]
      left
      rw [R8 (by rw [(hts _ (Q4 h3)).len]; exact hpm)]
      have yb := (hts _ (Q4 hs)).bd _ _ ey
      have e4 : G6 st y p.2 = some (if st < y + p.2 then st else y + p.2) := by unfold G6; rw [if_neg (by omega)]
      have hlv : lvG st ts s p = some (if st < y + p.2 then st else y + p.2) := hlv.trans e4
      have bad : ¬ leO (lvG st ts s p) (gt (tbs ts (s + 2 ^ k)) p.1) -> Q (.bool false) := fun z => no2 fun hL => z (hL.next few hs hp hin).2
      cases ev : gt (tbs ts (s + 2 ^ k)) p.1 with
      | none =>
       right
       refine go ?_; left
       exact bad (by rw [hlv, ev]; exact i7)
      | some v =>
       right
       refine go ?_; left
       rw [A0i hs]
       left
       rw [R8 (by rw [tsl]; exact hpm), ey]
       right
       by_cases c : v < (if y + p.2 < st then y + p.2 else st)
       ·rw [decide_eq_true c]
        exact M2 (bad (by rw [hlv, ev]; exact fun z => by have := O8.mp z; split at c <;> split at this <;> omega))
       ·rw [decide_eq_false c]
        exact L4 (keep _ _ _ _ fun _ => by rw [hlv, ev]; exact O8.mpr (by split at c <;> split <;> omega))
   ·rintro ρ ⟨k, z7, z8, z9, z10, h1, hK, rfl⟩
    have := A1y h1
    refine ⟨s + 1, _, _, _, _, _, rfl, fun s' hs' k' p' hp' => ?_, rfl⟩
    rcases P8 s' s with z | z
    ·exact hS s' z k' p' hp'
    ·have : s' = s := by omega
     subst this
     exact hK k' (by have := A4m hp'; omega) p' hp'
  ·rintro ρ ⟨s, z5, z7, z8, z9, z10, h1, hS, rfl⟩
   have := A1y h1
   exact fun s' hs' => hS s' (by omega)
 ·refine go ?_; left
  have hL : O0 m ws st sp b ts := (B0u tl hts).mpr ⟨fun t ht => by
   obtain ⟨s, hs, rfl⟩ := A81 ht
   exact (hA2 s hs).1, fun s hs => ⟨(hA2 s hs).2, fun k p hp hk => by
    obtain ⟨h1, h2⟩ := B86 sp.length (by omega) k (A4m hp) s (by omega) hk
    have := hU (s - 2 ^ k) (by omega) k p hp h1
    have hle := A70 hk
    rw [Nat.sub_add_cancel hle] at this
    exact this⟩⟩
  rw [B3q hL] at q
  exact q
end
def W0 (ts : List Tb) (s p : Nat) (l : Option Int) : List Tb := ts.set s ((tbs ts s).set p l)
theorem B87 {ts : List Tb} {s p : Nat} {l : Option Int} : (W0 ts s p l).length = ts.length := L9 ..
theorem B88 {ts : List Tb} {s p : Nat} {l : Option Int} (hs : s < ts.length) (r : Nat) : tbs (W0 ts s p l) r = if s = r then (tbs ts s).set p l else tbs ts r := by
 unfold W0
 show ((ts.set s _)[r]?).getD [] = _
 rw [Z2]
 by_cases c : s = r
 ·subst c
  rw [if_pos rfl, if_pos rfl, if_pos hs]; rfl
 ·rw [if_neg c, if_neg c]; rfl
theorem B89 {m : Nat} {S : Int} {ts : List Tb} {s p : Nat} {x : Int} (hT : ∀ t ∈ ts, D1 m S t) (hs : s < ts.length) (hp : p < m) (x0 : 0 <= x) (x1 : x <= S) : ∀ t ∈ W0 ts s p (some x), D1 m S t := fun t ht => by
 rcases B38 ht with z | rfl
 ·exact hT t z
 ·have h := hT _ (Q4 hs)
  refine ⟨by rw [L9]; exact h.len, fun r y e => ?_⟩
  rw [i8 (by rw [h.len]; exact hp)] at e
  split at e
  ·cases e; exact ⟨x0, x1⟩
  ·exact h.bd r y e
def wtO (S : Int) : Option Int -> Nat
 | none => S.toNat + 1
 | some x => (S - x).toNat
def muT (S : Int) (t : Tb) : Nat := (t.map (wtO S)).sum
def muS (S : Int) (ts : List Tb) : Nat := (ts.map (muT S)).sum
theorem D0d {m : Nat} {S : Int} {ts : List Tb} {s p : Nat} {x : Int} (hT : ∀ t ∈ ts, D1 m S t) (hs : s < ts.length) (hp : p < m) (x0 : 0 <= x) (x1 : x <= S) (h : K8 (some x) (gt (tbs ts s) p) = true) : muS S (W0 ts s p (some x)) < muS S ts := by
 have tl := (hT _ (Q4 hs)).len
 have hp' : p < (tbs ts s).length := by rw [tl]; exact hp
 have e1 : ((tbs ts s).map (wtO S))[p]? = some (wtO S (gt (tbs ts s) p)) := by
  rw [N1, A3m hp']; rfl
 have w : wtO S (some x) < wtO S (gt (tbs ts s) p) := by
  cases e : gt (tbs ts s) p with
  | none => show (S - x).toNat < S.toNat + 1; omega
  | some y =>
   rw [e] at h
   have hy : y < x := by simpa [K8] using h
   show (S - x).toNat < (S - y).toNat
   omega
 have a := B24 (y := wtO S (some x)) e1
 have e2 : (ts.map (muT S))[s]? = some (muT S (tbs ts s)) := by rw [N1, d4 hs]; rfl
 have b := B24 (y := muT S ((tbs ts s).set p (some x))) e2
 have e3 : muT S ((tbs ts s).set p (some x)) + wtO S (gt (tbs ts s) p) = muT S (tbs ts s) + wtO S (some x) := by
  unfold muT
  rw [A8b]
  exact a
 have e4 : muS S (W0 ts s p (some x)) + muT S (tbs ts s) = muS S ts + muT S ((tbs ts s).set p (some x)) := by
  unfold muS W0
  rw [A8b]
  exact b
 omega
theorem B9a : ∀ t : Tb, X1 (A3 t) = true
 | [] => rfl
 | o :: t => by
  show (U3 (oD o) && X1 (A3 t)) = true
  rw [B9a t]
  cases o <;> rfl
theorem D0e (l x : Option Int) : B0c (oD l) (oD x) = K8 l x := by
 cases l with
 | none => rfl
 | some a =>
  cases x with
  | none => rfl
  | some y => show decide (y < a) = _; unfold K8; simp
theorem B9b (o : Option Int) : oiD (oD o) = true := by cases o <;> rfl
theorem A73 (ts : List Tb) : lls (ts.map A3) = C6 ts := by unfold lls C6; rw [j5]; rfl
theorem B3s {i : Nat} {ρ : List Sl} {te tp tl : DE} {Q : PyData -> List Sl -> Prop} {ts : List Tb} {s p : Nat} {l : Option Int} (ei : ρ[i]? = some (.o2 (ts.map A3))) (hn : L5 ρ = true) (hs : s < ts.length) (hp : p < (tbs ts s).length)
  (h1 : ∀ Q' : PyData -> List Sl -> Prop, Q' (.int ((s : Nat) : Int)) (ρ.set i (.bd (.list (C6 ts)))) -> te (ρ.set i (.bd (.list (C6 ts)))) Q')
  (h2 : ∀ Q' : PyData -> List Sl -> Prop, Q' (.int ((p : Nat) : Int)) (ρ.set i (.bd (.list (C6 ts)))) -> tp (ρ.set i (.bd (.list (C6 ts)))) Q')
  (h3 : ∀ Q' : PyData -> List Sl -> Prop, Q' (oD l) (ρ.set i (.bd (.list (C6 ts)))) -> tl (ρ.set i (.bd (.list (C6 ts)))) Q')
  (q : if K8 l (gt (tbs ts s) p) = true then Q (.bool true) (ρ.set i (.o2 ((W0 ts s p l).map A3))) else Q (.bool false) ρ) : B0d i te tp tl ρ Q := by
 unfold B0d
 rw [ei]
 dsimp only
 rw [A73]
 refine ⟨⟨hn, fun ds hd => ?_⟩, h1 _ ⟨rfl, _, s, A3 (tbs ts s), rfl, o0 (by rw [E4]; exact hs), by rw [N1, d4 hs]; rfl, h2 _ ⟨rfl, p, oD (gt (tbs ts s) p), rfl, ?_, B9b _, h3 _ ⟨rfl, B9b _, ?_⟩⟩⟩⟩
 ·obtain ⟨t, _, rfl⟩ := S2.mp hd
  exact B9a t
 ·unfold A3
  rw [N1, A3m hp]; rfl
 ·rw [D0e]
  have e : (ts.map A3).set s ((A3 (tbs ts s)).set p (oD l)) = (W0 ts s p l).map A3 := by
   unfold W0
   rw [A8b]
   congr 1
   unfold A3
   rw [A8b]
  rw [e]
  exact q
theorem B3t {α : Type} {tf : DF} {ρ : List Sl} {Q : List (List PyData) -> Prop} {g : α -> PyData} {f : α -> List PyData} : ∀ {xs : List α} {acc : List (List PyData)}, (∀ x ∈ xs, ∀ Q' : List PyData -> List Sl -> Prop, Q' (f x) (ρ ++ [.sh (g x)]) -> tf (ρ ++ [.sh (g x)]) Q') -> Q (acc ++ xs.map f) -> A8r tf ρ Q (xs.map g) acc
 | [], acc, _, q => by
  have q' : Q (acc ++ []) := q
  rw [d5] at q'
  exact q'
 | x :: r, acc, h, q => by
  refine h x B4 _ ⟨rfl, B3t (fun y hy => h y (A9 _ hy)) ?_⟩
  rw [j4]
  exact q
theorem D1k {a b : Option Int} (h : K8 a b = true) : leO b a := A97 h
theorem D0f {m : Nat} {S : Int} {b : Tb} {ts : List Tb} {s p : Nat} {l : Option Int} (hT : ∀ t ∈ ts, D1 m S t) (hs : s < ts.length) (hp : p < m) (h : K8 l (gt (tbs ts s) p) = true) (r : Nat) : leT (tbs ts r) (tbs (W0 ts s p l) r) := fun x => by
 rw [B88 hs]
 split
 ·rename_i e
  subst e
  rw [i8 (by rw [(hT _ (Q4 hs)).len]; exact hp)]
  split
  ·rename_i e; subst e; exact A97 h
  ·exact b6 _
 ·exact b6 _
structure Ris (m : Nat) (S : Int) (n : Nat) (b : Tb) (ts0 ts : List Tb) (fb : Bool) : Prop where
 len : ts.length = 2 ^ n
 tab : ∀ t ∈ ts, D1 m S t
 b0 : leT b (tbs ts 0)
 yes : fb = true -> muS S ts < muS S ts0
 no : fb = false -> ts = ts0
theorem Ris.put {m : Nat} {S : Int} {n : Nat} {b : Tb} {ts0 ts : List Tb} {fb : Bool} {s p : Nat} {x : Int} (h : Ris m S n b ts0 ts fb) (hs : s < ts.length) (hp : p < m) (x0 : 0 <= x) (x1 : x <= S) (hm : K8 (some x) (gt (tbs ts s) p) = true) : Ris m S n b ts0 (W0 ts s p (some x)) true := by
 refine ⟨by rw [B87]; exact h.len, B89 h.tab hs hp x0 x1, A98 h.b0 (D0f (b := b) h.tab hs hp hm 0), fun _ => ?_, fun z => by cases z⟩
 have a := D0d h.tab hs hp x0 x1 hm
 cases fb with
 | true => have := h.yes rfl; omega
 | false => rw [h.no rfl] at a ⊢; exact a
def OkS (ws : List Wy) (S : Int) (sp : List Sp2) (ts : List Tb) (s : Nat) : Prop := O9 ws S (tbs ts s) /\ ∀ k p, sp[k]? = some p -> sIn s k = false -> leO (lvG S ts s p) (gt (tbs ts (s + 2 ^ k)) p.1)
theorem D0g {m : Nat} {ws : List Wy} {S : Int} {sp : List Sp2} {b : Tb} {ts : List Tb} (hf : sp.length <= 4) (tl : ts.length = 2 ^ sp.length) (hT : ∀ t ∈ ts, D1 m S t) (b0 : leT b (tbs ts 0)) (h : ∀ s, s < ts.length -> OkS ws S sp ts s) : O0 m ws S sp b ts := (B0u tl hT).mpr ⟨fun t ht => by
  obtain ⟨s, hs, rfl⟩ := A81 ht
  exact (h s hs).1, fun s hs => ⟨fun z => by subst z; exact b0, fun k p hp hk => by
   obtain ⟨h1, h2⟩ := B86 sp.length (by omega) k (A4m hp) s (by omega) hk
   have := (h (s - 2 ^ k) (by omega)).2 k p hp h1
   have hle := A70 hk
   rw [Nat.sub_add_cancel hle] at this
   exact this⟩⟩
theorem D0h (o : Option Int) : U3 (oD o) = true := by cases o <;> rfl
def nbS : Sl -> Bool
 | .b2 _ => false
 | _ => true
theorem B3u : ∀ ρ : List Sl, L5 ρ = ρ.all nbS
 | [] => rfl
 | s :: r => by
  have ih := B3u r
  cases s <;> first | (show L5 r = (true && r.all nbS); rw [A9j]; exact ih) | rfl
def D0i : DSp := fun ds Q => ∃ (m : Nat) (ws : List Wy) (S : Int) (sp : List Sp2) (b : Tb) (ts : List Tb), ds = [D4 m ws, .int S, .list (sp.map J0), .list (A3 b), .list (C6 ts)] /\ L1 m ws /\ 0 <= S /\ A4l m sp /\ D1 m S b /\ ts.length = 2 ^ sp.length /\ (∀ t ∈ ts, D1 m S t) /\ ∀ us, O0 m ws S sp b us -> Q (.list (C6 us))
section
variable {P : Program} {w : World} {K : A4} {mg : Str -> Option Value} {base : Heap}
theorem D0j (T : Txt K mg) : D3 P w K mg base CX0 3 T.a_closed T.d_closed ["_law_land_here", "_law_store_here", "_law_springs_here", "_law_base", "_law_tables"] (spD [.sh, .sh, .sh, .sh, .sh] D0i) := by
 have G_lift : D3 P w K mg base CX0 2 T.a_lift T.d_lift ["_law_table_here", "_law_place", "_law_level"] B26 := C9z T
 have b_lift := C6s T
 have G_step := @B8v P w K mg base T
 have b_step := B77 T
 refine G5 T.F_closed X2 rfl (fun C cdv A outer s H E hr => ⟨_, (@C9 _ _ _ _ _ _ (@B60 _ _ _ _ _ _ _ _ rfl (@A17 _ _ _ _ _ _ _ _ _ _ _ _ _ 4 _ _ _ _ _ X2.nd rfl (B3 rfl) (M3.new (N := ["_law_land_here", "_law_store_here", "_law_springs_here", "_law_base", "_law_tables", "_law_place", "_law_moved", "_law_some", "_law_start", "_law_end", "_law_change_here", "_law_k", "_law_gift"]) (osc := A7 A4f) (by decide +kernel)) rfl (T2 (pv 4)) (fun _ => P3) (fun _ => (A09 (Y0 t6 rfl T.n_list W6 (C3 (pv 13) D6 A0) (he := A0) (hpl := A6)))) (by rfl) (by first | exact .inl rfl | exact .inr rfl | assumption) (by rfl) (by rfl) (by intro _; rfl))) (@C9 _ _ _ _ _ _ (@O7 _ _ _ _ (@P5 _ _ _ _ _ _ (@P0 _ _ _ _ _ _ _ _ N4 rfl (U2 (T8 rfl T.n_range (A8 (B9 (pv 0) B1 (fun _ _ => rfl)) C5 C2))) (T3 (K3 (i := 5) X2.nd rfl (B3 rfl))) (B2 (C23 (B27 (i := 4) (fun C => (B6 G_lift (hr.mono (by decide)) rfl T.mg_lift T.kp_lift b_lift .nil B7 (C3 (M9 j7 (pv 4) B1 (fun _ _ => rfl)) (C3 (A1 (pv 5)) (C3 (B9 (pv 3) (A1 (pv 5)) (fun _ _ => rfl)) D6 C2) A0) C2) (he := C2) (hpl := (A5 A0 (A5 C2 A6)))))))) (by intro _; rfl)))) (@C9 _ _ _ _ _ _ (E1 (C8 (i := 6) X2.nd rfl (B3 rfl) O6)) (@C9 _ _ _ _ _ _ (@O7 _ _ _ _ (@A94 _ _ _ _ _ (@A8g _ _ _ _ _ _ N4 (U9 (A1 (pv 6))) (@C9 _ _ _ _ _ _ (E1 (C8 (i := 6) X2.nd rfl (B3 rfl) O6)) (@B2 _ _ _ _ (@P5 _ _ _ _ _ _ (@P0 _ _ _ _ _ _ _ _ N4 rfl (U2 (T8 rfl T.n_range (A8 (B7h (F9 N6 rfl T.n_len N7 (C3 (pv 4) D6 A0) (he := A0) (hpl := A6))) C5 E3))) (T3 (K3 (i := 7) X2.nd rfl (B3 rfl))) (@C9 _ _ _ _ _ _ (@O7 _ _ _ _ (@P5 _ _ _ _ _ _ (@P0 _ _ _ _ _ _ _ _ N4 rfl (A5g (B9 (pv 0) B1 (fun _ _ => rfl))) (B2m (A0q (n := 3) rfl (S3 (K3 (i := 8) X2.nd rfl (B3 rfl)) (S3 (K3 (i := 9) X2.nd rfl (B3 rfl)) (S3 (K3 (i := 10) X2.nd rfl (B3 rfl)) A0p))))) (@B2 _ _ _ _ (@J3 _ _ _ _ _ _ _ _ _ (@U9 _ _ _ _ (B27 (i := 4) (fun C => (@B6 _ _ _ _ _ _ _ _ _ _ _ _ _ _ _ _ G_lift (hr.mono (by decide)) rfl T.mg_lift T.kp_lift b_lift .nil B7 (@C3 _ _ _ _ _ (M9 j7 (pv 4) (A1 (pv 7)) (fun _ _ => rfl)) (@C3 _ _ _ _ _ (A1 (pv 9)) (C3 (C1 (B6 G_step (hr.mono (by decide)) rfl T.mg_step T.kp_step b_step .nil B7 (A2 (A1 (pv 1)) (A2 (B7n (B0b (B0b (B7m (pv 4)) (A1 (pv 7)) (fun _ _ => rfl)) (A1 (pv 8)) (fun _ _ => rfl))) (A2 (A1 (pv 10)) C0 A0) C2) A0) (he := A0) (hpl := (A5 C2 (A5 A0 A6))))) D6 E3) A0) C2) (by decide) C2 ((A5 A0 (A5 E3 A6)))))) (by intro _; rfl)) (B2 (E1 (C8 (i := 6) X2.nd rfl (B3 rfl) O6))) J2)) (by intro _; rfl)))) (@B2 _ _ _ _ (@P5 _ _ _ _ _ _ (@P0 _ _ _ _ _ _ _ _ N4 rfl (U2 (T8 rfl T.n_range (A8 (S6 (F9 N6 rfl T.n_len N7 (C3 (pv 2) D6 A0) (he := A0) (hpl := A6))) C5 E3))) (T3 (K3 (i := 11) X2.nd rfl (B3 rfl))) (@C9 _ _ _ _ _ _ (B2n (S9 (B9 (pv 2) (A1 (pv 11)) (fun _ _ => rfl)) (A93 (A0q (n := 2) rfl (S3 (K3 (i := 5) X2.nd rfl (B3 rfl)) (S3 (K3 (i := 12) X2.nd rfl (B3 rfl)) A0p)))))) (@B2 _ _ _ _ (@J3 _ _ _ _ _ _ _ _ _ (PW.pt (A49 (F8 (Z5 (Q3 hr)) Q0 (F2 d9 B2a (F2 A8j A9w (A1 (pv 7)) (F2 A4z A59 B1 (A1 (pv 11)))) B1) B1 (D2 _)) (A48 (F8 e9 v4 (B6y (pv 4) (A3i (pv 7)) (A3i (pv 5)) (fun _ _ => rfl) (fun _ _ => rfl)) J6 (D2 _))))) (@B2 _ _ _ _ (@J3 _ _ _ _ _ _ _ _ _ (@U9 _ _ _ _ (B27 (i := 4) (fun C => (@B6 _ _ _ _ _ _ _ _ _ _ _ _ _ _ _ _ G_lift (hr.mono (by decide)) rfl T.mg_lift T.kp_lift b_lift .nil B7 (@C3 _ _ _ _ _ (M9 j7 (pv 4) (F2 K6 M4 (A1 (pv 7)) (F2 A4z A59 B1 (A1 (pv 11)))) (fun _ _ => rfl)) (C3 (A1 (pv 5)) (C3 (P2 A07 (F9 (A0z rfl) rfl T.n_min A02 (A8 (A1 (pv 1)) (A8 (F2 K6 M4 (B7n (B0b (B0b (B7m (pv 4)) (A1 (pv 7)) (fun _ _ => rfl)) (A1 (pv 5)) (fun _ _ => rfl))) (A1 (pv 12))) C5 J1) A0) (he := A0) (hpl := (A5 J1 A6)))) D6 E3) A0) C2) (by decide) C2 ((A5 A0 (A5 E3 A6)))))) (by intro _; rfl)) (B2 (E1 (C8 (i := 6) X2.nd rfl (B3 rfl) O6))) J2)) J2))) (by intro _; rfl))))) (by intro _; rfl)))))))) (B2 (D0 (C3p (pv 4)))))))), fun ds Q hl h => ?_⟩)
 obtain ⟨m, ws, S, sp, b, ts0, rfl, ok, s0, so, hb, tl0, hT0, q⟩ := h
 have m1 := ok.m1
 have m2 := ok.m2
 have few := so.few
 have p16 := pw4 sp.length (by omega)
 have pp := X3 sp.length
 have bl := hb.len
 array_get_dec
 refine ⟨⟨rfl, by rw [V9]; omega⟩, ?_⟩
 rw [show C6 ts0 = ts0.map fun t => PyData.list (A3 t) from rfl]
 refine B3t (f := A3) (fun t ht Q' q' => ?_) ?_
 ·left
  exact q'
 rw [M0]
 refine go ?_
 (try unfold L8); (try unfold P4)
 refine ⟨fun ρ' => ∃ (ts : List Tb) (z5 : Sl), nbS z5 = true /\ ts.length = 2 ^ sp.length /\ (∀ t ∈ ts, D1 m S t) /\ leT b (tbs ts 0) /\ ρ' = [Sl.sh (D4 m ws), Sl.sh (.int S), Sl.sh (.list (sp.map J0)), Sl.sh (.list (A3 b)), Sl.o2 (ts.map A3), z5, .no, .no, .no, .no, .no, .no, .no], ?_, ?_⟩
 ·unfold D4
  array_get_dec
  refine ⟨⟨by omega, by omega⟩, ?_⟩
  rw [show ((m : Nat) : Int).toNat = m by simp]
  refine ⟨fun r ρ => ∃ (k : Nat) (ts : List Tb) (z5 : Sl), nbS z5 = true /\ r = (G7 0 m).drop k /\ ts.length = 2 ^ sp.length /\ (∀ t ∈ ts, D1 m S t) /\ (∀ p, p < k -> leO (gt b p) (gt (tbs ts 0) p)) /\ ρ = [Sl.sh (D4 m ws), Sl.sh (.int S), Sl.sh (.list (sp.map J0)), Sl.sh (.list (A3 b)), Sl.o2 (ts.map A3), z5, .no, .no, .no, .no, .no, .no, .no], ⟨0, ts0, _, rfl, rfl, tl0, hT0, (fun p h => absurd h (A4t _)), rfl⟩, ?_, ?_⟩
  ·rintro x r ρ ⟨k, ts, z5, n5, h1, tl, hT, hB, rfl⟩
   obtain ⟨rfl, rfl, hk⟩ := A0g h1
   have h0 : 0 < ts.length := by omega
   have tl1 := (hT _ (Q4 h0)).len
   try dsimp only [Blk, A1e]
   refine B3s (ts := ts) (s := 0) (p := k) (l := gt b k) rfl rfl h0 (by rw [tl1]; exact hk) (fun Q' q' => ?_) (fun Q' q' => ?_) (fun Q' q' => ?_) ?_
   ·left
    exact q'
   ·left
    exact q'
   ·left
    rw [R8 (by omega)]
    exact q'
   ·cases eM : K8 (gt b k) (gt (tbs ts 0) k) with
    | false =>
     refine L4 ⟨k + 1, ts, _, rfl, rfl, tl, hT, fun p hp => ?_, rfl⟩
     rcases P8 p k with c | c
     ·exact hB p c
     ·have : p = k := by omega
      subst this; exact eM
    | true =>
     cases eb : gt b k with
     | none => rw [eb] at eM; cases eM
     | some x =>
      rw [eb] at eM
      have xb := hb.bd _ _ eb
      refine M2 ⟨k + 1, W0 ts 0 k (some x), _, rfl, rfl, by rw [B87]; exact tl, B89 hT h0 hk xb.1 xb.2, fun p hp => ?_, rfl⟩
      rw [B88 h0, if_pos rfl, i8 (by rw [tl1]; exact hk)]
      split
      ·rename_i e; subst e; rw [eb]; exact b6 _
      ·exact hB p (by omega)
  ·rintro ρ ⟨k, ts, z5, n5, h1, tl, hT, hB, rfl⟩
   have := A1y h1
   refine ⟨ts, _, n5, tl, hT, fun p => ?_, rfl⟩
   rcases P8 p m with c | c
   ·exact hB p (by omega)
   ·rw [w6 (by rw [bl]; exact c)]; exact X0
 rintro ρ ⟨ts1, z5, n5, tl1, hT1, hb1, rfl⟩
 try dsimp only
 refine go ?_
 left
 refine go ?_
 (try unfold L8); (try unfold P4)
 refine ⟨fun ρ' => ∃ (ts : List Tb) (z5 z6 z7 z8 z9 z10 z11 z12 : Sl), O0 m ws S sp b ts /\ ρ' = [Sl.sh (D4 m ws), Sl.sh (.int S), Sl.sh (.list (sp.map J0)), Sl.sh (.list (A3 b)), Sl.o2 (ts.map A3), z5, z6, z7, z8, z9, z10, z11, z12], ?_, ?_⟩
 ·unfold A8q
  refine ⟨fun μ ρ => ∃ (ts : List Tb) (fb : Bool) (z5 z7 z8 z9 z10 z11 z12 : Sl), (nbS z5 = true /\ nbS z7 = true /\ nbS z8 = true /\ nbS z9 = true /\ nbS z10 = true /\ nbS z11 = true /\ nbS z12 = true) /\ ts.length = 2 ^ sp.length /\ (∀ t ∈ ts, D1 m S t) /\ leT b (tbs ts 0) /\ (fb = false -> ∀ s, s < ts.length -> OkS ws S sp ts s) /\ μ = 2 * muS S ts + (if fb = true then 1 else 0) /\ ρ = [Sl.sh (D4 m ws), Sl.sh (.int S), Sl.sh (.list (sp.map J0)), Sl.sh (.list (A3 b)), Sl.o2 (ts.map A3), z5, Sl.sh (.bool fb), z7, z8, z9, z10, z11, z12], ⟨_, ts1, true, _, _, _, _, _, _, _, ⟨n5, rfl, rfl, rfl, rfl, rfl, rfl⟩, tl1, hT1, hb1, (fun z => by cases z), rfl, rfl⟩, ?_⟩
  rintro μ ρ ⟨ts, fb, z5, z7, z8, z9, z10, z11, z12, ⟨n5, n7, n8, n9, n10, n11, n12⟩, tl, hT, hb0, hF, rfl, rfl⟩
  cases fb with
  | false =>
   left
   exact ⟨ts, _, _, _, _, _, _, _, _, D0g few tl hT hb0 (hF rfl), rfl⟩
  | true =>
   left
   try dsimp only [Blk]
   array_get_dec
   refine go ?_
   array_get_dec
   rw [E4]
   refine ⟨⟨by omega, by omega⟩, ?_⟩
   rw [Z1]
   refine ⟨fun r ρ => ∃ (s : Nat) (ts' : List Tb) (fb : Bool) (z5 z7 z8 z9 z10 z11 z12 : Sl), (nbS z5 = true /\ nbS z7 = true /\ nbS z8 = true /\ nbS z9 = true /\ nbS z10 = true /\ nbS z11 = true /\ nbS z12 = true) /\ r = (G7 0 ts.length).drop s /\ Ris m S sp.length b ts ts' fb /\ (fb = false -> ∀ s', s' < s -> OkS ws S sp ts s') /\ ρ = [Sl.sh (D4 m ws), Sl.sh (.int S), Sl.sh (.list (sp.map J0)), Sl.sh (.list (A3 b)), Sl.o2 (ts'.map A3), z5, Sl.sh (.bool fb), z7, z8, z9, z10, z11, z12], ⟨0, ts, false, _, _, _, _, _, _, _, ⟨n5, n7, n8, n9, n10, n11, n12⟩, rfl, ⟨tl, hT, hb0, (fun z => by cases z), fun _ => rfl⟩, (fun _ s' h => absurd h (A4t _)), rfl⟩, ?_, ?_⟩
   ·rintro x r ρ ⟨s, ts', fb, z5, z7, z8, z9, z10, z11, z12, ⟨n5, n7, n8, n9, n10, n11, n12⟩, h1, R0, hN, rfl⟩
    obtain ⟨rfl, rfl, hs⟩ := A0g h1
    try dsimp only [Blk]
    refine ⟨fun ρ' => ∃ (ts2 : List Tb) (fb2 : Bool) (z8 z9 z10 : Sl), (nbS z8 = true /\ nbS z9 = true /\ nbS z10 = true) /\ Ris m S sp.length b ts ts2 fb2 /\ (fb2 = false -> (∀ s', s' < s -> OkS ws S sp ts s') /\ O9 ws S (tbs ts s)) /\ ρ' = [Sl.sh (D4 m ws), Sl.sh (.int S), Sl.sh (.list (sp.map J0)), Sl.sh (.list (A3 b)), Sl.o2 (ts2.map A3), z5, Sl.sh (.bool fb2), Sl.sh (.int ((s : Nat) : Int)), z8, z9, z10, z11, z12], ?_, ?_⟩
    ·unfold D4
     array_get_dec
     refine ⟨fun r ρ => ∃ (dn W : List Wy) (ts2 : List Tb) (fb2 : Bool) (z8 z9 z10 : Sl), (nbS z8 = true /\ nbS z9 = true /\ nbS z10 = true) /\ ws = dn ++ W /\ r = W.map K5 /\ Ris m S sp.length b ts ts2 fb2 /\ (fb2 = false -> (∀ s', s' < s -> OkS ws S sp ts s') /\ ∀ w ∈ dn, leO (K0 S (tbs ts s) w) (gt (tbs ts s) w.2.1)) /\ ρ = [Sl.sh (D4 m ws), Sl.sh (.int S), Sl.sh (.list (sp.map J0)), Sl.sh (.list (A3 b)), Sl.o2 (ts2.map A3), z5, Sl.sh (.bool fb2), Sl.sh (.int ((s : Nat) : Int)), z8, z9, z10, z11, z12], ⟨[], ws, ts', fb, _, _, _, ⟨n8, n9, n10⟩, rfl, rfl, R0, (fun z => ⟨hN z, fun w h => nomatch h⟩), rfl⟩, ?_, ?_⟩
     ·rintro x r ρ ⟨dn, W, ts2, fb2, z8, z9, z10, ⟨n8, n9, n10⟩, hws, h2, R2, hN2, rfl⟩
      cases W with
      | nil => cases h2
      | cons w W =>
       cases (show x :: r = K5 w :: W.map K5 from h2)
       have hw : w ∈ ws := by rw [hws]; exact S8 _ B4
       have hws2 : ws = (dn ++ [w]) ++ W := by rw [hws, j4]; rfl
       have hs2 : s < ts2.length := by rw [R2.len, <- tl]; exact hs
       have tl2 := (R2.tab _ (Q4 hs2)).len
       unfold K5
       try dsimp only [Blk, A1d, dT]
       refine B3s (ts := ts2) (s := s) (p := w.2.1) (l := (gt (tbs ts2 s) w.1).bind fun x => G6 S x w.2.2) rfl (by rw [B3u]; simp [nbS]; exact ⟨n5, n11, n12⟩) hs2 (by rw [tl2]; exact ok.en w hw) (fun Q' q' => ?_) (fun Q' q' => ?_) (fun Q' q' => ?_) ?_
       ·left
        exact q'
       ·left
        exact q'
       ·left
        rw [A0i hs2]
        left
        rw [R8 (by rw [tl2]; exact ok.st w hw)]
        left
        exact ⟨D0h _, S, _, w.2.2, rfl, q'⟩
       ·have bq : K0 S (tbs ts2 s) w = (gt (tbs ts2 s) w.1).bind fun x => G6 S x w.2.2 := by
         unfold K0
         cases gt (tbs ts2 s) w.1 <;> rfl
        cases eM : K8 ((gt (tbs ts2 s) w.1).bind fun x => G6 S x w.2.2) (gt (tbs ts2 s) w.2.1) with
        | false =>
         refine L4 ?_
         left
         refine ⟨dn ++ [w], W, ts2, fb2, _, _, _, ⟨rfl, rfl, rfl⟩, hws2, rfl, R2, fun z => ⟨(hN2 z).1, fun v hv => ?_⟩, rfl⟩
         rcases X5.mp hv with y | y
         ·exact (hN2 z).2 v y
         ·rw [A0l.mp y]
          rw [R2.no z] at bq eM
          rw [bq]; exact eM
        | true =>
         cases el : (gt (tbs ts2 s) w.1).bind fun x => G6 S x w.2.2 with
         | none => rw [el] at eM; cases eM
         | some x =>
          rw [el] at eM
          have xb : 0 <= x /\ x <= S := by
           cases eg : gt (tbs ts2 s) w.1 with
           | none => rw [eg] at el; cases el
           | some y => rw [eg] at el; exact A52 s0 el
          refine M2 ?_
          left
          exact ⟨dn ++ [w], W, W0 ts2 s w.2.1 (some x), true, _, _, _, ⟨rfl, rfl, rfl⟩, hws2, rfl, R2.put hs2 (ok.en w hw) xb.1 xb.2 eM, (fun z => by cases z), rfl⟩
     ·rintro ρ ⟨dn, W, ts2, fb2, z8, z9, z10, n3, hws, h2, R2, hN2, rfl⟩
      cases W with
      | cons w W => cases h2
      | nil =>
       rw [d5] at hws
       subst hws
       exact ⟨ts2, fb2, _, _, _, n3, R2, (fun z => ⟨(hN2 z).1, (hN2 z).2⟩), rfl⟩
    rintro ρ ⟨ts2, fb2, z8, z9, z10, ⟨n8, n9, n10⟩, R2, hN2, rfl⟩
    try dsimp only
    refine go ?_
    array_get_dec
    rw [E4]
    refine ⟨⟨by omega, by omega⟩, ?_⟩
    rw [Z1]
    refine ⟨fun r ρ => ∃ (k : Nat) (ts3 : List Tb) (fb3 : Bool) (z5 z11 z12 : Sl), (nbS z5 = true /\ nbS z11 = true /\ nbS z12 = true) /\ r = (G7 0 sp.length).drop k /\ Ris m S sp.length b ts ts3 fb3 /\ (fb3 = false -> (∀ s', s' < s -> OkS ws S sp ts s') /\ O9 ws S (tbs ts s) /\ ∀ k', k' < k -> ∀ p, sp[k']? = some p -> sIn s k' = false -> leO (lvG S ts s p) (gt (tbs ts (s + 2 ^ k')) p.1)) /\ ρ = [Sl.sh (D4 m ws), Sl.sh (.int S), Sl.sh (.list (sp.map J0)), Sl.sh (.list (A3 b)), Sl.o2 (ts3.map A3), z5, Sl.sh (.bool fb3), Sl.sh (.int ((s : Nat) : Int)), z8, z9, z10, z11, z12], ⟨0, ts2, fb2, _, _, _, ⟨n5, n11, n12⟩, rfl, R2, (fun z => ⟨(hN2 z).1, (hN2 z).2, fun k' h => absurd h (A4t _)⟩), rfl⟩, ?_, ?_⟩
    ·rintro x r ρ ⟨k, ts3, fb3, z5, z11, z12, ⟨n5, n11, n12⟩, h2, R3, hN3, rfl⟩
     obtain ⟨rfl, rfl, hk⟩ := A0g h2
     obtain ⟨p, hp⟩ := B3o hk
     have hpm := so.pl p (N3 hp)
     have hpg := so.gf p (N3 hp)
     have hs3 : s < ts3.length := by rw [R3.len, <- tl]; exact hs
     have tl3 := (R3.tab _ (Q4 hs3)).len
     have keep : ∀ y5 y11 y12 : Sl, nbS y5 = true /\ nbS y11 = true /\ nbS y12 = true -> (fb3 = false -> sIn s k = false -> leO (lvG S ts s p) (gt (tbs ts (s + 2 ^ k)) p.1)) -> ∃ (k' : Nat) (ts3' : List Tb) (fb3' : Bool) (x5 x11 x12 : Sl), (nbS x5 = true /\ nbS x11 = true /\ nbS x12 = true) /\ (G7 0 sp.length).drop (k + 1) = (G7 0 sp.length).drop k' /\ Ris m S sp.length b ts ts3' fb3' /\ (fb3' = false -> (∀ s', s' < s -> OkS ws S sp ts s') /\ O9 ws S (tbs ts s) /\ ∀ k'', k'' < k' -> ∀ p, sp[k'']? = some p -> sIn s k'' = false -> leO (lvG S ts s p) (gt (tbs ts (s + 2 ^ k'')) p.1)) /\ [Sl.sh (D4 m ws), Sl.sh (.int S), Sl.sh (.list (sp.map J0)), Sl.sh (.list (A3 b)), Sl.o2 (ts3.map A3), y5, Sl.sh (.bool fb3), Sl.sh (.int ((s : Nat) : Int)), z8, z9, z10, y11, y12] = [Sl.sh (D4 m ws), Sl.sh (.int S), Sl.sh (.list (sp.map J0)), Sl.sh (.list (A3 b)), Sl.o2 (ts3'.map A3), x5, Sl.sh (.bool fb3'), Sl.sh (.int ((s : Nat) : Int)), z8, z9, z10, x11, x12] := fun y5 y11 y12 ny hh => ⟨k + 1, ts3, fb3, _, _, _, ny, rfl, R3, fun z => ⟨(hN3 z).1, (hN3 z).2.1, fun k'' hk'' p' hp' hi' => by
      rcases P8 k'' k with y | y
      ·exact (hN3 z).2.2 k'' y p' hp' hi'
      ·have : k'' = k := by omega
       subst this
       rw [hp] at hp'
       cases hp'
       exact hh z hi'⟩, rfl⟩
     sizeOf_list_dec
     rw [B0s hp]
     unfold J0
     left
     refine go ?_; left
     have e2 : (1 : Int) * 2 ^ (((k : Nat) : Int)).toNat = ((2 ^ k : Nat) : Int) := by rw [Int.one_mul, Z1, B39]; rfl
     have kp := X3 k
     have kp16 := pw4 k (by omega)
     rw [e2]
     refine ⟨⟨by omega, by omega, by decide⟩, ⟨by omega, by omega⟩, by decide, rfl, rfl, T6 _ _, ?_⟩
     rw [T7, B84 k (by omega) s (by omega)]
     cases hin : sIn s k with
     | true =>
      refine L4 ?_
      exact keep _ _ _ ⟨rfl, rfl, rfl⟩ fun _ z => by rw [hin] at z; cases z
     | false =>
      refine M2 ?_
      obtain ⟨hb1, hb2⟩ := B3n sp.length (by omega) k hk s (by omega) hin
      have h3 : s + 2 ^ k < ts3.length := by rw [R3.len]; exact hb2
      have tl4 := (R3.tab _ (Q4 h3)).len
      have hlv : lvG S ts3 s p = (gt (tbs ts3 s) p.1).bind fun x => G6 S x p.2 := rfl
      rw [W5 (show (ts3.map A3)[s]? = some (A3 (tbs ts3 s)) by rw [N1, d4 hs3]; rfl)]
      left
      rw [R8 (by rw [tl3]; exact hpm)]
      cases ey : gt (tbs ts3 s) p.1 with
      | none =>
       rw [ey] at hlv
       right
       exact keep _ _ _ ⟨rfl, rfl, rfl⟩ fun z _ => by rw [R3.no z] at hlv; rw [hlv]; exact X0
      | some y =>
       rw [ey] at hlv
       have yb := (R3.tab _ (Q4 hs3)).bd _ _ ey
       have e4 : G6 S y p.2 = some (if y + p.2 < S then y + p.2 else S) := by
        unfold G6
        rw [if_neg (by omega)]
        congr 1
        split <;> split <;> omega
       have hlv : lvG S ts3 s p = some (if y + p.2 < S then y + p.2 else S) := hlv.trans e4
       have vb : 0 <= (if y + p.2 < S then y + p.2 else S) /\ (if y + p.2 < S then y + p.2 else S) <= S := by split <;> omega
       right
       refine M2 (B3s (ts := ts3) (s := s + 2 ^ k) (p := p.1) (l := some (if y + p.2 < S then y + p.2 else S)) rfl (by rw [B3u]; simp [nbS]; exact ⟨n8, n9, n10⟩) h3 (by rw [tl4]; exact hpm) (fun Q' q' => ?_) (fun Q' q' => ?_) (fun Q' q' => ?_) ?_)
       ·left
        rw [e2, show ((s : Nat) : Int) + ((2 ^ k : Nat) : Int) = ((s + 2 ^ k : Nat) : Int) by omega]
        exact ⟨⟨by omega, by omega, by decide⟩, q'⟩
       ·left
        exact q'
       ·left
        rw [A0i hs3]
        left
        rw [R8 (by rw [tl3]; exact hpm), ey]
        right
        exact ⟨rfl, q'⟩
       ·cases eM : K8 (some (if y + p.2 < S then y + p.2 else S)) (gt (tbs ts3 (s + 2 ^ k)) p.1) with
        | false =>
         refine L4 ?_
         left
         exact keep _ _ _ ⟨rfl, rfl, rfl⟩ fun z _ => by rw [R3.no z] at hlv eM; rw [hlv]; exact eM
        | true =>
         refine M2 ?_
         left
         exact ⟨k + 1, W0 ts3 (s + 2 ^ k) p.1 (some (if y + p.2 < S then y + p.2 else S)), true, _, _, _, ⟨rfl, rfl, rfl⟩, rfl, R3.put h3 hpm vb.1 vb.2 eM, (fun z => by cases z), rfl⟩
    ·rintro ρ ⟨k, ts3, fb3, z5, z11, z12, ⟨n5, n11, n12⟩, h2, R3, hN3, rfl⟩
     have := A1y h2
     refine ⟨s + 1, ts3, fb3, _, _, _, _, _, _, _, ⟨n5, rfl, n8, n9, n10, n11, n12⟩, rfl, R3, fun z s' hs' => ?_, rfl⟩
     rcases P8 s' s with y | y
     ·exact (hN3 z).1 s' y
     ·have : s' = s := by omega
      subst this
      exact ⟨(hN3 z).2.1, fun k' p' hp' => (hN3 z).2.2 k' (by have := A4m hp'; omega) p' hp'⟩
   ·rintro ρ ⟨s, ts', fb, z5, z7, z8, z9, z10, z11, z12, n7, h1, R0, hN, rfl⟩
    have := A1y h1
    refine ⟨2 * muS S ts' + (if fb = true then 1 else 0), ?_, ts', fb, _, _, _, _, _, _, _, n7, R0.len, R0.tab, R0.b0, fun z s' hs' => ?_, rfl, rfl⟩
    ·cases fb with
     | true => have := R0.yes rfl; simp; omega
     | false => rw [R0.no rfl]; simp
    ·have e := R0.no z
     subst e
     exact hN z s' (by omega)
 rintro ρ ⟨ts, z5, z6, z7, z8, z9, z10, z11, z12, hL, rfl⟩
 try dsimp only
 refine go ?_
 left
 rw [A73]
 exact q ts hL
end
def ShN (N : Nat) (d : PyData) : Prop := d.canLay0 = true /\ d.showable = true /\ d.shown.length <= N /\ PyData.strOk d.shown = true
theorem ShN.mono {N M : Nat} {d : PyData} (h : ShN N d) (l : N <= M) : ShN M d := ⟨h.1, h.2.1, Y9 h.2.2.1 l, h.2.2.2⟩
theorem B3v {N : Nat} : ∀ {ds : List PyData}, (∀ d ∈ ds, ShN N d) -> PyData.canLayAll0 ds = true /\ PyData.showableAll ds = true /\ ((PyData.shownAll ds).map (·.length)).sum <= N * ds.length /\ (PyData.shownAll ds).length = ds.length /\ ∀ t ∈ PyData.shownAll ds, PyData.strOk t = true
 | [], _ => ⟨rfl, rfl, F6 _, rfl, fun t h => nomatch h⟩
 | d :: ds, h => by
  obtain ⟨a1, a2, a3, a4, a5⟩ := B3v fun x hx => h x (A9 _ hx)
  obtain ⟨b1, b2, b3, b4⟩ := h d B4
  refine ⟨?_, ?_, ?_, ?_, fun t ht => ?_⟩
  ·rw [PyData.canLayAll0, a1, b1]; rfl
  ·rw [PyData.showableAll, a2, b2]; rfl
  ·rw [PyData.shownAll, o8, A4q, M1, Nat.mul_succ]; omega
  ·rw [PyData.shownAll, M1, M1, a4]
  ·rw [PyData.shownAll] at ht
   rcases K1.mp ht with rfl | ht
   ·exact b4
   ·exact a5 t ht
theorem ShN.lst {N L : Nat} {ds : List PyData} (h : ∀ d ∈ ds, ShN N d) (l : ds.length <= L) : ShN (N * L + 2 * L + 3) (.list ds) := by
 obtain ⟨a1, a2, a3, a4, a5⟩ := B3v h
 have := listText_len_le (PyData.shownAll ds)
 have := Nat.mul_le_mul_left N l
 refine ⟨by rw [PyData.canLay0]; exact a1, by rw [PyData.showable]; exact a2, by rw [PyData.shown]; omega, ?_⟩
 rw [PyData.shown]; exact C4n a5
theorem B9c : ∀ {ts : List Str}, (∀ t ∈ ts, PyData.strOk t = true) -> PyData.strOk (Str.join ", " ts) = true
 | [], _ => by decide +kernel
 | [x], h => h x B4
 | x :: y :: r, h => by
  have ih := B9c (ts := y :: r) fun t ht => h t (A9 _ ht)
  show PyData.strOk (x ++ (", " : Str) ++ Str.join ", " (y :: r)) = true
  exact A3v (A3v (h x B4) (A0a _)) ih
theorem ShN.tup {N L : Nat} {ds : List PyData} (h : ∀ d ∈ ds, ShN N d) (l : ds.length <= L) : ShN (N * L + 2 * L + 3) (.tuple ds) := by
 obtain ⟨a1, a2, a3, a4, a5⟩ := B3v h
 have := tupleText_len_le (PyData.shownAll ds)
 have := Nat.mul_le_mul_left N l
 refine ⟨by rw [PyData.canLay0]; exact a1, by rw [PyData.showable]; exact a2, by rw [PyData.shown]; omega, ?_⟩
 rw [PyData.shown]
 unfold tupleText
 exact A3v (A3v (A0a _) (B9c a5)) (A0a _)
def OkI (d : PyData) : Prop := A3w d /\ F1 2 d
theorem OkI.int {i : Int} (h1 : -1000000000000000000000 <= i) (h2 : i <= 1000000000000000000000) : OkI (.int i) := ⟨.int (Nat.lt_of_le_of_lt (show i.natAbs <= 1000000000000000000000 by omega) (by decide +kernel)), .int i⟩
theorem OkI.non : OkI .none := ⟨.non, .non⟩
theorem OkI.bl (b : Bool) : OkI (.bool b) := ⟨.bl b, .bl b⟩
theorem OkI.str0 : OkI (.str (Str.ofString "0")) := ⟨⟨A0a _, rfl, by decide +kernel, by decide +kernel⟩, A0a _, M8 _⟩
theorem OkI.far : OkI (.int (10 ^ Int.toNat 59)) := ⟨.int (by decide +kernel), .int _⟩
theorem OkI.tab {m : Nat} {S : Int} {t : Tb} {d : PyData} (h : D1 m S t) (s1 : S <= 100000000000000000000) (hd : d ∈ A3 t) : OkI d := by
 unfold A3 at hd
 obtain ⟨o, ho, rfl⟩ := S2.mp hd
 cases o with
 | none => exact .non
 | some x =>
  obtain ⟨p, hp, e⟩ := p5.mp ho
  have := h.bd p x (by unfold gt; rw [J5 hp, e]; rfl)
  exact .int (by omega) (by omega)
def RwG (r : PyData) : Prop := ShN 1500 r /\ F1 3 r /\ ∀ rs, r = .list rs -> rs.length <= 400
def ThG (d : PyData) : Prop := ∃ ds, d = .list ds /\ ds.length <= 60 /\ ∀ r ∈ ds, RwG r
theorem B0v {ds : List PyData} (h : ∀ d ∈ ds, OkI d) (l : ds.length <= 14) : RwG (.list ds) := ⟨(ShN.lst (N := 100) (fun d hd => (h d hd).1) l).mono (by decide), F1.lst fun d hd => (h d hd).2, fun rs e => by cases e; omega⟩
theorem D0k {ds : List PyData} (h : ∀ d ∈ ds, OkI d) (l : ds.length <= 14) : RwG (.tuple ds) := ⟨(ShN.tup (N := 100) (fun d hd => (h d hd).1) l).mono (by decide), F1.tup fun d hd => (h d hd).2, fun rs e => nomatch e⟩
theorem B9d {m : Nat} {S : Int} {t : Tb} (h : D1 m S t) (m2 : m <= 12) (s1 : S <= 100000000000000000000) : RwG (.list (A3 t)) := B0v (fun d hd => OkI.tab h s1 hd) (by rw [N2, h.len]; omega)
theorem B9e {m : Nat} {S : Int} {ts : List Tb} (hT : ∀ t ∈ ts, D1 m S t) (m2 : m <= 12) (s1 : S <= 100000000000000000000) {d : PyData} (hd : d ∈ C6 ts) : RwG d := by
 unfold C6 at hd
 obtain ⟨t, ht, rfl⟩ := S2.mp hd
 exact B9d (hT t ht) m2 s1
theorem B9f {m : Nat} {S : Int} {ts : List Tb} {s : Nat} {d : PyData} (hT : ∀ t ∈ ts, D1 m S t) (m2 : m <= 12) (s1 : S <= 100000000000000000000) (l : ts.length <= 16) (hd : RwG d) : ThG (.list ((C6 ts).set s d)) := ⟨_, rfl, by rw [L9, V9]; omega, fun r hr => by
 rcases B38 hr with z | rfl
 ·exact B9e hT m2 s1 z
 ·exact hd⟩
theorem A74 {xs : List PyData} {lo hi : Option Int} {d : PyData} (h : d ∈ V1 xs lo hi) : d ∈ xs := by
 unfold V1 at h
 exact List.mem_of_mem_drop (List.mem_of_mem_take h)
theorem A82 {xs : List PyData} {lo hi : Option Int} : (V1 xs lo hi).length <= xs.length := by
 unfold V1
 rw [A10, B3x]; omega
theorem B0w {α : Type} {o : Option α} {Q P : α -> Prop} (h : ∃ x, o = some x /\ P x) (q : ∀ x, P x -> Q x) : bnd o Q := by
 obtain ⟨x, rfl, hx⟩ := h
 exact q x hx
def D0l : DSp := fun ds Q => ∃ (d : PyData) (m : Nat) (S : Int) (ts : List Tb), ds = [d, .int S, .list (C6 ts)] /\ 1 <= m /\ m <= 12 /\ 0 <= S /\ S <= 100000000000000000000 /\ 1 <= ts.length /\ ts.length <= 16 /\ (∀ t ∈ ts, D1 m S t) /\ ∀ x, ThG x -> Q x
section
variable {P : Program} {w : World} {K : A4} {mg : Str -> Option Value} {base : Heap}
theorem D0m (T : Txt K mg) : D3 P w K mg base CX0 5 T.a_spoilt T.d_spoilt ["_law_hand_here", "_law_store_here", "_law_tables"] (spD [.hd, .sh, .sh] D0l) := by
 have G_draw := @A1w P w K mg base T
 have b_draw := A1v T
 refine G5 T.F_spoilt A1u rfl (fun C cdv A outer s H E hr => ⟨_, (@C9 _ _ _ _ _ _ (@B60 _ _ _ _ _ _ _ _ rfl (A17 (i := 2) A1u.nd rfl (B3 rfl) (M3.new (N := ["_law_hand_here", "_law_store_here", "_law_tables", "_law_some", "_law_at", "_law_one", "_law_way", "_law_choices"]) (osc := A7 A4g) (by decide +kernel)) rfl (T2 (pv 2)) (fun _ => P3) (fun _ => (A09 (Y0 t6 rfl T.n_list W6 (C3 (pv 8) D6 A0) (he := A0) (hpl := A6)))))) (@C9 _ _ _ _ _ _ (E1 (C8 (i := 3) A1u.nd rfl (B3 rfl) (C1 (B6 G_draw (hr.mono (by decide)) rfl T.mg_draw T.kp_draw b_draw .nil B7 (J7 (pv 0) (A2 (B7h (F9 N6 rfl T.n_len N7 (C3 (pv 2) D6 A0) (he := A0) (hpl := A6))) C0 E3) A0) (he := A0) (hpl := (A5 E3 A6)))))) (@C9 _ _ _ _ _ _ (@E1 _ _ _ _ _ (C8 (i := 4) A1u.nd rfl (B3 rfl) (C1 (B6 G_draw (hr.mono (by decide)) rfl T.mg_draw T.kp_draw b_draw .nil B7 (J7 (pv 0) (A2 (C4u (F9 N6 rfl T.n_len N7 (C3 (M9 j7 (pv 2) (A3i (pv 3)) (fun _ _ => rfl)) D6 C2) (he := C2) (hpl := A6))) C0 E3) A0) (he := A0) (hpl := (A5 E3 A6)))))) (@C9 _ _ _ _ _ _ (E1 (C8 (i := 5) A1u.nd rfl (B3 rfl) (B6y (pv 2) (A3i (pv 3)) (A3i (pv 4)) (fun _ _ => rfl) (fun _ _ => rfl)))) (@C9 _ _ _ _ _ _ (E1 (C8 (i := 6) A1u.nd rfl (B3 rfl) (C1 (B6 G_draw (hr.mono (by decide)) rfl T.mg_draw T.kp_draw b_draw .nil B7 (J7 (pv 0) (A2 B1 C0 G1) A0) (he := A0) (hpl := (A5 G1 A6)))))) (@C9 _ _ _ _ _ _ (@O7 _ _ _ _ (@J3 _ _ _ _ _ _ _ _ _ (PW.pt (A49 (F8 X7 m5 (A1 (pv 6)) B1 (D2 _)) (A48 (F8 A0x A2o (A1 (pv 6)) B1 (D2 _))))) (@C9 _ _ _ _ _ _ (@A6a _ _ _ 2 _ (@A5h _ _ _ _ _ _ (@S9 _ _ _ _ _ _ (@K7 _ _ _ _ _ _ _ (@D9 _ _ _ _ (@L6 _ _ _ _ _ (@A8 _ _ _ _ _ _ (D9 (Z9 (B9 (pv 2) (A1 (pv 3)) (fun _ _ => rfl)) (D9 (L6 (A8 (A1 (pv 5)) C5 A0))))) (A8 (D9 (B2c (B9 (pv 2) (A1 (pv 3)) (fun _ _ => rfl)) A1a (Z8 (j9 B1)))) (A8 (C4m (Y0 B48 rfl T.n_tuple B5l (C3 (B9 (pv 2) (A1 (pv 3)) (fun _ _ => rfl)) D6 C2) (he := C2) (hpl := A6))) C5 E3) C2) J1))) (F2 A0t A05 (A1 (pv 6)) B1) (fun _ _ => rfl)) (V4 (pv 2) (A1 (pv 3)) U1) (by rfl) (by rfl) (by rfl)))) (B2 (A6a (i := 2) (D0 (A1 (pv 2)))))) J2)) (@C9 _ _ _ _ _ _ (O7 (J3 (F8 (Z5 (Q3 hr)) Q0 (A1 (pv 6)) B1 (D2 _))
   (B2 (A6a (i := 2) (D0 (D9 (Z9 (D9 (A22 (pv 2) A1a (Z8 (A1 (pv 3))))) (D9 (A22 (pv 2) (Z8 (F2 K6 M4 (A1 (pv 3)) B1)) A1a)))))))
   J2)) (@C9 _ _ _ _ _ _ (O7 (J3 (F8 (Z5 (Q3 hr)) Q0 (A1 (pv 6)) B1 (D2 _))
   (B2 (A6a (i := 2) (D0 (D9 (Z9 (A1 (pv 2)) (D9 (L6 (A8 (B9 (pv 2) (A1 (pv 3)) (fun _ _ => rfl)) C5 C2))))))))
   J2)) (@C9 _ _ _ _ _ _ (@O7 _ _ _ _ (@J3 _ _ _ _ _ _ _ _ _ (F8 (Z5 (Q3 hr)) Q0 (A1 (pv 6)) B1 (D2 _)) (B2 (A6a (i := 2) (D0 (D9 (Z9 (D9 (Z9 (D9 (Z9 (D9 (L6 (A8 (B9 (pv 2) (A1 (pv 3)) (fun _ _ => rfl)) C5 C2))) (D9 (A22 (pv 2) (Z8 B1) (Z8 (A1 (pv 3))))))) (D9 (A22 (pv 2) A1a (Z8 B1))))) (D9 (A22 (pv 2) (Z8 (F2 K6 M4 (A1 (pv 3)) B1)) A1a))))))) J2)) (@C9 _ _ _ _ _ _ (@E1 _ _ _ _ _ (@C8 _ _ 7 _ _ _ _ A1u.nd rfl (B3 rfl) (@D9 _ _ _ _ (@L6 _ _ _ _ _ (@A8 _ _ _ _ _ _ J6 (@A8 _ _ _ _ _ _ B1 (@A8 _ _ _ _ _ _ (A1 (pv 1)) (@A8 _ _ _ _ _ _ (F2 K6 M4 (A1 (pv 1)) B1) (A8 (j9 B1) (A8 O6 (A8 B52 (A8 (C1 (B6 G_draw (hr.mono (by decide)) rfl T.mg_draw T.kp_draw b_draw .nil B7 (J7 (pv 0) (A2 (F2 K6 M4 (A1 (pv 1)) B1) C0 J1) A0) (he := A0) (hpl := (A5 J1 A6)))) C5 E3) G1) G1) B11) J1) A0) G1) G1))) (by rfl) (by first | exact .inl rfl | exact .inr rfl | assumption))) (@C9 _ _ _ _ _ _ (@O7 _ _ _ _ (@J3 _ _ _ _ _ _ _ _ _ (F8 e9 v4 (A1 (pv 5)) J6 (D2 _)) (B2 (E1 (C8 (i := 7) A1u.nd rfl (B3 rfl) (D9 (Z9 (A1 (pv 7)) (D9 (L6 (A8 (F2 K6 M4 (A1 (pv 5)) B1) (A8 (F2 A0t A05 (A1 (pv 5)) B1) (A8 (F2 A0t A05 (A1 (pv 5)) B1) (A8 (F2 A8j A9w (A1 (pv 5)) B1) C5 J1) J1) J1) J1)))))))) J2)) (@C9 _ _ _ _ _ _ (@C3q _ _ _ _ _ _ _ _ (@S9 _ _ _ _ _ _ (B9 (pv 7) (C1 (B6 G_draw (hr.mono (by decide)) rfl T.mg_draw T.kp_draw b_draw .nil B7 (J7 (pv 0) (A2 (S6 (F9 N6 rfl T.n_len N7 (C3 (pv 7) D6 A0) (he := A0) (hpl := A6))) C0 E3) A0) (he := A0) (hpl := (A5 E3 A6)))) (fun _ _ => rfl)) (V4 (M9 j7 (pv 2) (A3i (pv 3)) (fun _ _ => rfl)) (A3i (pv 4)) U1) (by rfl) (by rfl) (by rfl))) (B2 (A6a (i := 2) (D0 (A1 (pv 2))))))))))))))))), fun ds Q hl h => ?_⟩)
 obtain ⟨d, m, S, ts, rfl, m1, m2, s0, s1, l1, l2, hT, q⟩ := h
 array_get_dec
 refine ⟨⟨rfl, by rw [V9]; omega⟩, ?_⟩
 rw [show C6 ts = ts.map fun t => PyData.list (A3 t) from rfl]
 refine B3t (f := A3) (fun t ht Q' q' => ?_) ?_
 ·left
  exact q'
 rw [M0]
 refine go ?_; left
 rw [E4]
 refine ⟨rfl, ts.length, rfl, by omega, by omega, fun s s0' s1' => ?_⟩
 obtain ⟨s, rfl, hs⟩ := A4j s0' s1'
 have ht := hT _ (Q4 hs)
 have tl := ht.len
 have ed : atI (ts.map A3) ((s : Nat) : Int) = some (A3 (tbs ts s)) := W5 (by rw [N1, d4 hs]; rfl)
 refine go ?_; left
 rw [ed]
 left
 rw [N2, tl]
 refine ⟨rfl, m, rfl, by omega, by omega, fun a a0 a1 => ?_⟩
 obtain ⟨a, rfl, ha⟩ := A4j a0 a1
 refine go ?_; left
 rw [ed]
 left
 rw [R8 (by rw [tl]; exact ha)]
 obtain ⟨o, ho⟩ : ∃ o, gt (tbs ts s) a = o := ⟨_, rfl⟩
 rw [ho]
 have oo : OkI (oD o) := OkI.tab ht s1 (N3 (show (A3 (tbs ts s))[a]? = some (oD o) by unfold A3; rw [N1, A3m (by rw [tl]; exact ha), ho]; rfl))
 have eb : (C6 ts)[s]? = some (.list (A3 (tbs ts s))) := by unfold C6; rw [N1, d4 hs]; rfl
 have ea := W5 eb
 have ti : ∀ d ∈ A3 (tbs ts s), OkI d := fun d hd => OkI.tab ht s1 hd
 have rr : RwG (.list (A3 (tbs ts s))) := B9d ht m2 s1
 have rt := fun d hd => @B9e m S ts hT m2 s1 d hd
 have bl := V9 ts
 left
 refine go ?_; left
 refine ⟨rfl, 12, rfl, by decide, by decide, fun y y0 y1 => ?_⟩
 refine go ?_
 (try unfold L8); (try unfold P4)
 refine ⟨fun ρ' => (y = 0 \/ 4 <= y) /\ ρ' = [Sl.hd, Sl.sh (.int S), Sl.o2 (ts.map A3), Sl.sh (.int ((s : Nat) : Int)), Sl.sh (.int ((a : Nat) : Int)), Sl.sh (oD o), Sl.sh (.int y), .no], ?_, ?_⟩
 ·left
  by_cases c1 : y < 4
  ·rw [decide_eq_true c1]
   left
   by_cases c2 : 0 < y
   ·rw [decide_eq_true c2]
    left
    rw [A73, ea]
    left
    refine ⟨by decide, by rw [N2]; omega, by decide, ?_⟩
    refine B0w (P := RwG) ?_ fun d hd => ?_
    ·have hu : y = 1 \/ y = 2 \/ y = 3 := by omega
     rcases hu with rfl | rfl | rfl
     ·refine ⟨_, rfl, B0v (fun d hd => ?_) (by rw [M7, N2]; simp; omega)⟩
      rcases X5.mp hd with z | z
      ·exact ti d z
      ·rw [A0l.mp z]; exact oo
     ·exact ⟨_, rfl, B0v (fun d hd => ti d (A74 hd)) (Y9 A82 (by rw [N2]; omega))⟩
     ·exact ⟨_, rfl, D0k ti (by rw [N2]; omega)⟩
    ·rw [o0 (by rw [bl]; exact hs)]
     left
     refine go ?_
     left
     exact q _ (B9f hT m2 s1 l2 hd)
   ·rw [decide_eq_false c2]
    exact L4 ⟨.inl (by omega), rfl⟩
  ·rw [decide_eq_false c1]
   exact L4 ⟨.inr (by omega), rfl⟩
 rintro ρ ⟨hy, rfl⟩
 try dsimp only
 refine go ?_
 (try unfold L8); (try unfold P4)
 have ap : ∀ {xs zs : List PyData}, (∀ d ∈ xs, RwG d) -> (∀ d ∈ zs, RwG d) -> ∀ d ∈ xs ++ zs, RwG d := fun h1 h2 d hd => by
  rcases X5.mp hd with z | z
  ·exact h1 d z
  ·exact h2 d z
 have c1 := @A82 (C6 ts) none (some ((s : Nat) : Int))
 have c2 := @A82 (C6 ts) (some (((s : Nat) : Int) + 1)) none
 have c3 := @A82 (C6 ts) (some 1) (some ((s : Nat) : Int))
 have c4 := @A82 (C6 ts) none (some 1)
 refine ⟨fun ρ' => 4 <= y /\ ρ' = [Sl.hd, Sl.sh (.int S), Sl.o2 (ts.map A3), Sl.sh (.int ((s : Nat) : Int)), Sl.sh (.int ((a : Nat) : Int)), Sl.sh (oD o), Sl.sh (.int y), .no], ?_, ?_⟩
 ·left
  refine ⟨rfl, rfl, T6 _ _, ?_⟩
  rw [T7]
  by_cases c : y = 0
  ·subst c
   rw [if_pos (by decide), A73]
   refine ⟨by omega, q _ ⟨_, rfl, by rw [M7]; omega, ap (fun d hd => rt d (A74 hd)) fun d hd => rt d (A74 hd)⟩⟩
  ·rw [show (y == 0) = false from beq_eq_false_iff_ne.mpr c]
   exact L4 ⟨by omega, rfl⟩
 rintro ρ ⟨hy4, rfl⟩
 try dsimp only
 refine go ?_
 (try unfold L8); (try unfold P4)
 refine ⟨fun ρ' => ρ' = [Sl.hd, Sl.sh (.int S), Sl.o2 (ts.map A3), Sl.sh (.int ((s : Nat) : Int)), Sl.sh (.int ((a : Nat) : Int)), Sl.sh (oD o), Sl.sh (.int y), .no], ?_, ?_⟩
 ·left
  refine ⟨rfl, rfl, T6 _ _, ?_⟩
  rw [T7]
  by_cases c : y = 4
  ·subst c
   rw [if_pos (by decide), A73, ea]
   left
   refine ⟨by decide, by omega, q _ ⟨_, rfl, by rw [M7]; simp; omega, ap rt fun d hd => by rw [A0l.mp hd]; exact rr⟩⟩
  ·rw [show (y == 4) = false from beq_eq_false_iff_ne.mpr c]
   exact L4 rfl
 rintro ρ rfl
 try dsimp only
 refine go ?_
 (try unfold L8); (try unfold P4)
 refine ⟨fun ρ' => ρ' = [Sl.hd, Sl.sh (.int S), Sl.o2 (ts.map A3), Sl.sh (.int ((s : Nat) : Int)), Sl.sh (.int ((a : Nat) : Int)), Sl.sh (oD o), Sl.sh (.int y), .no], ?_, ?_⟩
 ·left
  refine ⟨rfl, rfl, T6 _ _, ?_⟩
  rw [T7]
  by_cases c : y = 5
  ·subst c
   rw [if_pos (by decide), A73, ea]
   left
   refine ⟨by decide, by omega, by omega, by rw [M7]; omega, q _ ⟨_, rfl, by rw [M1, M7, M7]; omega, fun d hd => ?_⟩⟩
   rcases K1.mp hd with rfl | hd
   ·exact rr
   ·exact ap (ap (fun d hd => rt d (A74 hd)) fun d hd => rt d (A74 hd)) (fun d hd => rt d (A74 hd)) d hd
  ·rw [show (y == 5) = false from beq_eq_false_iff_ne.mpr c]
   exact L4 rfl
 rintro ρ rfl
 try dsimp only
 refine go ?_
 left
 refine ⟨rfl, S + 1, rfl, by omega, by omega, fun v v0 v1 => ⟨by decide, ?_⟩⟩
 refine go ?_
 (try unfold L8); (try unfold P4)
 refine ⟨fun ρ' => ∃ cs : List PyData, 1 <= cs.length /\ cs.length <= 20 /\ (∀ d ∈ cs, OkI d) /\ ρ' = [Sl.hd, Sl.sh (.int S), Sl.o2 (ts.map A3), Sl.sh (.int ((s : Nat) : Int)), Sl.sh (.int ((a : Nat) : Int)), Sl.sh (oD o), Sl.sh (.int y), Sl.sh (.list cs)], ?_, ?_⟩
 ·have h8 : ∀ d ∈ [PyData.none, .int 0, .int S, .int (S + 1), .int (-1), .bool true, .str (Str.ofString "0"), .int v], OkI d := by
   intro d hd
   simp only [K1, List.not_mem_nil, or_false] at hd
   rcases hd with rfl | rfl | rfl | rfl | rfl | rfl | rfl | rfl
   ·exact .non
   ·exact .int (by decide) (by decide)
   ·exact .int (by omega) (by omega)
   ·exact .int (by omega) (by omega)
   ·exact .int (by decide) (by decide)
   ·exact .bl true
   ·exact .str0
   ·exact .int (by omega) (by omega)
  cases o with
  | none =>
   right
   exact ⟨_, by simp, by simp, h8, rfl⟩
  | some x =>
   have xb := ht.bd a x ho
   right
   refine M2 ⟨⟨by decide, by decide⟩, by decide, by decide, _, by simp, by simp, ?_, rfl⟩
   intro d hd
   rcases X5.mp (show d ∈ [PyData.none, .int 0, .int S, .int (S + 1), .int (-1), .bool true, .str (Str.ofString "0"), .int v] ++ [.int (x + 1), .int (x - 1), .int (x - 1), .int (x / 2)] from hd) with z | z
   ·exact h8 d z
   ·simp only [K1, List.not_mem_nil, or_false] at z
    rcases z with rfl | rfl | rfl | rfl
    ·exact .int (by omega) (by omega)
    ·exact .int (by omega) (by omega)
    ·exact .int (by omega) (by omega)
    ·exact .int (by omega) (by omega)
 rintro ρ ⟨cs, n1, n2, hcs, rfl⟩
 try dsimp only
 refine go ?_
 left
 refine ⟨rfl, cs.length, rfl, by omega, by omega, fun u u0 u1 => ?_⟩
 obtain ⟨u, rfl, hu⟩ := A4j u0 u1
 left
 refine B0w (P := OkI) ⟨_, W5 (J5 hu), hcs _ (List.getElem_mem hu)⟩ fun d hd => ?_
 rw [o0 (by rw [E4]; exact hs)]
 left
 rw [show (ts.map A3)[s]? = some (A3 (tbs ts s)) by rw [N1, d4 hs]; rfl]
 left
 rw [o0 (by rw [N2, tl]; exact ha)]
 left
 refine go ?_
 left
 rw [show lls ((ts.map A3).set s ((A3 (tbs ts s)).set a d)) = (C6 ts).set s (.list ((A3 (tbs ts s)).set a d)) by
  unfold lls C6
  rw [A8b, j5]
  rfl]
 refine q _ (B9f hT m2 s1 l2 (B0v (fun x hx => ?_) (by rw [L9, N2]; omega)))
 rcases B38 hx with z | rfl
 ·exact ti x z
 ·exact hd
end
def D0n : DSp := fun ds Q => ∃ (d : PyData) (m : Nat) (ws : List Wy) (S : Int) (sp : List Sp2) (b : Tb) (ts : List Tb), ds = [d, D4 m ws, .int S, .list (sp.map J0), .list (A3 b), .list (C6 ts)] /\ L1 m ws /\ 0 <= S /\ S <= 100000000000000000000 /\ A4l m sp /\ D1 m S b /\ A72 m ws S sp b ts /\ ∀ gs : List (List Tb), gs.length <= 4 -> (∀ g ∈ gs, O0 m ws S sp b g) -> Q (.list (gs.map fun g => .list (C6 g)))
theorem D0o {m : Nat} {ws : List Wy} {S : Int} {sp : List Sp2} {b : Tb} (ok : L1 m ws) (s0 : 0 <= S) (so : A4l m sp) (hb : D1 m S b) : O0 m ws S sp b (D8 (2 ^ sp.length) (D8 m (some S))) := by
 have g1 : ∀ p, p < m -> gt (D8 m (some S)) p = some S := fun p hp => by unfold gt; rw [A86, if_pos hp]; rfl
 have tb : D1 m S (D8 m (some S)) := ⟨A11, fun p x e => by
  rcases P8 p m with c | c
  ·rw [g1 p c] at e; cases e; omega
  ·rw [w6 (by rw [A11]; exact c)] at e; cases e⟩
 have ta : ∀ s, s < 2 ^ sp.length -> tbs (D8 (2 ^ sp.length) (D8 m (some S))) s = D8 m (some S) := fun s hs => by unfold tbs; rw [A86, if_pos hs]; rfl
 have top : ∀ (o : Option Int) p, p < m -> (∀ x, o = some x -> x <= S) -> leO o (gt (D8 m (some S)) p) := fun o p hp h => by
  rw [g1 p hp]
  cases o with
  | none => exact X0
  | some x => exact O8.mpr (h x rfl)
 refine ⟨A11, fun t ht => by rw [(List.mem_replicate.mp ht).2]; exact tb, fun t ht w hw => ?_, fun p => ?_, fun s hs k q hq _ => ?_⟩
 ·rw [(List.mem_replicate.mp ht).2]
  refine top _ _ (ok.en w hw) fun x e => ?_
  unfold K0 at e
  rw [g1 _ (ok.st w hw)] at e
  exact (A52 s0 e).2
 ·rw [ta 0 (X3 _)]
  rcases P8 p m with c | c
  ·exact top _ p c fun x e => (hb.bd p x e).2
  ·rw [w6 (by rw [hb.len]; exact c)]; exact X0
 ·rw [A11] at hs
  rw [ta s hs]
  exact top _ _ (so.pl q (N3 hq)) fun x e => (B8x s0 e).2
theorem B9g {m : Nat} {S : Int} : ∀ {ts us : List Tb}, h9 (fun _ t' => D1 m S t') ts us -> us.length = ts.length /\ ∀ t ∈ us, D1 m S t
 | _, _, .nil => ⟨rfl, fun t h => nomatch h⟩
 | _, _, .cons h t => by
  obtain ⟨a, b⟩ := B9g t
  refine ⟨by rw [M1, M1, a], fun x hx => ?_⟩
  rcases K1.mp hx with rfl | hx
  ·exact h
  ·exact b x hx
theorem B9h {R : Option Int -> Option Int -> Prop} (r0 : R none none) : ∀ {as bs : List (Option Int)}, h9 R as bs -> ∀ p, R (gt as p) (gt bs p)
 | _, _, .nil, p => by rw [w6 (M8 _)]; exact r0
 | _, _, .cons h _, 0 => h
 | _, _, .cons _ t, p + 1 => B9h r0 t p
theorem D0p {m : Nat} {S : Int} {b mo : Tb} (hb : D1 m S b) (h : h9 (fun o o' => leO o o' /\ ∀ x, o' = some x -> 0 <= x /\ x <= S) b mo) : D1 m S mo /\ leT b mo := by
 have g := B9h (R := fun o o' => leO o o' /\ ∀ x, o' = some x -> 0 <= x /\ x <= S) ⟨X0, fun x e => by cases e⟩ h
 exact ⟨⟨(by have z := B8r h; have := hb.len; omega), fun p x e => (g p).2 x e⟩, fun p => (g p).1⟩
section
variable {P : Program} {w : World} {K : A4} {mg : Str -> Option Value} {base : Heap}
theorem D0q (T : Txt K mg) : D3 P w K mg base CX0 11 T.a_lists T.d_lists ["_law_hand_here", "_law_land_here", "_law_store_here", "_law_springs_here", "_law_base", "_law_told"] (spD [.hd, .sh, .sh, .sh, .sh, .sh] D0n) := by
 have G_draw := @A1w P w K mg base T
 have b_draw := A1v T
 have G_table := @B8n P w K mg base T
 have b_table := B76 T
 have G_highest_by := @B81 P w K mg base T
 have b_highest_by := B74 T
 have G_closed := @D0j P w K mg base T
 have b_closed := C6t T
 refine G5 T.F_lists B0k rfl (fun C cdv A outer s H E hr => ⟨_, (@C9 _ _ _ _ _ _ (@A92 _ _ _ _ _ _ _ _ _ rfl (@A17 _ _ _ _ _ _ _ _ _ _ _ _ _ 6 _ _ _ _ _ B0k.nd rfl (B3 rfl) (M3.new (N := ["_law_hand_here", "_law_land_here", "_law_store_here", "_law_springs_here", "_law_base", "_law_told", "_law_more", "_law_good", "_law_drawn"]) (osc := A7 A0d) (by decide +kernel)) rfl (T2 (pv 4)) (fun _ => P3) (fun _ => (B18 (F8 U0 V0 (A1 (pv 9)) J6 (D2 _)) (A1 (pv 9)) (F2 K6 M4 (A1 (pv 9)) (C1 (B6 G_draw (hr.mono (by decide)) rfl T.mg_draw T.kp_draw b_draw .nil B7 (J7 (pv 0) (A2 (F2 K6 M4 (F2 A0t A05 (A1 (pv 2)) (A1 (pv 9))) B1) C0 J1) A0) (he := A0) (hpl := (A5 J1 A6))))))) (by rfl) (by first | exact .inl rfl | exact .inr rfl | assumption) (by rfl) (by rfl) (by intro _; rfl))) (@C9 _ _ _ _ _ _ (@g8 _ _ _ _ _ (@C8 _ _ 7 _ _ _ _ B0k.nd rfl (B3 rfl) (@L6 _ _ _ _ _ (@A8 _ _ _ _ _ _ (@D9 _ _ _ _ (@W9 _ _ _ _ _ _ _ _ rfl (@V5 _ _ _ _ _ _ _ _ _ _ _ _ _ _ _ (M3.new (N := ["_law_hand_here", "_law_land_here", "_law_store_here", "_law_springs_here", "_law_base", "_law_told", "_law_more", "_law_good", "_law_drawn"]) (osc := A7 A0d) (by decide +kernel)) rfl (T2 (pv 5)) (fun _ => P3) (fun _ => (@D9 _ _ _ _ (@W9 _ _ _ _ _ _ _ _ rfl (@V5 _ _ _ _ _ _ _ _ _ _ _ _ _ _ _ (M3.new (N := ["_law_hand_here", "_law_land_here", "_law_store_here", "_law_springs_here", "_law_base", "_law_told", "_law_more", "_law_good", "_law_drawn", "_law_table_here"]) (osc := { kind := .function, names := [(".0", .local), ("_law_table_here", .local), ("_law_base", .cell), ("_law_store_here", .cell)], isGenerator := false, isCoroutine := false }) (by decide +kernel)) rfl (T2 (pv 4)) (fun _ => P3) (fun _ => (A1 (pv 2))) (by rfl) (by rfl) (by intro _; rfl))))) (by rfl) (by rfl) (by intro _; rfl)))) (A8 (A1 (pv 5)) (A8 (C1 (B6 G_highest_by (hr.mono (by decide)) rfl T.mg_highest_by T.kp_highest_by b_highest_by .nil B7 (A2 (A1 (pv 1)) (A2 (A1 (pv 2)) (A2 (A1 (pv 3)) (A2 (A1 (pv 6)) C0 A0) A0) A0) A0) (he := A0) (hpl := (A5 A0 (A5 A0 (A5 A0 A6)))))) C5 E3) A0) S5)) (by rfl) (by first | exact .inl rfl | exact .inr rfl | assumption))) (@C9 _ _ _ _ _ _ (@O7 _ _ _ _ (@J3 _ _ _ _ _ _ _ _ _ (F8 A0w C2k (A1 (pv 2)) B1 (D2 _)) (@C9 _ _ _ _ _ _ (@A92 _ _ _ _ _ _ _ _ _ rfl (@A17 _ _ _ _ _ _ _ _ _ _ _ _ _ 8 _ _ _ _ _ B0k.nd rfl (B3 rfl) (M3.new (N := ["_law_hand_here", "_law_land_here", "_law_store_here", "_law_springs_here", "_law_base", "_law_told", "_law_more", "_law_good", "_law_drawn"]) (osc := A7 A0d) (by decide +kernel)) rfl (T2 (pv 5)) (fun _ => P3) (fun _ => (C1 (B6 G_table (hr.mono (by decide)) rfl T.mg_table T.kp_table b_table .nil B7 (J7 (pv 0) (A2 (B9 (pv 1) B1 (fun _ _ => rfl)) (A2 (A1 (pv 2)) C0 A0) C2) A0) (he := A0) (hpl := (A5 C2 (A5 A0 A6)))))) (by rfl) (by first | exact .inl rfl | exact .inr rfl | assumption) (by rfl) (by rfl) (by intro _; rfl))) (@B2 _ _ _ _ (@A1i _ _ _ _ _ _ (@Z4 _ _ _ _ (@j8 _ _ _ _ _ _ _ _ _ _ _ _ A0m A4r A4s A00 (pv 7) (C3 (C1 (B6 G_closed (hr.mono (by decide)) rfl T.mg_closed T.kp_closed b_closed .nil B7 (A2 (A1 (pv 1)) (A2 (A1 (pv 2)) (A2 (A1 (pv 3)) (A2 (A1 (pv 4)) (A2 (A1 (pv 8)) C0 A0) A0) A0) A0) A0) (he := A0) (hpl := (A5 A0 (A5 A0 (A5 A0 (A5 A0 A6))))))) D6 E3) (by rfl) (by rfl) (by rfl) (by rfl) (by rfl)) (by rfl))))) J2)) (B2 (D0 (A1 (pv 7))))))), fun ds Q hl h => ?_⟩)
 obtain ⟨d, m, ws, S, sp, b, ts, rfl, ok, s0, s1, so, hb, hS, q⟩ := h
 have m1 := ok.m1
 have m2 := ok.m2
 have few := so.few
 have p16 := pw4 sp.length (by omega)
 have pp := X3 sp.length
 have bl := hb.len
 have tl := hS.len
 array_get_dec
 refine ⟨⟨rfl, by rw [N2]; omega⟩, ?_⟩
 unfold A3
 refine B2t (f := oD) (g := oD) (R := fun o o' => leO o o' /\ ∀ x, o' = some x -> 0 <= x /\ x <= S) (fun o ho Q' q' => ?_) fun mo hA => ?_
 ·cases o with
  | none =>
   right
   exact q' none ⟨X0, fun x e => by cases e⟩
  | some x =>
   have xb : 0 <= x /\ x <= S := by
    obtain ⟨p, hp, e⟩ := p5.mp ho
    exact hb.bd p x (by unfold gt; rw [J5 hp, e]; rfl)
   right
   refine ⟨rfl, S - x + 1, rfl, by omega, by omega, fun v v0 v1 => ?_⟩
   exact q' (some (x + v)) ⟨O8.mpr (by omega), fun y e => by cases e; omega⟩
 rw [M0]
 obtain ⟨hmo, hle⟩ := D0p hb hA
 have nil_map : ∀ {α : Type} (f : α -> PyData) (xs : List α), [] ++ xs.map f = xs.map f := fun f xs => M0 _
 refine go ?_
 array_mem_dec
 refine ⟨⟨rfl, by rw [V9]; omega⟩, ?_⟩
 rw [show (C6 ts) = ts.map fun t => PyData.list (A3 t) from rfl]
 refine V7 (f := fun _ => .list (A3 (D8 m (some S)))) (fun t ht Q' q' => ?_) ?_
 ·array_mem_dec
  refine ⟨⟨rfl, by rw [E4]; omega⟩, ?_⟩
  refine V7 (f := fun _ => .int S) (fun o ho Q2 q2 => ?_) ?_
  ·left
   exact q2
  ·rw [M0, show b.map (fun _ => PyData.int S) = A3 (D8 m (some S)) by
    unfold A3; rw [List.map_const', bl, B9p]; rfl]
   exact q'
 rw [M0, show ts.map (fun _ => PyData.list (A3 (D8 m (some S)))) = C6 (D8 (2 ^ sp.length) (D8 m (some S))) by
  unfold C6; rw [List.map_const', tl, B9p]]
 rw [show (ts.map fun t => PyData.list (A3 t)) = C6 ts from rfl]
 refine ⟨m, ws, S, sp, mo, rfl, ok, s0, by omega, so, hmo, fun t2 hS2 => ⟨by decide, ?_⟩⟩
 have g1 := D0o ok s0 so hb
 have g2 := hS.lid
 have g3 := hS2.lid.low hle
 refine go ?_
 (try unfold L8); (try unfold P4)
 have G3 : ∀ g ∈ [D8 (2 ^ sp.length) (D8 m (some S)), ts, t2], O0 m ws S sp b g := by
  intro g hg
  simp only [K1, List.not_mem_nil, or_false] at hg
  rcases hg with rfl | rfl | rfl
  ·exact g1
  ·exact g2
  ·exact g3
 refine ⟨fun ρ' => ∃ (gs : List (List Tb)) (z8 : Sl), gs.length <= 4 /\ (∀ g ∈ gs, O0 m ws S sp b g) /\ ρ' = [Sl.hd, Sl.sh (D4 m ws), Sl.sh (.int S), Sl.sh (.list (sp.map J0)), Sl.sh (.list (A3 b)), Sl.sh (.list (C6 ts)), Sl.sh (.list (A3 mo)), Sl.ow (gs.map fun g => .list (C6 g)), z8], ?_, ?_⟩
 ·array_mem_dec
  by_cases c40 : S <= 40
  ·rw [if_pos (decide_eq_true c40)]
   refine ⟨⟨rfl, by rw [V9]; omega⟩, ?_⟩
   rw [show C6 ts = ts.map fun t => PyData.list (A3 t) from rfl]
   refine B2t (f := fun t => .list (A3 t)) (g := fun t => .list (A3 t)) (R := fun _ t' => D1 m S t') (fun t ht Q' q' => ?_) fun us hA => ?_
   ·right
    exact ⟨rfl, _, m, S, rfl, m2, s0, by omega, fun t' ht' => q' t' ht'⟩
   rw [M0]
   have hus : us.length = ts.length /\ ∀ t ∈ us, D1 m S t := B9g hA
   refine go ?_
   left
   refine ⟨m, ws, S, sp, b, us, rfl, ok, s0, so, hb, by rw [hus.1, tl], hus.2, fun vs hL => ?_⟩
   left
   refine ⟨by simp, [D8 (2 ^ sp.length) (D8 m (some S)), ts, t2, vs], _, by simp, fun g hg => ?_, rfl⟩
   rcases X5.mp (show g ∈ [D8 (2 ^ sp.length) (D8 m (some S)), ts, t2] ++ [vs] from hg) with z | z
   ·exact G3 g z
   ·rw [A0l.mp z]; exact hL
  ·rw [if_neg (by rw [decide_eq_false c40]; decide)]
   exact ⟨_, _, by simp, G3, rfl⟩
 rintro ρ ⟨gs, z8, hl4, hG, rfl⟩
 try dsimp only
 refine go ?_
 left
 exact q gs hl4 hG
end
def B0x (K : A4) : Sp := fun vs H Q _ => ∃ (a : Addr) (ns : List Int), vs = [.ref a] /\ SqL K H a (ns.map V.int) /\ ns.length <= 63 /\ ∀ H', Q (.bl true) H'
def D0r : DSp := fun ds Q => ∃ a b : Option Int, ds = [oD a, oD b] /\ leO b a /\ Q (.bool true)
section
variable {P : Program} {w : World} {K : A4} {mg : Str -> Option Value} {base : Heap}
theorem D0s (T : Txt K mg) : D3 P w K mg base CX0 1 T.a_no_less T.d_no_less ["_law_one", "_law_other"] (spD [.sh, .sh] D0r) := by
 refine G5 T.F_no_less B70 rfl (fun C cdv A outer s H E hr => ⟨_, (B2 (D0 (A9u (Z6 U0 V0 (A1 (pv 1)) J6 (D2 _)) (Z7 (A04 (Z6 e9 v4 (A1 (pv 0)) J6 (D2 _)) (Z7 (Z6 B1k C2l (A1 (pv 0)) (A1 (pv 1)) (D2 _)))))))), fun ds Q hl h => ?_⟩)
 obtain ⟨a, b, rfl, hle, q⟩ := h
 cases b with
 | none =>
  right
  exact q
 | some y =>
  cases a with
  | none => exact absurd hle i7
  | some x =>
   right
   rw [decide_eq_true (O8.mp hle)]
   exact q
end
section
variable {P : Program} {w : World} {K : A4} {mg : Str -> Option Value} {base : Heap}
theorem D0t (T : Txt K mg) : D3 P w K mg base CX0 12 T.a_law T.d_law ["_law_script"] (B0x K) := by
 have G_hand : D3 P w K mg base CX0 1 T.a_hand T.d_hand ["_law_script"] (B50 K) := C6w T
 have b_hand := C6i T
 have G_draw := @A1w P w K mg base T
 have b_draw := A1v T
 have G_store := @C8y P w K mg base T
 have b_store := C6l T
 have G_land := @C8z P w K mg base T
 have b_land := C6m T
 have G_springs := @C9w P w K mg base T
 have b_springs := C6n T
 have G_table := @B8n P w K mg base T
 have b_table := B76 T
 have G_highest_by := @B81 P w K mg base T
 have b_highest_by := B74 T
 have G_lists := @D0q P w K mg base T
 have b_lists := C6v T
 have G_is_spring_lid := @C99 P w K mg base T
 have b_is_spring_lid := C6h T
 have G_law_is_spring_lid := @D0c P w K mg base T
 have b_law_is_spring_lid := C6r T
 have G_no_less := @D0s P w K mg base T
 have b_no_less := B78 T
 have G_spoilt := @D0m P w K mg base T
 have b_spoilt := C6u T
 refine T.F_law.ok R6 (fun vs H Q E h => ?_) (fun cdv A outer s H vs Q E hr h => ?_)
 ·obtain ⟨a, ns, rfl, _⟩ := h
  rfl
 ·obtain ⟨a, ns, rfl, hS, hlen, k⟩ := h
  refine ⟨_, (@O5 _ _ _ _ _ (C8 (i := 1) R6.nd rfl (B3 rfl) (B6 G_hand (hr.mono (by decide)) rfl T.mg_hand T.kp_hand b_hand .nil B7 (C3 (pv 0) D6 A0) (he := A0) (hpl := A6))) (@C3h _ _ _ (fun C => (@C9 _ _ _ _ _ _ (@E1 _ _ _ _ _ (C8 (i := 2) R6.nd rfl (B3 rfl) (K7 (D9 (L6 (A8 B1 (A8 B1 (A8 (F2 A0v A2n B1 B1) C5 J1) G1) G1))) (C1 (B6 G_draw (hr.mono (by decide)) rfl T.mg_draw T.kp_draw b_draw .nil B7 (J7 (pv 1) (A2 B1 C0 G1) A0) (he := A0) (hpl := (A5 G1 A6)))) (fun _ _ => rfl)))) (@C9 _ _ _ _ _ _ (E1 (C8 (i := 3) R6.nd rfl (B3 rfl) (C1 (B6 G_store (hr.mono (by decide)) rfl T.mg_store T.kp_store b_store .nil B7 (J7 (pv 1) (A2 (A1 (pv 2)) C0 A0) A0) (he := A0) (hpl := (A5 A0 A6)))))) (@C9 _ _ _ _ _ _ (@B2n _ _ _ _ _ (@S9 _ _ _ _ _ _ (@K7 _ _ _ _ _ _ _ (D9 (L6 (A8 (Q8 (A8 B1 (A8 B1 (A8 B1 C5 G1) G1) G1)) (A8 (Q8 (A8 B1 (A8 B1 (A8 B1 C5 G1) G1) G1)) C5 A18) A18))) (P2 B6b (Y0 B4t rfl T.n_int A9r (A8 (Z6 (Z5 (Q3 hr)) Q0 (C1 (B6 G_draw (hr.mono (by decide)) rfl T.mg_draw T.kp_draw b_draw .nil B7 (J7 (pv 1) (A2 B1 C0 G1) A0) (he := A0) (hpl := (A5 G1 A6)))) B1 (D2 _)) C5 A9s) (he := A9s) (hpl := A6))) (fun _ _ => rfl)) (B2m (A0q (n := 3) rfl (S3 (K3 (i := 4) R6.nd rfl (B3 rfl)) (S3 (K3 (i := 5) R6.nd rfl (B3 rfl)) (S3 (K3 (i := 6) R6.nd rfl (B3 rfl)) A0p))))) (by rfl) (by rfl) (by rfl))) (@C9 _ _ _ _ _ _ (E1 (C8 (i := 7) R6.nd rfl (B3 rfl) (C1 (B6 G_land (hr.mono (by decide)) rfl T.mg_land T.kp_land b_land .nil B7 (J7 (pv 1) (A2 (A1 (pv 4)) (A2 (A1 (pv 5)) (A2 (A1 (pv 2)) C0 A0) A0) A0) A0) (he := A0) (hpl := (A5 A0 (A5 A0 (A5 A0 A6)))))))) (@C9 _ _ _ _ _ _ (E1 (C8 (i := 8) R6.nd rfl (B3 rfl) (C1 (B6 G_springs (hr.mono (by decide)) rfl T.mg_springs T.kp_springs b_springs .nil B7 (J7 (pv 1) (A2 (B9 (pv 7) B1 (fun _ _ => rfl)) (A2 (A1 (pv 3)) (A2 (A1 (pv 6)) C0 A0) A0) C2) A0) (he := A0) (hpl := (A5 C2 (A5 A0 (A5 A0 A6)))))))) (@C9 _ _ _ _ _ _ (E1 (C8 (i := 9) R6.nd rfl (B3 rfl) (C1 (B6 G_table (hr.mono (by decide)) rfl T.mg_table T.kp_table b_table .nil B7 (J7 (pv 1) (A2 (B9 (pv 7) B1 (fun _ _ => rfl)) (A2 (A1 (pv 3)) C0 A0) C2) A0) (he := A0) (hpl := (A5 C2 (A5 A0 A6))))))) (@C9 _ _ _ _ _ _ (E1 (C8 (i := 10) R6.nd rfl (Or.inr rfl) (C1 (B6 G_highest_by (hr.mono (by decide)) rfl T.mg_highest_by T.kp_highest_by b_highest_by .nil B7 (A2 (A1 (pv 7)) (A2 (A1 (pv 3)) (A2 (A1 (pv 8)) (A2 (A1 (pv 9)) C0 A0) A0) A0) A0) (he := A0) (hpl := (A5 A0 (A5 A0 (A5 A0 A6)))))))) (@C9 _ _ _ _ _ _ (@O7 _ _ _ _ (@P5 _ _ _ _ _ _ (@P0 _ _ _ _ _ _ _ _ N4 rfl (@A5g _ _ _ _ _ (C1 (B6 G_lists (hr.mono (by decide)) rfl T.mg_lists T.kp_lists b_lists .nil B7 (J7 (pv 1) (A2 (A1 (pv 7)) (A2 (A1 (pv 3)) (A2 (A1 (pv 8)) (A2 (A1 (pv 9)) (A2 (A1 (pv 10)) C0 A0) A0) A0) A0) A0) A0) (he := A0) (hpl := (A5 A0 (A5 A0 (A5 A0 (A5 A0 (A5 A0 A6))))))))) (T3 (K3 (i := 11) R6.nd rfl (Or.inr rfl))) (@C9 _ _ _ _ _ _ (@A92 _ _ _ _ _ _ _ _ _ rfl (@A17 _ _ _ _ _ _ _ _ _ _ _ _ _ 12 _ _ _ _ _ R6.nd rfl (B3 rfl) (M3.new (N := ["_law_script", "_law_hand_here", "_law_scale_here", "_law_store_here", "_law_places", "_law_many", "_law_most", "_law_land_here", "_law_springs_here", "_law_base", "_law_told", "_law_tables", "_law_kept", "_law_some", "_law_k", "_law_thing", "_law_due", "_law_found"]) (osc := A7 Y6) (by decide +kernel)) rfl (T2 (pv 11)) (fun _ => P3) (fun _ => (D9 (A09 (Y0 t6 rfl T.n_list W6 (C3 (pv 18) D6 A0) (he := A0) (hpl := A6))))) (by rfl) (by first | exact .inl rfl | exact .inr rfl | assumption) (by rfl) (by rfl) (by intro _; rfl))) (@C9 _ _ _ _ _ _ (@J3 _ _ _ _ _ _ _ _ _ (@F8 _ _ _ _ _ _ _ _ _ _ C11 C3e (@C1 _ _ _ _ _ _ _ (@B6 _ _ _ _ _ _ _ _ _ _ _ _ _ _ _ _ G_is_spring_lid (hr.mono (by decide)) rfl T.mg_is_spring_lid T.kp_is_spring_lid b_is_spring_lid .nil B7 (A2 (A1 (pv 7)) (A2 (A1 (pv 3)) (A2 (D9 (A09 (Y0 t6 rfl T.n_list W6 (C3 (pv 8) D6 A0) (he := A0) (hpl := A6)))) (A2 (D9 (A09 (Y0 t6 rfl T.n_list W6 (C3 (pv 9) D6 A0) (he := A0) (hpl := A6)))) (A2 (A1 (pv 11)) C0 A0) E3) E3) A0) A0) (by decide) A0 ((A5 A0 (A5 E3 (A5 E3 (A5 A0 A6))))))) O6 (D2 _)) (B2 (D0 O6)) J2) (@C9 _ _ _ _ _ _ (J3 (F8 (t8 (Q3 hr)) Q0 (A1 (pv 11)) (A1 (pv 12)) (D2 _))
   (B2 (D0 O6))
   J2) (@C9 _ _ _ _ _ _ (@O7 _ _ _ _ (@P5 _ _ _ _ _ _ (@P0 _ _ _ _ _ _ _ _ N4 rfl (U2 (T8 rfl T.n_range (A8 (S6 (F9 N6 rfl T.n_len N7 (C3 (pv 10) D6 A0) (he := A0) (hpl := A6))) C5 E3))) (T3 (K3 (i := 13) R6.nd rfl (Or.inr rfl))) (@B2 _ _ _ _ (@J3 _ _ _ _ _ _ _ _ _ (@g5 _ _ _ _ _ (@U9 _ _ _ _ (@P2 _ _ _ _ _ _ A5c (@F9 _ _ _ _ _ _ _ _ _ (A44 rfl) rfl T.n_all A45 (@A8 _ _ _ _ _ _ (@D9 _ _ _ _ (@C4f _ _ _ _ _ _ _ _ (@V5 _ _ _ _ _ _ _ _ _ _ _ _ _ _ _ (M3.old (N := ["_law_script", "_law_hand_here", "_law_scale_here", "_law_store_here", "_law_places", "_law_many", "_law_most", "_law_land_here", "_law_springs_here", "_law_base", "_law_told", "_law_tables", "_law_kept", "_law_some", "_law_k", "_law_thing", "_law_due", "_law_found"]) (osc := A7 Y6) (j := 14) (by decide +kernel)) rfl (U2 (T8 rfl T.n_range (A8 (B9 (pv 7) B1 (fun _ _ => rfl)) C5 C2))) (fun _ => P3) (fun _ => (C1 (B6 G_no_less (hr.mono (by decide)) rfl T.mg_no_less T.kp_no_less b_no_less .nil B7 (A2 (K7 (B9 (pv 11) (A1 (pv 13)) (fun _ _ => rfl)) (A1 (pv 14)) (fun _ _ => rfl)) (A2 (K7 (B9 (pv 10) (A1 (pv 13)) (fun _ _ => rfl)) (A1 (pv 14)) (fun _ _ => rfl)) C0 C2) C2) (he := C2) (hpl := (A5 C2 A6))))) (by rfl) (by rfl) (by intro _; rfl)))) C5 S5) (by decide) (by decide) S5 A6)) (by intro _; rfl))) (B2 (D0 O6)) J2)) (by intro _; rfl)))) (@B2 _ _ _ _ (@P5 _ _ _ _ _ _ (@P0 _ _ _ _ _ _ _ _ N4 rfl (U2 (T8 rfl T.n_range (A8 B1 C5 G1))) (T3 (K3 (i := 14) R6.nd rfl (B3 rfl))) (@C9 _ _ _ _ _ _ (E1 (C8 (i := 15) R6.nd rfl (B3 rfl) (C1 (B6 G_spoilt (hr.mono (by decide)) rfl T.mg_spoilt T.kp_spoilt b_spoilt .nil B7 (J7 (pv 1) (A2 (A1 (pv 3)) (A2 (A1 (pv 11)) C0 A0) A0) A0) (he := A0) (hpl := (A5 A0 (A5 A0 A6))))))) (@C9 _ _ _ _ _ _ (@E1 _ _ _ _ _ (@C8 _ _ 16 _ _ _ _ R6.nd rfl (B3 rfl) (@Q8 _ _ _ _ _ _ (@A8 _ _ _ _ _ _ (@C1 _ _ _ _ _ _ _ (B6 G_law_is_spring_lid (hr.mono (by decide)) rfl T.mg_law_is_spring_lid T.kp_law_is_spring_lid b_law_is_spring_lid .nil B7 (A2 (A1 (pv 7)) (A2 (A1 (pv 3)) (A2 (A1 (pv 8)) (A2 (A1 (pv 9)) (A2 (A1 (pv 15)) C0 A0) A0) A0) A0) A0) (he := A0) (hpl := (A5 A0 (A5 A0 (A5 A0 (A5 A0 A6))))))) (A8 (B7k (F9 (B5w hr.gd hr.units) rfl T.n_repr B7i (C3 (A1 (pv 15)) D6 A0) (he := A0) (hpl := A6))) C5 E3) E3)) (by rfl) (by first | exact .inl rfl | exact .inr rfl | assumption))) (@C9 _ _ _ _ _ _ (@E1 _ _ _ _ _ (@C8 _ _ 17 _ _ _ _ R6.nd rfl (B3 rfl) (C1 (B6 G_is_spring_lid (hr.mono (by decide)) rfl T.mg_is_spring_lid T.kp_is_spring_lid b_is_spring_lid .nil B7 (A2 (A1 (pv 7)) (A2 (A1 (pv 3)) (A2 (A1 (pv 8)) (A2 (A1 (pv 9)) (A2 (A1 (pv 15)) C0 A0) A0) A0) A0) A0) (he := A0) (hpl := (A5 A0 (A5 A0 (A5 A0 (A5 A0 A6))))))) (by rfl) (by first | exact .inl rfl | exact .inr rfl | assumption))) (@B2 _ _ _ _ (@J3 _ _ _ _ _ _ _ _ _ (PW.pt (@W7 _ _ _ _ _ _ _ _ (g5 (U9 (v6 B2e (F9 u8 rfl T.n_isinstance t9 (C3 (pv 17) (C3 (r8 (v := V.ty "bool") rfl T.n_bool B10 rfl) D6 A0) A0) (he := A0) (hpl := (A5 A0 A6)))))) (Y2 (F8 (t8 (Q3 hr)) Q0 (Q8 (A8 (A1 (pv 17)) (A8 (B7k (F9 (B5w hr.gd hr.units) rfl T.n_repr B7i (C3 (A1 (pv 15)) D6 A0) (he := A0) (hpl := A6))) C5 E3) A0)) (A1 (pv 16)) (D2 _))))) (B2 (D0 O6)) J2))))) (by intro _; rfl)))))))) (by intro _; rfl)))) (@C9 _ _ _ _ _ _ (@E1 _ _ _ _ _ (@C8 _ _ 13 _ _ _ _ R6.nd rfl (Or.inr rfl) (@D9 _ _ _ _ (@L6 _ _ _ _ _ (A8 J6 (A8 B1 (A8 B52 (A8 (Q8 C5) (A8 (C4l (Y0 B48 rfl T.n_tuple B5l (C3 (pv 10) D6 A0) (he := A0) (hpl := A6))) (A8 (B9 (pv 10) B1 (fun _ _ => rfl)) (A8 (D9 (L6 C5)) (A8 B7f C5 C10) B5n) C2) E3) A18) G1) G1) G1))) (by rfl) (by first | exact .inl rfl | exact .inr rfl | assumption))) (@C9 _ _ _ _ _ _ (@E1 _ _ _ _ _ (@C8 _ _ 13 _ _ _ _ R6.nd rfl (Or.inr rfl) (@D9 _ _ _ _ (@Z9 _ _ _ _ _ _ _ (A1 (pv 13)) (@D9 _ _ _ _ (@L6 _ _ _ _ _ (@A8 _ _ _ _ _ _ (@D9 _ _ _ _ (@W9 _ _ _ _ _ _ _ _ rfl (V5 (M3.new (N := ["_law_script", "_law_hand_here", "_law_scale_here", "_law_store_here", "_law_places", "_law_many", "_law_most", "_law_land_here", "_law_springs_here", "_law_base", "_law_told", "_law_tables", "_law_kept", "_law_some", "_law_k", "_law_thing", "_law_due", "_law_found"]) (osc := A7 Y6) (by decide +kernel)) rfl (T2 (pv 10)) (fun _ => P3) (fun _ => J6)))) (@A8 _ _ _ _ _ _ (@D9 _ _ _ _ (@W9 _ _ _ _ _ _ _ _ rfl (V5 (M3.new (N := ["_law_script", "_law_hand_here", "_law_scale_here", "_law_store_here", "_law_places", "_law_many", "_law_most", "_law_land_here", "_law_springs_here", "_law_base", "_law_told", "_law_tables", "_law_kept", "_law_some", "_law_k", "_law_thing", "_law_due", "_law_found"]) (osc := A7 Y6) (by decide +kernel)) rfl (T2 (pv 10)) (fun _ => P3) (fun _ => B7f)))) C5 S5) S5))))) (by rfl) (by first | exact .inl rfl | exact .inr rfl | assumption))) (@B2 _ _ _ _ (@D0 _ _ _ _ _ (@Z6 _ _ _ _ _ _ _ _ _ _ C16 C3d (@C1 _ _ _ _ _ _ _ (@B6 _ _ _ _ _ _ _ _ _ _ _ _ _ _ _ _ G_is_spring_lid (hr.mono (by decide)) rfl T.mg_is_spring_lid T.kp_is_spring_lid b_is_spring_lid .nil B7 (A2 (A1 (pv 7)) (A2 (A1 (pv 3)) (A2 (A1 (pv 8)) (A2 (A1 (pv 9)) (A2 (B9 (pv 13) (C1 (B6 G_draw (hr.mono (by decide)) rfl T.mg_draw T.kp_draw b_draw .nil B7 (J7 (pv 1) (A2 B1 C0 G1) A0) (he := A0) (hpl := (A5 G1 A6)))) (fun _ _ => rfl)) C0 C2) A0) A0) A0) A0) (by decide) A0 ((A5 A0 (A5 A0 (A5 A0 (A5 C2 A6))))))) O6 (D2 _))))))))))))))))), ?_⟩
  refine ⟨_, rfl, a, ns, rfl, hS, fun hd hl H1 _ _ d1 _ => ?_⟩
  refine C3i (k := 16) d1 k ?_
  simp only [j3, List.replicate_zero]
  clear k
  left
  refine ⟨⟨by decide, by decide, by decide⟩, by decide, rfl, 3, rfl, by decide, by decide, fun u u0 u1 => ?_⟩
  left
  refine B0w (P := fun d => ∃ v : Int, d = .int v /\ 1 <= v /\ v <= 1000000000000000000) ?_ ?_
  ·have hu : u = 0 \/ u = 1 \/ u = 2 := by omega
   rcases hu with rfl | rfl | rfl
   ·exact ⟨_, rfl, _, rfl, by decide, by decide⟩
   ·exact ⟨_, rfl, _, rfl, by decide, by decide⟩
   ·exact ⟨_, rfl, _, rfl, by decide, by decide⟩
  rintro _ ⟨sc, rfl, c0, c1⟩
  refine go ?_
  left
  refine ⟨rfl, _, _, rfl, by omega, c1, fun S s0 s1 => ?_⟩
  refine go ?_
  left
  refine ⟨by decide, by decide, by decide, rfl, 8, rfl, by decide, by decide, fun r r0 r1 => ?_⟩
  left
  refine ⟨rfl, rfl, T6 _ _, ?_⟩
  left
  obtain ⟨pl, wn, mo, p1, p2, w2, o2, hat⟩ : ∃ pl wn mo : Nat, 1 <= pl /\ pl <= 12 /\ wn <= 40 /\ mo <= 4 /\ atI [PyData.tuple [.int 4, .int 8, .int 4], .tuple [.int 12, .int 40, .int 1]] (if PyData.eqv (.int r) (.int 0) = true then (1 : Int) else 0) = some (.tuple [.int (pl : Nat), .int (wn : Nat), .int (mo : Nat)]) := by
   cases PyData.eqv (.int r) (.int 0) with
   | true => exact ⟨12, 40, 1, by decide, by decide, by decide, by decide, rfl⟩
   | false => exact ⟨4, 8, 4, by decide, by decide, by decide, by decide, rfl⟩
  rw [hat]
  left
  refine go ?_
  left
  refine ⟨rfl, _, pl, wn, sc, rfl, p1, p2, w2, c0, c1, fun m ws ok => ?_⟩
  have m1 := ok.m1
  have m2 := ok.m2
  refine go ?_
  right
  refine ⟨rfl, _, m, S, mo, rfl, m1, m2, s0, s1, o2, fun sp so => ?_⟩
  have few := so.few
  have p16 := pw4 sp.length (by omega)
  have pp := X3 sp.length
  refine go ?_
  right
  refine ⟨rfl, _, m, S, rfl, m2, s0, by omega, fun b hb => ?_⟩
  have bl := hb.len
  refine go ?_
  left
  refine ⟨m, ws, S, sp, b, rfl, ok, s0, by omega, so, hb, fun ts hT => ?_⟩
  have tl := hT.len
  have tt := hT.lid.tab
  refine go ?_
  (try unfold L8); (try unfold P4)
  refine ⟨fun ρ' => ∃ z11 z12 z13 z14 z15 z16 z17 : Sl, ρ' = [Sl.no, Sl.hd, Sl.sh (.int sc), Sl.sh (.int S), Sl.sh (.int (pl : Nat)), Sl.sh (.int (wn : Nat)), Sl.sh (.int (mo : Nat)), Sl.sh (D4 m ws), Sl.sh (.list (sp.map J0)), Sl.sh (.list (A3 b)), Sl.sh (.list (C6 ts)), z11, z12, z13, z14, z15, z16, z17], ?_, ?_⟩
  ·array_get_dec
   refine ⟨rfl, _, m, ws, S, sp, b, ts, rfl, ok, s0, s1, so, hb, hT, fun gs hl4 hG => ?_⟩
   array_get_dec
   refine ⟨fun r ρ => ∃ (R : List (List Tb)) (z11 z12 z13 z14 z15 z16 z17 : Sl), (∀ g ∈ R, O0 m ws S sp b g) /\ r = (R.map fun g => .list (C6 g)) /\ ρ = [Sl.no, Sl.hd, Sl.sh (.int sc), Sl.sh (.int S), Sl.sh (.int (pl : Nat)), Sl.sh (.int (wn : Nat)), Sl.sh (.int (mo : Nat)), Sl.sh (D4 m ws), Sl.sh (.list (sp.map J0)), Sl.sh (.list (A3 b)), Sl.sh (.list (C6 ts)), z11, z12, z13, z14, z15, z16, z17], ⟨gs, _, _, _, _, _, _, _, hG, rfl, rfl⟩, ?_, ?_⟩
   ·rintro x r ρ ⟨R, z11, z12, z13, z14, z15, z16, z17, hR, h1, rfl⟩
    cases R with
    | nil => cases h1
    | cons g R =>
     cases (show x :: r = PyData.list (C6 g) :: (R.map fun g => .list (C6 g)) from h1)
     have hg := hR g B4
     have gl := hg.len
     have LG : F1 2 (.list (C6 g)) := F1.lst fun d hd => by
      unfold C6 at hd
      obtain ⟨t, _, rfl⟩ := S2.mp hd
      exact F1.tab t
     have hTS : ThS (.list (C6 g)) := fun ds e => by
      cases e
      refine ⟨by rw [V9]; omega, fun r hr rs e => ?_⟩
      unfold C6 at hr
      obtain ⟨t, ht, rfl⟩ := S2.mp hr
      cases e
      rw [N2, (hg.tab t ht).len]; omega
     try dsimp only [Blk]
     array_get_dec
     refine ⟨⟨rfl, by rw [V9]; omega⟩, ?_⟩
     rw [show C6 g = g.map fun t => PyData.list (A3 t) from rfl]
     refine V7 (f := fun t => .list (A3 t)) (fun t ht Q' q' => ?_) ?_
     ·left
      exact q'
     rw [M0, show (g.map fun t => PyData.list (A3 t)) = C6 g from rfl]
     refine go ?_
     left
     refine ⟨m, ws, S, sp, b, _, rfl, ok, s0, so, hb, hTS, ?_⟩
     rw [B3q hg]
     left
     (try rw [if_neg (by decide)])
     refine go ?_
     left
     refine ⟨LG.1, LG.1, LG.dep (by decide) _, ?_⟩
     rw [LG.same]
     (try rw [if_neg (by decide)])
     refine go ?_
     (try unfold L8); (try unfold P4)
     refine ⟨fun ρ' => ∃ z13 z14 : Sl, ρ' = [Sl.no, Sl.hd, Sl.sh (.int sc), Sl.sh (.int S), Sl.sh (.int (pl : Nat)), Sl.sh (.int (wn : Nat)), Sl.sh (.int (mo : Nat)), Sl.sh (D4 m ws), Sl.sh (.list (sp.map J0)), Sl.sh (.list (A3 b)), Sl.sh (.list (C6 ts)), Sl.sh (.list (C6 g)), Sl.sh (.list (C6 g)), z13, z14, z15, z16, z17], ?_, ?_⟩
     ·array_get_dec
      rw [V9, Z1]
      refine ⟨⟨by omega, by omega⟩, ?_⟩
      refine ⟨fun r ρ => ∃ (k : Nat) (z13 z14 : Sl), r = (G7 0 ts.length).drop k /\ ρ = [Sl.no, Sl.hd, Sl.sh (.int sc), Sl.sh (.int S), Sl.sh (.int (pl : Nat)), Sl.sh (.int (wn : Nat)), Sl.sh (.int (mo : Nat)), Sl.sh (D4 m ws), Sl.sh (.list (sp.map J0)), Sl.sh (.list (A3 b)), Sl.sh (.list (C6 ts)), Sl.sh (.list (C6 g)), Sl.sh (.list (C6 g)), z13, z14, z15, z16, z17], ⟨0, _, _, rfl, rfl⟩, ?_, ?_⟩
      ·rintro x r ρ ⟨k, z13, z14, h2, rfl⟩
       obtain ⟨rfl, rfl, hk⟩ := A0g h2
       have hk2 : k < g.length := by omega
       have un := hT.under hg (B2x b) k hk
       try dsimp only [Blk]
       unfold D4
       left
       (try unfold A1p z4)
       array_mem_dec
       rw [show ((m : Nat) : Int).toNat = m by simp]
       refine ⟨⟨by omega, by omega⟩, ⟨rfl, rfl, by unfold G7; rw [E4, d7]; omega⟩, ?_⟩
       rw [B8q m]
       refine B7e (f := fun _ => .bool true) (fun p hp Q' q' => ?_) ?_
       ·have hp' := X4.mp hp
        left
        rw [A0i hk2]
        left
        rw [R8 (by rw [(hg.tab _ (Q4 hk2)).len]; exact hp')]
        left
        rw [A0i hk]
        left
        rw [R8 (by rw [(tt _ (Q4 hk)).len]; exact hp')]
        exact ⟨_, _, rfl, un p, q'⟩
       rw [M0]
       (try unfold gBs)
       left
       rw [A0h (fun _ => true)]
       left
       rw [A4k, show ((P6 m).all fun _ => true) = true from o9.mpr fun _ _ => rfl]
       (try rw [if_neg (by decide)])
       exact ⟨k + 1, _, _, rfl, rfl⟩
      ·rintro ρ ⟨k, z13, z14, h2, rfl⟩
       exact ⟨_, _, rfl⟩
     rintro ρ ⟨z13, z14, rfl⟩
     try dsimp only
     refine go ?_
     array_get_dec
     refine ⟨⟨by decide, by decide⟩, ?_⟩
     refine ⟨fun r ρ => ∃ z14 z15 z16 z17 : Sl, ρ = [Sl.no, Sl.hd, Sl.sh (.int sc), Sl.sh (.int S), Sl.sh (.int (pl : Nat)), Sl.sh (.int (wn : Nat)), Sl.sh (.int (mo : Nat)), Sl.sh (D4 m ws), Sl.sh (.list (sp.map J0)), Sl.sh (.list (A3 b)), Sl.sh (.list (C6 ts)), Sl.sh (.list (C6 g)), Sl.sh (.list (C6 g)), z13, z14, z15, z16, z17], ⟨_, _, _, _, rfl⟩, ?_, ?_⟩
     ·rintro x r ρ ⟨z14, z15, z16, z17, rfl⟩
      try dsimp only [Blk]
      left
      refine ⟨rfl, _, m, S, g, rfl, m1, m2, s0, s1, by omega, by omega, hg.tab, fun x hx => ?_⟩
      obtain ⟨ds, rfl, hl60, hds⟩ := hx
      have hX : ThS (.list ds) := fun ds' e => by cases e; exact ⟨by omega, fun r hr rs e => (hds r hr).2.2 rs e⟩
      have LX : F1 4 (.list ds) := F1.lst fun d hd => (hds d hd).2.1
      have hN := ShN.lst (N := 1500) (L := 60) (fun d hd => (hds d hd).1) hl60
      have hRp : PyData.canLay0 (.list ds) = true /\ PyData.showable (.list ds) = true /\ PyData.depth (.list ds) <= 60 /\ (PyData.shown (.list ds)).length <= sizeLine := ⟨LX.1, hN.2.1, Y9 LX.2 (by decide), by have := hN.2.2.1; rw [sizeLine_eq]; omega⟩
      have s5 : (PyData.str (PyData.shown (.list ds))).canLay0 = true := hN.2.2.2
      refine go ?_
      left
      refine ⟨m, ws, S, sp, b, _, rfl, ok, s0, so, hb, hX, hRp, by decide, go ?_⟩
      left
      refine ⟨m, ws, S, sp, b, _, rfl, ok, s0, so, hb, hX, go ?_⟩
      left
      (try rw [if_neg (by decide)])
      have LT : F1 1 (.tuple [.bool (slB m ws S sp b (.list ds)), .str (PyData.shown (.list ds))]) := F1.tup (F1.two (.bl _) (.str s5))
      refine ⟨hRp, by decide, LT.1, LT.1, LT.dep (by decide) _, ?_⟩
      rw [LT.same]
      (try rw [if_neg (by decide)])
      exact ⟨_, _, _, _, rfl⟩
     ·rintro ρ ⟨z14, z15, z16, z17, rfl⟩
      exact ⟨R, _, _, _, _, _, _, _, fun g h => hR g (A9 _ h), rfl, rfl⟩
   ·rintro ρ ⟨R, z11, z12, z13, z14, z15, z16, z17, hR, h1, rfl⟩
    exact ⟨_, _, _, _, _, _, _, rfl⟩
  rintro ρ ⟨z11, z12, z13, z14, z15, z16, z17, rfl⟩
  try dsimp only
  refine go ?_
  array_get_dec
  refine ⟨by decide, ?_⟩
  have h0 : 0 < ts.length := by omega
  rw [show (0 : Int) = ((0 : Nat) : Int) from rfl, A0i h0]
  left
  refine ⟨by decide, by decide, go ?_⟩
  array_mem_dec
  refine ⟨⟨rfl, by rw [V9]; omega⟩, ?_⟩
  rw [show C6 ts = ts.map fun t => PyData.list (A3 t) from rfl]
  refine V7 (f := fun _ => .none) (fun t ht Q' q' => ?_) ?_
  ·left
   exact q'
  rw [M0]
  refine ⟨⟨rfl, by rw [E4]; omega⟩, ?_⟩
  refine V7 (f := fun _ => .dict []) (fun t ht Q' q' => ?_) ?_
  ·left
   exact q'
  rw [M0]
  refine ⟨by decide, by decide, go ?_⟩
  left
  refine ⟨rfl, 10, rfl, by decide, by decide, fun u u0 u1 => ?_⟩
  left
  refine B0w (P := fun d => ThS d /\ slB m ws S sp b d = false) ?_ ?_
  ·have nl : ∀ {d : PyData}, (∀ ds, d ≠ .list ds) -> ThS d /\ slB m ws S sp b d = false := fun {d} h => ⟨fun ds e => absurd e (h ds), by
    unfold slB
    split
    ·exact absurd rfl (h _)
    ·rfl⟩
   have rw1 : ∀ {ds : List PyData}, 0 < ds.length -> ds.length <= 400 -> (∀ d ∈ ds, ∀ rs, d ≠ .list rs) -> ThS (.list ds) /\ slB m ws S sp b (.list ds) = false := fun {ds} h1 h2 h3 => ⟨fun ds' e => by cases e; exact ⟨h2, fun r hr rs e => absurd e (h3 r hr rs)⟩, B82 (by
    cases ds with
    | nil => exact absurd h1 (V3 _)
    | cons d ds =>
     show (R9 m S d && ds.all (R9 m S)) = false
     have : R9 m S d = false := by
      unfold R9
      split
      ·exact absurd rfl (h3 _ B4 _)
      ·rfl
     rw [this]; rfl)⟩
   have hu : u = 0 \/ u = 1 \/ u = 2 \/ u = 3 \/ u = 4 \/ u = 5 \/ u = 6 \/ u = 7 \/ u = 8 \/ u = 9 := by omega
   rcases hu with rfl | rfl | rfl | rfl | rfl | rfl | rfl | rfl | rfl | rfl
   ·exact ⟨_, rfl, nl fun ds e => nomatch e⟩
   ·exact ⟨_, rfl, nl fun ds e => nomatch e⟩
   ·exact ⟨_, rfl, nl fun ds e => nomatch e⟩
   ·exact ⟨_, rfl, nl fun ds e => nomatch e⟩
   ·exact ⟨_, rfl, nl fun ds e => nomatch e⟩
   ·have tl0 := (tt _ (Q4 h0)).len
    refine ⟨_, rfl, rw1 (by rw [N2]; omega) (by rw [N2]; omega) fun d hd rs e => ?_⟩
    unfold A3 at hd
    obtain ⟨o, _, rfl⟩ := S2.mp hd
    cases o <;> cases e
   ·exact ⟨_, rfl, (fun ds e => by cases e; exact ⟨by simp, fun r hr => nomatch hr⟩), B3p (by simp; omega)⟩
   ·exact ⟨_, rfl, nl fun ds e => nomatch e⟩
   ·refine ⟨_, rfl, rw1 (by rw [E4]; omega) (by rw [E4]; omega) fun d hd rs e => ?_⟩
    obtain ⟨_, _, rfl⟩ := S2.mp hd
    cases e
   ·refine ⟨_, rfl, rw1 (by rw [E4]; omega) (by rw [E4]; omega) fun d hd rs e => ?_⟩
    obtain ⟨_, _, rfl⟩ := S2.mp hd
    cases e
  rintro d ⟨hd1, hd2⟩
  refine ⟨m, ws, S, sp, b, d, rfl, ok, s0, so, hb, hd1, ?_⟩
  rw [hd2]
  rfl
end
section
variable {P : Program} {w : World} {K : A4} {mg : Str -> Option Value} {base : Heap}
theorem all_mk {l : PySem.W.OpenLaw} {w : World} {K : A4} {h : Heap} {mg : Str -> Option Value} {fa : Addr} (X : K.In h) (G : h.Ns mainGlobals mg) (hfa : mg "law" = some (.ref fa))
  {f0 : Addr} {od0 an0 : Option Addr} {sl0 : Array (Option Value)} {oc0 kV0 dc0 pm0 cd0 ct0 : Value} (a0 : C7 K mainGlobals "is_whole" = some (some (.ref f0))) (l0 : K.lookup f0 = some ⟨oc0, od0, .func (E5 "is_whole" "is_whole" (E8 A6q) (E2 A6q) (A7 A6q) .none kV0 dc0 pm0 an0 cd0 ct0), sl0⟩) (c0 : F4 K cd0 "is_whole" = true) (k0 : B5 K (.ref f0) = true)
  {f1 : Addr} {od1 an1 : Option Addr} {sl1 : Array (Option Value)} {oc1 kV1 dc1 pm1 cd1 ct1 : Value} (a1 : C7 K mainGlobals "is_level" = some (some (.ref f1))) (l1 : K.lookup f1 = some ⟨oc1, od1, .func (E5 "is_level" "is_level" (E8 A6r) (E2 A6r) (A7 A6r) .none kV1 dc1 pm1 an1 cd1 ct1), sl1⟩) (c1 : F4 K cd1 "is_level" = true) (k1 : B5 K (.ref f1) = true)
  {f2 : Addr} {od2 an2 : Option Addr} {sl2 : Array (Option Value)} {oc2 kV2 dc2 pm2 cd2 ct2 : Value} (a2 : C7 K mainGlobals "stepped" = some (some (.ref f2))) (l2 : K.lookup f2 = some ⟨oc2, od2, .func (E5 "stepped" "stepped" (E8 A6s) (E2 A6s) (A7 A6s) .none kV2 dc2 pm2 an2 cd2 ct2), sl2⟩) (c2 : F4 K cd2 "stepped" = true) (k2 : B5 K (.ref f2) = true)
  {f3 : Addr} {od3 an3 : Option Addr} {sl3 : Array (Option Value)} {oc3 kV3 dc3 pm3 cd3 ct3 : Value} (a3 : C7 K mainGlobals "levels_along" = some (some (.ref f3))) (l3 : K.lookup f3 = some ⟨oc3, od3, .func (E5 "levels_along" "levels_along" (E8 A6t) (E2 A6t) (A7 A6t) .none kV3 dc3 pm3 an3 cd3 ct3), sl3⟩) (c3 : F4 K cd3 "levels_along" = true) (k3 : B5 K (.ref f3) = true)
  {f4 : Addr} {od4 an4 : Option Addr} {sl4 : Array (Option Value)} {oc4 kV4 dc4 pm4 cd4 ct4 : Value} (a4 : C7 K mainGlobals "effect_of_none" = some (some (.ref f4))) (l4 : K.lookup f4 = some ⟨oc4, od4, .func (E5 "effect_of_none" "effect_of_none" (E8 A6u) (E2 A6u) (A7 A6u) .none kV4 dc4 pm4 an4 cd4 ct4), sl4⟩) (c4 : F4 K cd4 "effect_of_none" = true) (k4 : B5 K (.ref f4) = true)
  {f5 : Addr} {od5 an5 : Option Addr} {sl5 : Array (Option Value)} {oc5 kV5 dc5 pm5 cd5 ct5 : Value} (a5 : C7 K mainGlobals "effect_of_one" = some (some (.ref f5))) (l5 : K.lookup f5 = some ⟨oc5, od5, .func (E5 "effect_of_one" "effect_of_one" (E8 A6v) (E2 A6v) (A7 A6v) .none kV5 dc5 pm5 an5 cd5 ct5), sl5⟩) (c5 : F4 K cd5 "effect_of_one" = true) (k5 : B5 K (.ref f5) = true)
  {f6 : Addr} {od6 an6 : Option Addr} {sl6 : Array (Option Value)} {oc6 kV6 dc6 pm6 cd6 ct6 : Value} (a6 : C7 K mainGlobals "effect_of" = some (some (.ref f6))) (l6 : K.lookup f6 = some ⟨oc6, od6, .func (E5 "effect_of" "effect_of" (E8 A6w) (E2 A6w) (A7 A6w) .none kV6 dc6 pm6 an6 cd6 ct6), sl6⟩) (c6 : F4 K cd6 "effect_of" = true) (k6 : B5 K (.ref f6) = true)
  {f7 : Addr} {od7 an7 : Option Addr} {sl7 : Array (Option Value)} {oc7 kV7 dc7 pm7 cd7 ct7 : Value} (a7 : C7 K mainGlobals "passed" = some (some (.ref f7))) (l7 : K.lookup f7 = some ⟨oc7, od7, .func (E5 "passed" "passed" (E8 A6x) (E2 A6x) (A7 A6x) .none kV7 dc7 pm7 an7 cd7 ct7), sl7⟩) (c7 : F4 K cd7 "passed" = true) (k7 : B5 K (.ref f7) = true)
  {f8 : Addr} {od8 an8 : Option Addr} {sl8 : Array (Option Value)} {oc8 kV8 dc8 pm8 cd8 ct8 : Value} (a8 : C7 K mainGlobals "joined" = some (some (.ref f8))) (l8 : K.lookup f8 = some ⟨oc8, od8, .func (E5 "joined" "joined" (E8 A6y) (E2 A6y) (A7 A6y) .none kV8 dc8 pm8 an8 cd8 ct8), sl8⟩) (c8 : F4 K cd8 "joined" = true) (k8 : B5 K (.ref f8) = true)
  {f9 : Addr} {od9 an9 : Option Addr} {sl9 : Array (Option Value)} {oc9 kV9 dc9 pm9 cd9 ct9 : Value} (a9 : C7 K mainGlobals "is_place" = some (some (.ref f9))) (l9 : K.lookup f9 = some ⟨oc9, od9, .func (E5 "is_place" "is_place" (E8 A6z) (E2 A6z) (A7 A6z) .none kV9 dc9 pm9 an9 cd9 ct9), sl9⟩) (c9 : F4 K cd9 "is_place" = true) (k9 : B5 K (.ref f9) = true)
  {f10 : Addr} {od10 an10 : Option Addr} {sl10 : Array (Option Value)} {oc10 kV10 dc10 pm10 cd10 ct10 : Value} (a10 : C7 K mainGlobals "changes_of" = some (some (.ref f10))) (l10 : K.lookup f10 = some ⟨oc10, od10, .func (E5 "changes_of" "changes_of" (E8 A33) (E2 A33) (A7 A33) .none kV10 dc10 pm10 an10 cd10 ct10), sl10⟩) (c10 : F4 K cd10 "changes_of" = true) (k10 : B5 K (.ref f10) = true)
  {f11 : Addr} {od11 an11 : Option Addr} {sl11 : Array (Option Value)} {oc11 kV11 dc11 pm11 cd11 ct11 : Value} (a11 : C7 K mainGlobals "is_table" = some (some (.ref f11))) (l11 : K.lookup f11 = some ⟨oc11, od11, .func (E5 "is_table" "is_table" (E8 A34) (E2 A34) (A7 A34) .none kV11 dc11 pm11 an11 cd11 ct11), sl11⟩) (c11 : F4 K cd11 "is_table" = true) (k11 : B5 K (.ref f11) = true)
  {f12 : Addr} {od12 an12 : Option Addr} {sl12 : Array (Option Value)} {oc12 kV12 dc12 pm12 cd12 ct12 : Value} (a12 : C7 K mainGlobals "are_tables" = some (some (.ref f12))) (l12 : K.lookup f12 = some ⟨oc12, od12, .func (E5 "are_tables" "are_tables" (E8 A35) (E2 A35) (A7 A35) .none kV12 dc12 pm12 an12 cd12 ct12), sl12⟩) (c12 : F4 K cd12 "are_tables" = true) (k12 : B5 K (.ref f12) = true)
  {f13 : Addr} {od13 an13 : Option Addr} {sl13 : Array (Option Value)} {oc13 kV13 dc13 pm13 cd13 ct13 : Value} (a13 : C7 K mainGlobals "is_more" = some (some (.ref f13))) (l13 : K.lookup f13 = some ⟨oc13, od13, .func (E5 "is_more" "is_more" (E8 A60) (E2 A60) (A7 A60) .none kV13 dc13 pm13 an13 cd13 ct13), sl13⟩) (c13 : F4 K cd13 "is_more" = true) (k13 : B5 K (.ref f13) = true)
  {f14 : Addr} {od14 an14 : Option Addr} {sl14 : Array (Option Value)} {oc14 kV14 dc14 pm14 cd14 ct14 : Value} (a14 : C7 K mainGlobals "behind_way" = some (some (.ref f14))) (l14 : K.lookup f14 = some ⟨oc14, od14, .func (E5 "behind_way" "behind_way" (E8 A61) (E2 A61) (A7 A61) .none kV14 dc14 pm14 an14 cd14 ct14), sl14⟩) (c14 : F4 K cd14 "behind_way" = true) (k14 : B5 K (.ref f14) = true)
  {f15 : Addr} {od15 an15 : Option Addr} {sl15 : Array (Option Value)} {oc15 kV15 dc15 pm15 cd15 ct15 : Value} (a15 : C7 K mainGlobals "first_row" = some (some (.ref f15))) (l15 : K.lookup f15 = some ⟨oc15, od15, .func (E5 "first_row" "first_row" (E8 A62) (E2 A62) (A7 A62) .none kV15 dc15 pm15 an15 cd15 ct15), sl15⟩) (c15 : F4 K cd15 "first_row" = true) (k15 : B5 K (.ref f15) = true)
  {f16 : Addr} {od16 an16 : Option Addr} {sl16 : Array (Option Value)} {oc16 kV16 dc16 pm16 cd16 ct16 : Value} (a16 : C7 K mainGlobals "row_behind" = some (some (.ref f16))) (l16 : K.lookup f16 = some ⟨oc16, od16, .func (E5 "row_behind" "row_behind" (E8 A63) (E2 A63) (A7 A63) .none kV16 dc16 pm16 an16 cd16 ct16), sl16⟩) (c16 : F4 K cd16 "row_behind" = true) (k16 : B5 K (.ref f16) = true)
  {f17 : Addr} {od17 an17 : Option Addr} {sl17 : Array (Option Value)} {oc17 kV17 dc17 pm17 cd17 ct17 : Value} (a17 : C7 K mainGlobals "walk_to" = some (some (.ref f17))) (l17 : K.lookup f17 = some ⟨oc17, od17, .func (E5 "walk_to" "walk_to" (E8 A64) (E2 A64) (A7 A64) .none kV17 dc17 pm17 an17 cd17 ct17), sl17⟩) (c17 : F4 K cd17 "walk_to" = true) (k17 : B5 K (.ref f17) = true)
  {f18 : Addr} {od18 an18 : Option Addr} {sl18 : Array (Option Value)} {oc18 kV18 dc18 pm18 cd18 ct18 : Value} (a18 : C7 K mainGlobals "behind_ways" = some (some (.ref f18))) (l18 : K.lookup f18 = some ⟨oc18, od18, .func (E5 "behind_ways" "behind_ways" (E8 A65) (E2 A65) (A7 A65) .none kV18 dc18 pm18 an18 cd18 ct18), sl18⟩) (c18 : F4 K cd18 "behind_ways" = true) (k18 : B5 K (.ref f18) = true)
  {f19 : Addr} {od19 an19 : Option Addr} {sl19 : Array (Option Value)} {oc19 kV19 dc19 pm19 cd19 ct19 : Value} (a19 : C7 K mainGlobals "behind_part" = some (some (.ref f19))) (l19 : K.lookup f19 = some ⟨oc19, od19, .func (E5 "behind_part" "behind_part" (E8 A66) (E2 A66) (A7 A66) .none kV19 dc19 pm19 an19 cd19 ct19), sl19⟩) (c19 : F4 K cd19 "behind_part" = true) (k19 : B5 K (.ref f19) = true)
  {f20 : Addr} {od20 an20 : Option Addr} {sl20 : Array (Option Value)} {oc20 kV20 dc20 pm20 cd20 ct20 : Value} (a20 : C7 K mainGlobals "end_of" = some (some (.ref f20))) (l20 : K.lookup f20 = some ⟨oc20, od20, .func (E5 "end_of" "end_of" (E8 A67) (E2 A67) (A7 A67) .none kV20 dc20 pm20 an20 cd20 ct20), sl20⟩) (c20 : F4 K cd20 "end_of" = true) (k20 : B5 K (.ref f20) = true)
  {f21 : Addr} {od21 an21 : Option Addr} {sl21 : Array (Option Value)} {oc21 kV21 dc21 pm21 cd21 ct21 : Value} (a21 : C7 K mainGlobals "rows_from" = some (some (.ref f21))) (l21 : K.lookup f21 = some ⟨oc21, od21, .func (E5 "rows_from" "rows_from" (E8 A68) (E2 A68) (A7 A68) .none kV21 dc21 pm21 an21 cd21 ct21), sl21⟩) (c21 : F4 K cd21 "rows_from" = true) (k21 : B5 K (.ref f21) = true)
  {f22 : Addr} {od22 an22 : Option Addr} {sl22 : Array (Option Value)} {oc22 kV22 dc22 pm22 cd22 ct22 : Value} (a22 : C7 K mainGlobals "still_rises" = some (some (.ref f22))) (l22 : K.lookup f22 = some ⟨oc22, od22, .func (E5 "still_rises" "still_rises" (E8 A69) (E2 A69) (A7 A69) .none kV22 dc22 pm22 an22 cd22 ct22), sl22⟩) (c22 : F4 K cd22 "still_rises" = true) (k22 : B5 K (.ref f22) = true)
  {f23 : Addr} {od23 an23 : Option Addr} {sl23 : Array (Option Value)} {oc23 kV23 dc23 pm23 cd23 ct23 : Value} (a23 : C7 K mainGlobals "rising_walk" = some (some (.ref f23))) (l23 : K.lookup f23 = some ⟨oc23, od23, .func (E5 "rising_walk" "rising_walk" (E8 A36) (E2 A36) (A7 A36) .none kV23 dc23 pm23 an23 cd23 ct23), sl23⟩) (c23 : F4 K cd23 "rising_walk" = true) (k23 : B5 K (.ref f23) = true)
  {f24 : Addr} {od24 an24 : Option Addr} {sl24 : Array (Option Value)} {oc24 kV24 dc24 pm24 cd24 ct24 : Value} (a24 : C7 K mainGlobals "parted_at_round" = some (some (.ref f24))) (l24 : K.lookup f24 = some ⟨oc24, od24, .func (E5 "parted_at_round" "parted_at_round" (E8 A37) (E2 A37) (A7 A37) .none kV24 dc24 pm24 an24 cd24 ct24), sl24⟩) (c24 : F4 K cd24 "parted_at_round" = true) (k24 : B5 K (.ref f24) = true)
  {f25 : Addr} {od25 an25 : Option Addr} {sl25 : Array (Option Value)} {oc25 kV25 dc25 pm25 cd25 ct25 : Value} (a25 : C7 K mainGlobals "parts_by" = some (some (.ref f25))) (l25 : K.lookup f25 = some ⟨oc25, od25, .func (E5 "parts_by" "parts_by" (E8 A7a) (E2 A7a) (A7 A7a) .none kV25 dc25 pm25 an25 cd25 ct25), sl25⟩) (c25 : F4 K cd25 "parts_by" = true) (k25 : B5 K (.ref f25) = true)
  {f26 : Addr} {od26 an26 : Option Addr} {sl26 : Array (Option Value)} {oc26 kV26 dc26 pm26 cd26 ct26 : Value} (a26 : C7 K mainGlobals "filling_parts" = some (some (.ref f26))) (l26 : K.lookup f26 = some ⟨oc26, od26, .func (E5 "filling_parts" "filling_parts" (E8 A7b) (E2 A7b) (A7 A7b) .none kV26 dc26 pm26 an26 cd26 ct26), sl26⟩) (c26 : F4 K cd26 "filling_parts" = true) (k26 : B5 K (.ref f26) = true)
  {f27 : Addr} {od27 an27 : Option Addr} {sl27 : Array (Option Value)} {oc27 kV27 dc27 pm27 cd27 ct27 : Value} (a27 : C7 K mainGlobals "settled" = some (some (.ref f27))) (l27 : K.lookup f27 = some ⟨oc27, od27, .func (E5 "settled" "settled" (E8 A38) (E2 A38) (A7 A38) .none kV27 dc27 pm27 an27 cd27 ct27), sl27⟩) (c27 : F4 K cd27 "settled" = true) (k27 : B5 K (.ref f27) = true)
  {f28 : Addr} {od28 an28 : Option Addr} {sl28 : Array (Option Value)} {oc28 kV28 dc28 pm28 cd28 ct28 : Value} (a28 : C7 K mainGlobals "highest" = some (some (.ref f28))) (l28 : K.lookup f28 = some ⟨oc28, od28, .func (E5 "highest" "highest" (E8 A7c) (E2 A7c) (A7 A7c) .none kV28 dc28 pm28 an28 cd28 ct28), sl28⟩) (c28 : F4 K cd28 "highest" = true) (k28 : B5 K (.ref f28) = true)
  {f29 : Addr} {od29 an29 : Option Addr} {sl29 : Array (Option Value)} {oc29 kV29 dc29 pm29 cd29 ct29 : Value} (a29 : C7 K mainGlobals "covers" = some (some (.ref f29))) (l29 : K.lookup f29 = some ⟨oc29, od29, .func (E5 "covers" "covers" (E8 A39) (E2 A39) (A7 A39) .none kV29 dc29 pm29 an29 cd29 ct29), sl29⟩) (c29 : F4 K cd29 "covers" = true) (k29 : B5 K (.ref f29) = true)
  {f30 : Addr} {od30 an30 : Option Addr} {sl30 : Array (Option Value)} {oc30 kV30 dc30 pm30 cd30 ct30 : Value} (a30 : C7 K mainGlobals "leads_within" = some (some (.ref f30))) (l30 : K.lookup f30 = some ⟨oc30, od30, .func (E5 "leads_within" "leads_within" (E8 A4a) (E2 A4a) (A7 A4a) .none kV30 dc30 pm30 an30 cd30 ct30), sl30⟩) (c30 : F4 K cd30 "leads_within" = true) (k30 : B5 K (.ref f30) = true)
  {f31 : Addr} {od31 an31 : Option Addr} {sl31 : Array (Option Value)} {oc31 kV31 dc31 pm31 cd31 ct31 : Value} (a31 : C7 K mainGlobals "is_closed" = some (some (.ref f31))) (l31 : K.lookup f31 = some ⟨oc31, od31, .func (E5 "is_closed" "is_closed" (E8 A7d) (E2 A7d) (A7 A7d) .none kV31 dc31 pm31 an31 cd31 ct31), sl31⟩) (c31 : F4 K cd31 "is_closed" = true) (k31 : B5 K (.ref f31) = true)
  {f32 : Addr} {od32 an32 : Option Addr} {sl32 : Array (Option Value)} {oc32 kV32 dc32 pm32 cd32 ct32 : Value} (a32 : C7 K mainGlobals "alone" = some (some (.ref f32))) (l32 : K.lookup f32 = some ⟨oc32, od32, .func (E5 "alone" "alone" (E8 A7e) (E2 A7e) (A7 A7e) .none kV32 dc32 pm32 an32 cd32 ct32), sl32⟩) (c32 : F4 K cd32 "alone" = true) (k32 : B5 K (.ref f32) = true)
  {f33 : Addr} {od33 an33 : Option Addr} {sl33 : Array (Option Value)} {oc33 kV33 dc33 pm33 cd33 ct33 : Value} (a33 : C7 K mainGlobals "numbers_in" = some (some (.ref f33))) (l33 : K.lookup f33 = some ⟨oc33, od33, .func (E5 "numbers_in" "numbers_in" (E8 A4b) (E2 A4b) (A7 A4b) .none kV33 dc33 pm33 an33 cd33 ct33), sl33⟩) (c33 : F4 K cd33 "numbers_in" = true) (k33 : B5 K (.ref f33) = true)
  {f34 : Addr} {od34 an34 : Option Addr} {sl34 : Array (Option Value)} {oc34 kV34 dc34 pm34 cd34 ct34 : Value} (a34 : C7 K mainGlobals "level_by_spring" = some (some (.ref f34))) (l34 : K.lookup f34 = some ⟨oc34, od34, .func (E5 "level_by_spring" "level_by_spring" (E8 A7f) (E2 A7f) (A7 A7f) .none kV34 dc34 pm34 an34 cd34 ct34), sl34⟩) (c34 : F4 K cd34 "level_by_spring" = true) (k34 : B5 K (.ref f34) = true)
  {f35 : Addr} {od35 an35 : Option Addr} {sl35 : Array (Option Value)} {oc35 kV35 dc35 pm35 cd35 ct35 : Value} (a35 : C7 K mainGlobals "base_by" = some (some (.ref f35))) (l35 : K.lookup f35 = some ⟨oc35, od35, .func (E5 "base_by" "base_by" (E8 A7g) (E2 A7g) (A7 A7g) .none kV35 dc35 pm35 an35 cd35 ct35), sl35⟩) (c35 : F4 K cd35 "base_by" = true) (k35 : B5 K (.ref f35) = true)
  {f36 : Addr} {od36 an36 : Option Addr} {sl36 : Array (Option Value)} {oc36 kV36 dc36 pm36 cd36 ct36 : Value} (a36 : C7 K mainGlobals "highest_by" = some (some (.ref f36))) (l36 : K.lookup f36 = some ⟨oc36, od36, .func (E5 "highest_by" "highest_by" (E8 A7h) (E2 A7h) (A7 A7h) .none kV36 dc36 pm36 an36 cd36 ct36), sl36⟩) (c36 : F4 K cd36 "highest_by" = true) (k36 : B5 K (.ref f36) = true)
  {f37 : Addr} {od37 an37 : Option Addr} {sl37 : Array (Option Value)} {oc37 kV37 dc37 pm37 cd37 ct37 : Value} (a37 : C7 K mainGlobals "is_spring_lid" = some (some (.ref f37))) (l37 : K.lookup f37 = some ⟨oc37, od37, .func (E5 "is_spring_lid" "is_spring_lid" (E8 A1s) (E2 A1s) (A7 A1s) .none kV37 dc37 pm37 an37 cd37 ct37), sl37⟩) (c37 : F4 K cd37 "is_spring_lid" = true) (k37 : B5 K (.ref f37) = true)
  {f38 : Addr} {od38 an38 : Option Addr} {sl38 : Array (Option Value)} {oc38 kV38 dc38 pm38 cd38 ct38 : Value} (a38 : C7 K mainGlobals "_law_hand" = some (some (.ref f38))) (l38 : K.lookup f38 = some ⟨oc38, od38, .func (E5 "_law_hand" "_law_hand" (E8 A7i) (E2 A7i) (A7 A7i) .none kV38 dc38 pm38 an38 cd38 ct38), sl38⟩) (c38 : F4 K cd38 "_law_hand" = true) (k38 : B5 K (.ref f38) = true)
  {f39 : Addr} {od39 an39 : Option Addr} {sl39 : Array (Option Value)} {oc39 kV39 dc39 pm39 cd39 ct39 : Value} (a39 : C7 K mainGlobals "_law_next" = some (some (.ref f39))) (l39 : K.lookup f39 = some ⟨oc39, od39, .func (E5 "_law_next" "_law_next" (E8 A7j) (E2 A7j) (A7 A7j) .none kV39 dc39 pm39 an39 cd39 ct39), sl39⟩) (c39 : F4 K cd39 "_law_next" = true) (k39 : B5 K (.ref f39) = true)
  {f40 : Addr} {od40 an40 : Option Addr} {sl40 : Array (Option Value)} {oc40 kV40 dc40 pm40 cd40 ct40 : Value} (a40 : C7 K mainGlobals "_law_take" = some (some (.ref f40))) (l40 : K.lookup f40 = some ⟨oc40, od40, .func (E5 "_law_take" "_law_take" (E8 A7k) (E2 A7k) (A7 A7k) .none kV40 dc40 pm40 an40 cd40 ct40), sl40⟩) (c40 : F4 K cd40 "_law_take" = true) (k40 : B5 K (.ref f40) = true)
  {f41 : Addr} {od41 an41 : Option Addr} {sl41 : Array (Option Value)} {oc41 kV41 dc41 pm41 cd41 ct41 : Value} (a41 : C7 K mainGlobals "_law_draw" = some (some (.ref f41))) (l41 : K.lookup f41 = some ⟨oc41, od41, .func (E5 "_law_draw" "_law_draw" (E8 A7l) (E2 A7l) (A7 A7l) .none kV41 dc41 pm41 an41 cd41 ct41), sl41⟩) (c41 : F4 K cd41 "_law_draw" = true) (k41 : B5 K (.ref f41) = true)
  {f42 : Addr} {od42 an42 : Option Addr} {sl42 : Array (Option Value)} {oc42 kV42 dc42 pm42 cd42 ct42 : Value} (a42 : C7 K mainGlobals "_law_change" = some (some (.ref f42))) (l42 : K.lookup f42 = some ⟨oc42, od42, .func (E5 "_law_change" "_law_change" (E8 A7m) (E2 A7m) (A7 A7m) .none kV42 dc42 pm42 an42 cd42 ct42), sl42⟩) (c42 : F4 K cd42 "_law_change" = true) (k42 : B5 K (.ref f42) = true)
  {f43 : Addr} {od43 an43 : Option Addr} {sl43 : Array (Option Value)} {oc43 kV43 dc43 pm43 cd43 ct43 : Value} (a43 : C7 K mainGlobals "_law_store" = some (some (.ref f43))) (l43 : K.lookup f43 = some ⟨oc43, od43, .func (E5 "_law_store" "_law_store" (E8 A7n) (E2 A7n) (A7 A7n) .none kV43 dc43 pm43 an43 cd43 ct43), sl43⟩) (c43 : F4 K cd43 "_law_store" = true) (k43 : B5 K (.ref f43) = true)
  {f44 : Addr} {od44 an44 : Option Addr} {sl44 : Array (Option Value)} {oc44 kV44 dc44 pm44 cd44 ct44 : Value} (a44 : C7 K mainGlobals "_law_land" = some (some (.ref f44))) (l44 : K.lookup f44 = some ⟨oc44, od44, .func (E5 "_law_land" "_law_land" (E8 A7o) (E2 A7o) (A7 A7o) .none kV44 dc44 pm44 an44 cd44 ct44), sl44⟩) (c44 : F4 K cd44 "_law_land" = true) (k44 : B5 K (.ref f44) = true)
  {f45 : Addr} {od45 an45 : Option Addr} {sl45 : Array (Option Value)} {oc45 kV45 dc45 pm45 cd45 ct45 : Value} (a45 : C7 K mainGlobals "_law_table" = some (some (.ref f45))) (l45 : K.lookup f45 = some ⟨oc45, od45, .func (E5 "_law_table" "_law_table" (E8 A4c) (E2 A4c) (A7 A4c) .none kV45 dc45 pm45 an45 cd45 ct45), sl45⟩) (c45 : F4 K cd45 "_law_table" = true) (k45 : B5 K (.ref f45) = true)
  {f46 : Addr} {od46 an46 : Option Addr} {sl46 : Array (Option Value)} {oc46 kV46 dc46 pm46 cd46 ct46 : Value} (a46 : C7 K mainGlobals "_law_springs" = some (some (.ref f46))) (l46 : K.lookup f46 = some ⟨oc46, od46, .func (E5 "_law_springs" "_law_springs" (E8 A7p) (E2 A7p) (A7 A7p) .none kV46 dc46 pm46 an46 cd46 ct46), sl46⟩) (c46 : F4 K cd46 "_law_springs" = true) (k46 : B5 K (.ref f46) = true)
  {f47 : Addr} {od47 an47 : Option Addr} {sl47 : Array (Option Value)} {oc47 kV47 dc47 pm47 cd47 ct47 : Value} (a47 : C7 K mainGlobals "_law_step" = some (some (.ref f47))) (l47 : K.lookup f47 = some ⟨oc47, od47, .func (E5 "_law_step" "_law_step" (E8 A7q) (E2 A7q) (A7 A7q) .none kV47 dc47 pm47 an47 cd47 ct47), sl47⟩) (c47 : F4 K cd47 "_law_step" = true) (k47 : B5 K (.ref f47) = true)
  {f48 : Addr} {od48 an48 : Option Addr} {sl48 : Array (Option Value)} {oc48 kV48 dc48 pm48 cd48 ct48 : Value} (a48 : C7 K mainGlobals "_law_is_whole" = some (some (.ref f48))) (l48 : K.lookup f48 = some ⟨oc48, od48, .func (E5 "_law_is_whole" "_law_is_whole" (E8 A7r) (E2 A7r) (A7 A7r) .none kV48 dc48 pm48 an48 cd48 ct48), sl48⟩) (c48 : F4 K cd48 "_law_is_whole" = true) (k48 : B5 K (.ref f48) = true)
  {f49 : Addr} {od49 an49 : Option Addr} {sl49 : Array (Option Value)} {oc49 kV49 dc49 pm49 cd49 ct49 : Value} (a49 : C7 K mainGlobals "_law_is_table" = some (some (.ref f49))) (l49 : K.lookup f49 = some ⟨oc49, od49, .func (E5 "_law_is_table" "_law_is_table" (E8 A4d) (E2 A4d) (A7 A4d) .none kV49 dc49 pm49 an49 cd49 ct49), sl49⟩) (c49 : F4 K cd49 "_law_is_table" = true) (k49 : B5 K (.ref f49) = true)
  {f50 : Addr} {od50 an50 : Option Addr} {sl50 : Array (Option Value)} {oc50 kV50 dc50 pm50 cd50 ct50 : Value} (a50 : C7 K mainGlobals "_law_is_lid" = some (some (.ref f50))) (l50 : K.lookup f50 = some ⟨oc50, od50, .func (E5 "_law_is_lid" "_law_is_lid" (E8 A7s) (E2 A7s) (A7 A7s) .none kV50 dc50 pm50 an50 cd50 ct50), sl50⟩) (c50 : F4 K cd50 "_law_is_lid" = true) (k50 : B5 K (.ref f50) = true)
  {f51 : Addr} {od51 an51 : Option Addr} {sl51 : Array (Option Value)} {oc51 kV51 dc51 pm51 cd51 ct51 : Value} (a51 : C7 K mainGlobals "_law_is_spring_lid" = some (some (.ref f51))) (l51 : K.lookup f51 = some ⟨oc51, od51, .func (E5 "_law_is_spring_lid" "_law_is_spring_lid" (E8 A4e) (E2 A4e) (A7 A4e) .none kV51 dc51 pm51 an51 cd51 ct51), sl51⟩) (c51 : F4 K cd51 "_law_is_spring_lid" = true) (k51 : B5 K (.ref f51) = true)
  {f52 : Addr} {od52 an52 : Option Addr} {sl52 : Array (Option Value)} {oc52 kV52 dc52 pm52 cd52 ct52 : Value} (a52 : C7 K mainGlobals "_law_no_less" = some (some (.ref f52))) (l52 : K.lookup f52 = some ⟨oc52, od52, .func (E5 "_law_no_less" "_law_no_less" (E8 A7t) (E2 A7t) (A7 A7t) .none kV52 dc52 pm52 an52 cd52 ct52), sl52⟩) (c52 : F4 K cd52 "_law_no_less" = true) (k52 : B5 K (.ref f52) = true)
  {f53 : Addr} {od53 an53 : Option Addr} {sl53 : Array (Option Value)} {oc53 kV53 dc53 pm53 cd53 ct53 : Value} (a53 : C7 K mainGlobals "_law_lift" = some (some (.ref f53))) (l53 : K.lookup f53 = some ⟨oc53, od53, .func (E5 "_law_lift" "_law_lift" (E8 A7u) (E2 A7u) (A7 A7u) .none kV53 dc53 pm53 an53 cd53 ct53), sl53⟩) (c53 : F4 K cd53 "_law_lift" = true) (k53 : B5 K (.ref f53) = true)
  {f54 : Addr} {od54 an54 : Option Addr} {sl54 : Array (Option Value)} {oc54 kV54 dc54 pm54 cd54 ct54 : Value} (a54 : C7 K mainGlobals "_law_closed" = some (some (.ref f54))) (l54 : K.lookup f54 = some ⟨oc54, od54, .func (E5 "_law_closed" "_law_closed" (E8 A4f) (E2 A4f) (A7 A4f) .none kV54 dc54 pm54 an54 cd54 ct54), sl54⟩) (c54 : F4 K cd54 "_law_closed" = true) (k54 : B5 K (.ref f54) = true)
  {f55 : Addr} {od55 an55 : Option Addr} {sl55 : Array (Option Value)} {oc55 kV55 dc55 pm55 cd55 ct55 : Value} (a55 : C7 K mainGlobals "_law_spoilt" = some (some (.ref f55))) (l55 : K.lookup f55 = some ⟨oc55, od55, .func (E5 "_law_spoilt" "_law_spoilt" (E8 A4g) (E2 A4g) (A7 A4g) .none kV55 dc55 pm55 an55 cd55 ct55), sl55⟩) (c55 : F4 K cd55 "_law_spoilt" = true) (k55 : B5 K (.ref f55) = true)
  {f56 : Addr} {od56 an56 : Option Addr} {sl56 : Array (Option Value)} {oc56 kV56 dc56 pm56 cd56 ct56 : Value} (a56 : C7 K mainGlobals "_law_lists" = some (some (.ref f56))) (l56 : K.lookup f56 = some ⟨oc56, od56, .func (E5 "_law_lists" "_law_lists" (E8 A0d) (E2 A0d) (A7 A0d) .none kV56 dc56 pm56 an56 cd56 ct56), sl56⟩) (c56 : F4 K cd56 "_law_lists" = true) (k56 : B5 K (.ref f56) = true)
  {f57 : Addr} {od57 an57 : Option Addr} {sl57 : Array (Option Value)} {oc57 kV57 dc57 pm57 cd57 ct57 : Value} (a57 : C7 K mainGlobals "law" = some (some (.ref f57))) (l57 : K.lookup f57 = some ⟨oc57, od57, .func (E5 "law" "law" (E8 Y6) (E2 Y6) (A7 Y6) .none kV57 dc57 pm57 an57 cd57 ct57), sl57⟩) (c57 : F4 K cd57 "law" = true) (k57 : B5 K (.ref f57) = true)
  {tk_LEAST : Tok} (q_LEAST : C7 K mainGlobals "LEAST" = some (some (.int 0 tk_LEAST)))
  {tk_GAIN : Tok} (q_GAIN : C7 K mainGlobals "GAIN" = some (some (.int 1 tk_GAIN)))
  {tk_TOP : Tok} (q_TOP : C7 K mainGlobals "TOP" = some (some (.int 2 tk_TOP)))
  {tk_MANY : Tok} (q_MANY : C7 K mainGlobals "MANY" = some (some (.int 0 tk_MANY)))
  {tk_WAYS : Tok} (q_WAYS : C7 K mainGlobals "WAYS" = some (some (.int 1 tk_WAYS)))
  {tk_START : Tok} (q_START : C7 K mainGlobals "START" = some (some (.int 0 tk_START)))
  {tk_END : Tok} (q_END : C7 K mainGlobals "END" = some (some (.int 1 tk_END)))
  {tk_CHANGE : Tok} (q_CHANGE : C7 K mainGlobals "CHANGE" = some (some (.int 2 tk_CHANGE)))
  {tk_TABLE : Tok} (q_TABLE : C7 K mainGlobals "TABLE" = some (some (.int 0 tk_TABLE)))
  {tk_RISEN : Tok} (q_RISEN : C7 K mainGlobals "RISEN" = some (some (.int 1 tk_RISEN)))
  {tk_FROM : Tok} (q_FROM : C7 K mainGlobals "FROM" = some (some (.int 0 tk_FROM)))
  {tk_BY : Tok} (q_BY : C7 K mainGlobals "BY" = some (some (.int 1 tk_BY)))
  {tk_NUMBERS : Tok} (q_NUMBERS : C7 K mainGlobals "NUMBERS" = some (some (.int 0 tk_NUMBERS)))
  {tk_TIMES : Tok} (q_TIMES : C7 K mainGlobals "TIMES" = some (some (.int 1 tk_TIMES)))
  {tk_PLACE : Tok} (q_PLACE : C7 K mainGlobals "PLACE" = some (some (.int 0 tk_PLACE)))
  {tk_GIFT : Tok} (q_GIFT : C7 K mainGlobals "GIFT" = some (some (.int 1 tk_GIFT)))
  (z_abs : C7 K mainGlobals "abs" = some none)
  (z_all : C7 K mainGlobals "all" = some none)
  (z_any : C7 K mainGlobals "any" = some none)
  (z_bool : C7 K mainGlobals "bool" = some none)
  (z_enumerate : C7 K mainGlobals "enumerate" = some none)
  (z_int : C7 K mainGlobals "int" = some none)
  (z_isinstance : C7 K mainGlobals "isinstance" = some none)
  (z_len : C7 K mainGlobals "len" = some none)
  (z_list : C7 K mainGlobals "list" = some none)
  (z_max : C7 K mainGlobals "max" = some none)
  (z_min : C7 K mainGlobals "min" = some none)
  (z_range : C7 K mainGlobals "range" = some none)
  (z_repr : C7 K mainGlobals "repr" = some none)
  (z_reversed : C7 K mainGlobals "reversed" = some none)
  (z_tuple : C7 K mainGlobals "tuple" = some none)
  (z_zip : C7 K mainGlobals "zip" = some none) :
  ∃ fd : FuncData, (∀ (s : Shared) (v : Value), BindsTo s fd ⟨[v], []⟩ [("_law_script", v)]) /\ ∀ base : Heap, K.In base -> base.Ns mainGlobals mg -> D3 l.prog w K mg base CX0 12 fa fd ["_law_script"] (B0x K) := by
 have e := hfa.symm.trans (D7 X G a57)
 cases e
 let T : Txt K mg := {
  n_abs := W2 X G z_abs,
  n_all := W2 X G z_all,
  n_any := W2 X G z_any,
  n_bool := W2 X G z_bool,
  n_enumerate := W2 X G z_enumerate,
  n_int := W2 X G z_int,
  n_isinstance := W2 X G z_isinstance,
  n_len := W2 X G z_len,
  n_list := W2 X G z_list,
  n_max := W2 X G z_max,
  n_min := W2 X G z_min,
  n_range := W2 X G z_range,
  n_repr := W2 X G z_repr,
  n_reversed := W2 X G z_reversed,
  n_tuple := W2 X G z_tuple,
  n_zip := W2 X G z_zip,
  t_LEAST := tk_LEAST, mg_LEAST := D7 X G q_LEAST,
  t_GAIN := tk_GAIN, mg_GAIN := D7 X G q_GAIN,
  t_TOP := tk_TOP, mg_TOP := D7 X G q_TOP,
  t_MANY := tk_MANY, mg_MANY := D7 X G q_MANY,
  t_WAYS := tk_WAYS, mg_WAYS := D7 X G q_WAYS,
  t_START := tk_START, mg_START := D7 X G q_START,
  t_END := tk_END, mg_END := D7 X G q_END,
  t_CHANGE := tk_CHANGE, mg_CHANGE := D7 X G q_CHANGE,
  t_TABLE := tk_TABLE, mg_TABLE := D7 X G q_TABLE,
  t_RISEN := tk_RISEN, mg_RISEN := D7 X G q_RISEN,
  t_FROM := tk_FROM, mg_FROM := D7 X G q_FROM,
  t_BY := tk_BY, mg_BY := D7 X G q_BY,
  t_NUMBERS := tk_NUMBERS, mg_NUMBERS := D7 X G q_NUMBERS,
  t_TIMES := tk_TIMES, mg_TIMES := D7 X G q_TIMES,
  t_PLACE := tk_PLACE, mg_PLACE := D7 X G q_PLACE,
  t_GIFT := tk_GIFT, mg_GIFT := D7 X G q_GIFT,
  a_is_whole := f0, d_is_whole := _, F_is_whole := F5 (st := A6q) l0 c0 k0, mg_is_whole := D7 X G a0, kp_is_whole := k0,
  a_is_level := f1, d_is_level := _, F_is_level := F5 (st := A6r) l1 c1 k1, mg_is_level := D7 X G a1, kp_is_level := k1,
  a_stepped := f2, d_stepped := _, F_stepped := F5 (st := A6s) l2 c2 k2, mg_stepped := D7 X G a2, kp_stepped := k2,
  a_levels_along := f3, d_levels_along := _, F_levels_along := F5 (st := A6t) l3 c3 k3, mg_levels_along := D7 X G a3, kp_levels_along := k3,
  a_effect_of_none := f4, d_effect_of_none := _, F_effect_of_none := F5 (st := A6u) l4 c4 k4, mg_effect_of_none := D7 X G a4, kp_effect_of_none := k4,
  a_effect_of_one := f5, d_effect_of_one := _, F_effect_of_one := F5 (st := A6v) l5 c5 k5, mg_effect_of_one := D7 X G a5, kp_effect_of_one := k5,
  a_effect_of := f6, d_effect_of := _, F_effect_of := F5 (st := A6w) l6 c6 k6, mg_effect_of := D7 X G a6, kp_effect_of := k6,
  a_passed := f7, d_passed := _, F_passed := F5 (st := A6x) l7 c7 k7, mg_passed := D7 X G a7, kp_passed := k7,
  a_joined := f8, d_joined := _, F_joined := F5 (st := A6y) l8 c8 k8, mg_joined := D7 X G a8, kp_joined := k8,
  a_is_place := f9, d_is_place := _, F_is_place := F5 (st := A6z) l9 c9 k9, mg_is_place := D7 X G a9, kp_is_place := k9,
  a_changes_of := f10, d_changes_of := _, F_changes_of := F5 (st := A33) l10 c10 k10, mg_changes_of := D7 X G a10, kp_changes_of := k10,
  a_is_table := f11, d_is_table := _, F_is_table := F5 (st := A34) l11 c11 k11, mg_is_table := D7 X G a11, kp_is_table := k11,
  a_are_tables := f12, d_are_tables := _, F_are_tables := F5 (st := A35) l12 c12 k12, mg_are_tables := D7 X G a12, kp_are_tables := k12,
  a_is_more := f13, d_is_more := _, F_is_more := F5 (st := A60) l13 c13 k13, mg_is_more := D7 X G a13, kp_is_more := k13,
  a_behind_way := f14, d_behind_way := _, F_behind_way := F5 (st := A61) l14 c14 k14, mg_behind_way := D7 X G a14, kp_behind_way := k14,
  a_first_row := f15, d_first_row := _, F_first_row := F5 (st := A62) l15 c15 k15, mg_first_row := D7 X G a15, kp_first_row := k15,
  a_row_behind := f16, d_row_behind := _, F_row_behind := F5 (st := A63) l16 c16 k16, mg_row_behind := D7 X G a16, kp_row_behind := k16,
  a_walk_to := f17, d_walk_to := _, F_walk_to := F5 (st := A64) l17 c17 k17, mg_walk_to := D7 X G a17, kp_walk_to := k17,
  a_behind_ways := f18, d_behind_ways := _, F_behind_ways := F5 (st := A65) l18 c18 k18, mg_behind_ways := D7 X G a18, kp_behind_ways := k18,
  a_behind_part := f19, d_behind_part := _, F_behind_part := F5 (st := A66) l19 c19 k19, mg_behind_part := D7 X G a19, kp_behind_part := k19,
  a_end_of := f20, d_end_of := _, F_end_of := F5 (st := A67) l20 c20 k20, mg_end_of := D7 X G a20, kp_end_of := k20,
  a_rows_from := f21, d_rows_from := _, F_rows_from := F5 (st := A68) l21 c21 k21, mg_rows_from := D7 X G a21, kp_rows_from := k21,
  a_still_rises := f22, d_still_rises := _, F_still_rises := F5 (st := A69) l22 c22 k22, mg_still_rises := D7 X G a22, kp_still_rises := k22,
  a_rising_walk := f23, d_rising_walk := _, F_rising_walk := F5 (st := A36) l23 c23 k23, mg_rising_walk := D7 X G a23, kp_rising_walk := k23,
  a_parted_at_round := f24, d_parted_at_round := _, F_parted_at_round := F5 (st := A37) l24 c24 k24, mg_parted_at_round := D7 X G a24, kp_parted_at_round := k24,
  a_parts_by := f25, d_parts_by := _, F_parts_by := F5 (st := A7a) l25 c25 k25, mg_parts_by := D7 X G a25, kp_parts_by := k25,
  a_filling_parts := f26, d_filling_parts := _, F_filling_parts := F5 (st := A7b) l26 c26 k26, mg_filling_parts := D7 X G a26, kp_filling_parts := k26,
  a_settled := f27, d_settled := _, F_settled := F5 (st := A38) l27 c27 k27, mg_settled := D7 X G a27, kp_settled := k27,
  a_highest := f28, d_highest := _, F_highest := F5 (st := A7c) l28 c28 k28, mg_highest := D7 X G a28, kp_highest := k28,
  a_covers := f29, d_covers := _, F_covers := F5 (st := A39) l29 c29 k29, mg_covers := D7 X G a29, kp_covers := k29,
  a_leads_within := f30, d_leads_within := _, F_leads_within := F5 (st := A4a) l30 c30 k30, mg_leads_within := D7 X G a30, kp_leads_within := k30,
  a_is_closed := f31, d_is_closed := _, F_is_closed := F5 (st := A7d) l31 c31 k31, mg_is_closed := D7 X G a31, kp_is_closed := k31,
  a_alone := f32, d_alone := _, F_alone := F5 (st := A7e) l32 c32 k32, mg_alone := D7 X G a32, kp_alone := k32,
  a_numbers_in := f33, d_numbers_in := _, F_numbers_in := F5 (st := A4b) l33 c33 k33, mg_numbers_in := D7 X G a33, kp_numbers_in := k33,
  a_level_by_spring := f34, d_level_by_spring := _, F_level_by_spring := F5 (st := A7f) l34 c34 k34, mg_level_by_spring := D7 X G a34, kp_level_by_spring := k34,
  a_base_by := f35, d_base_by := _, F_base_by := F5 (st := A7g) l35 c35 k35, mg_base_by := D7 X G a35, kp_base_by := k35,
  a_highest_by := f36, d_highest_by := _, F_highest_by := F5 (st := A7h) l36 c36 k36, mg_highest_by := D7 X G a36, kp_highest_by := k36,
  a_is_spring_lid := f37, d_is_spring_lid := _, F_is_spring_lid := F5 (st := A1s) l37 c37 k37, mg_is_spring_lid := D7 X G a37, kp_is_spring_lid := k37,
  a_hand := f38, d_hand := _, F_hand := F5 (st := A7i) l38 c38 k38, mg_hand := D7 X G a38, kp_hand := k38,
  a_next := f39, d_next := _, F_next := F5 (st := A7j) l39 c39 k39, mg_next := D7 X G a39, kp_next := k39,
  a_take := f40, d_take := _, F_take := F5 (st := A7k) l40 c40 k40, mg_take := D7 X G a40, kp_take := k40,
  a_draw := f41, d_draw := _, F_draw := F5 (st := A7l) l41 c41 k41, mg_draw := D7 X G a41, kp_draw := k41,
  a_change := f42, d_change := _, F_change := F5 (st := A7m) l42 c42 k42, mg_change := D7 X G a42, kp_change := k42,
  a_store := f43, d_store := _, F_store := F5 (st := A7n) l43 c43 k43, mg_store := D7 X G a43, kp_store := k43,
  a_land := f44, d_land := _, F_land := F5 (st := A7o) l44 c44 k44, mg_land := D7 X G a44, kp_land := k44,
  a_table := f45, d_table := _, F_table := F5 (st := A4c) l45 c45 k45, mg_table := D7 X G a45, kp_table := k45,
  a_springs := f46, d_springs := _, F_springs := F5 (st := A7p) l46 c46 k46, mg_springs := D7 X G a46, kp_springs := k46,
  a_step := f47, d_step := _, F_step := F5 (st := A7q) l47 c47 k47, mg_step := D7 X G a47, kp_step := k47,
  a_law_is_whole := f48, d_law_is_whole := _, F_law_is_whole := F5 (st := A7r) l48 c48 k48, mg_law_is_whole := D7 X G a48, kp_law_is_whole := k48,
  a_law_is_table := f49, d_law_is_table := _, F_law_is_table := F5 (st := A4d) l49 c49 k49, mg_law_is_table := D7 X G a49, kp_law_is_table := k49,
  a_is_lid := f50, d_is_lid := _, F_is_lid := F5 (st := A7s) l50 c50 k50, mg_is_lid := D7 X G a50, kp_is_lid := k50,
  a_law_is_spring_lid := f51, d_law_is_spring_lid := _, F_law_is_spring_lid := F5 (st := A4e) l51 c51 k51, mg_law_is_spring_lid := D7 X G a51, kp_law_is_spring_lid := k51,
  a_no_less := f52, d_no_less := _, F_no_less := F5 (st := A7t) l52 c52 k52, mg_no_less := D7 X G a52, kp_no_less := k52,
  a_lift := f53, d_lift := _, F_lift := F5 (st := A7u) l53 c53 k53, mg_lift := D7 X G a53, kp_lift := k53,
  a_closed := f54, d_closed := _, F_closed := F5 (st := A4f) l54 c54 k54, mg_closed := D7 X G a54, kp_closed := k54,
  a_spoilt := f55, d_spoilt := _, F_spoilt := F5 (st := A4g) l55 c55 k55, mg_spoilt := D7 X G a55, kp_spoilt := k55,
  a_lists := f56, d_lists := _, F_lists := F5 (st := A0d) l56 c56 k56, mg_lists := D7 X G a56, kp_lists := k56,
  a_law := fa, d_law := _, F_law := F5 (st := Y6) l57 c57 k57, mg_law := D7 X G a57, kp_law := k57 }
 exact ⟨E5 "law" "law" (E8 Y6) (E2 Y6) (A7 Y6) .none kV57 dc57 pm57 an57 cd57 ct57, fun s v => .of_eq rfl, fun base _ _ => D0t T⟩
end
theorem walk {l : PySem.W.OpenLaw} {q : Program} {loose : List Str} {XP : (Str -> Option Value) -> Heap -> Prop} {YP : World -> Heap -> Prop} {d : DefRec} {K : Params -> A4} (hn : l.most = some 63) (hdf : d.params.defaults = [])
  (hY : ∀ (w : World) (h : Heap), YP w h -> (K w.params).In h)
  (F : ∀ (w : World) (mg : Str -> Option Value) (fa : Addr) (h : Heap), (K w.params).In h -> h.Ns mainGlobals mg -> mg d.name = some (.ref fa) ->
   ∃ fd : FuncData, (∀ (s : Shared) (u : Value), BindsTo s fd ⟨[u], []⟩ [("_law_script", u)]) /\ ∀ base : Heap, (K w.params).In base -> base.Ns mainGlobals mg -> D3 l.prog w (K w.params) mg base CX0 12 fa fd ["_law_script"] (B0x (K w.params))) :
  PySem.W.WalkO q loose XP YP l.row.toRowW d [] (fun f vs => PySem.call f vs) :=
 L2.walk_of (n := 63) (k := 12) (x := "_law_script") (CX := fun _ => CX0) (sp := fun w => B0x (K w.params)) hn (by decide) hdf ⟨rfl, by decide, by decide, rfl⟩ hY F (fun _ _ a ns hl _ hS => ⟨a, ns, rfl, hS, hl, fun _ => rfl⟩) fun _ _ _ _ _ z => z
end My
def PySem.W.Fast.tw2164874958054989844 : Unit := ()
def PySem.W.Fast.tw15068506144908604574 : Unit := ()
def PySem.W.Fast.tw14513940321365326819 : Unit := ()
def PySem.W.Fast.tw13592826300980235650 : Unit := ()
def PySem.W.Fast.tw3449058234004748039 : Unit := ()
def PySem.W.Fast.tw13643833815915614681 : Unit := ()
def PySem.W.Fast.tw4685366742113414589 : Unit := ()
def PySem.W.Fast.tw3355604487599554083 : Unit := ()
def PySem.W.Fast.tw8515511455802620410 : Unit := ()
def PySem.W.Fast.tw9264710279851209925 : Unit := ()
def PySem.W.Fast.tw4612467355463262700 : Unit := ()
def PySem.W.Fast.tw1439356204738402286 : Unit := ()
def PySem.W.Fast.tw734650096819239328 : Unit := ()
def PySem.W.Fast.tw11812013123176195218 : Unit := ()
def PySem.W.Fast.tw8670092726031604222 : Unit := ()
def PySem.W.Fast.tw3132571859200451874 : Unit := ()
def PySem.W.Fast.tw9851997381825786889 : Unit := ()
def PySem.W.Fast.tw4912531701996547811 : Unit := ()
def PySem.W.Fast.tw13931537251420253820 : Unit := ()
def PySem.W.Fast.tw16051396245327272136 : Unit := ()
def PySem.W.Fast.tw11541191516251710144 : Unit := ()
def PySem.W.Fast.tw4489628107399684319 : Unit := ()
def PySem.W.Fast.tw16546258637438296535 : Unit := ()
def PySem.W.Fast.tw17052025106484404132 : Unit := ()
open PySem PySem.W PyProof.Rows
set_option maxRecDepth 100000 in
set_option maxHeartbeats 0 in
theorem PySem.Challenge.cw_trudge_k84_spring_lids_read_holds : PySem.Challenge.rw_trudge_k84_spring_lids_read.Holds := by
 w_on; o_law; k_head; (case hw => w_witness2)
 k_fill
 refine My.walk (l := PySem.Challenge.rw_trudge_k84_spring_lids_read) rfl rfl (fun w h Y => PySem.W.kIn_of Y) ?F
 case F =>
  intro w mg fa h KX G hmg
  refine' My.all_mk KX G hmg ?a0 ?l0 ?c0 ?k0 ?a1 ?l1 ?c1 ?k1 ?a2 ?l2 ?c2 ?k2 ?a3 ?l3 ?c3 ?k3 ?a4 ?l4 ?c4 ?k4 ?a5 ?l5 ?c5 ?k5 ?a6 ?l6 ?c6 ?k6 ?a7 ?l7 ?c7 ?k7 ?a8 ?l8 ?c8 ?k8 ?a9 ?l9 ?c9 ?k9 ?a10 ?l10 ?c10 ?k10 ?a11 ?l11 ?c11 ?k11 ?a12 ?l12 ?c12 ?k12 ?a13 ?l13 ?c13 ?k13 ?a14 ?l14 ?c14 ?k14 ?a15 ?l15 ?c15 ?k15 ?a16 ?l16 ?c16 ?k16 ?a17 ?l17 ?c17 ?k17 ?a18 ?l18 ?c18 ?k18 ?a19 ?l19 ?c19 ?k19 ?a20 ?l20 ?c20 ?k20 ?a21 ?l21 ?c21 ?k21 ?a22 ?l22 ?c22 ?k22 ?a23 ?l23 ?c23 ?k23 ?a24 ?l24 ?c24 ?k24 ?a25 ?l25 ?c25 ?k25 ?a26 ?l26 ?c26 ?k26 ?a27 ?l27 ?c27 ?k27 ?a28 ?l28 ?c28 ?k28 ?a29 ?l29 ?c29 ?k29 ?a30 ?l30 ?c30 ?k30 ?a31 ?l31 ?c31 ?k31 ?a32 ?l32 ?c32 ?k32 ?a33 ?l33 ?c33 ?k33 ?a34 ?l34 ?c34 ?k34 ?a35 ?l35 ?c35 ?k35 ?a36 ?l36 ?c36 ?k36 ?a37 ?l37 ?c37 ?k37 ?a38 ?l38 ?c38 ?k38 ?a39 ?l39 ?c39 ?k39 ?a40 ?l40 ?c40 ?k40 ?a41 ?l41 ?c41 ?k41 ?a42 ?l42 ?c42 ?k42 ?a43 ?l43 ?c43 ?k43 ?a44 ?l44 ?c44 ?k44 ?a45 ?l45 ?c45 ?k45 ?a46 ?l46 ?c46 ?k46 ?a47 ?l47 ?c47 ?k47 ?a48 ?l48 ?c48 ?k48 ?a49 ?l49 ?c49 ?k49 ?a50 ?l50 ?c50 ?k50 ?a51 ?l51 ?c51 ?k51 ?a52 ?l52 ?c52 ?k52 ?a53 ?l53 ?c53 ?k53 ?a54 ?l54 ?c54 ?k54 ?a55 ?l55 ?c55 ?k55 ?a56 ?l56 ?c56 ?k56 ?a57 ?l57 ?c57 ?k57 ?q_LEAST ?q_GAIN ?q_TOP ?q_MANY ?q_WAYS ?q_START ?q_END ?q_CHANGE ?q_TABLE ?q_RISEN ?q_FROM ?q_BY ?q_NUMBERS ?q_TIMES ?q_PLACE ?q_GIFT ?z_abs ?z_all ?z_any ?z_bool ?z_enumerate ?z_int ?z_isinstance ?z_len ?z_list ?z_max ?z_min ?z_range ?z_repr ?z_reversed ?z_tuple ?z_zip
  (case a0 => k_is); (case l0 => k_is); (case c0 => k_is); (case k0 => k_is)
  (case a1 => k_is); (case l1 => k_is); (case c1 => k_is); (case k1 => k_is)
  (case a2 => k_is); (case l2 => k_is); (case c2 => k_is); (case k2 => k_is)
  (case a3 => k_is); (case l3 => k_is); (case c3 => k_is); (case k3 => k_is)
  (case a4 => k_is); (case l4 => k_is); (case c4 => k_is); (case k4 => k_is)
  (case a5 => k_is); (case l5 => k_is); (case c5 => k_is); (case k5 => k_is)
  (case a6 => k_is); (case l6 => k_is); (case c6 => k_is); (case k6 => k_is)
  (case a7 => k_is); (case l7 => k_is); (case c7 => k_is); (case k7 => k_is)
  (case a8 => k_is); (case l8 => k_is); (case c8 => k_is); (case k8 => k_is)
  (case a9 => k_is); (case l9 => k_is); (case c9 => k_is); (case k9 => k_is)
  (case a10 => k_is); (case l10 => k_is); (case c10 => k_is); (case k10 => k_is)
  (case a11 => k_is); (case l11 => k_is); (case c11 => k_is); (case k11 => k_is)
  (case a12 => k_is); (case l12 => k_is); (case c12 => k_is); (case k12 => k_is)
  (case a13 => k_is); (case l13 => k_is); (case c13 => k_is); (case k13 => k_is)
  (case a14 => k_is); (case l14 => k_is); (case c14 => k_is); (case k14 => k_is)
  (case a15 => k_is); (case l15 => k_is); (case c15 => k_is); (case k15 => k_is)
  (case a16 => k_is); (case l16 => k_is); (case c16 => k_is); (case k16 => k_is)
  (case a17 => k_is); (case l17 => k_is); (case c17 => k_is); (case k17 => k_is)
  (case a18 => k_is); (case l18 => k_is); (case c18 => k_is); (case k18 => k_is)
  (case a19 => k_is); (case l19 => k_is); (case c19 => k_is); (case k19 => k_is)
  (case a20 => k_is); (case l20 => k_is); (case c20 => k_is); (case k20 => k_is)
  (case a21 => k_is); (case l21 => k_is); (case c21 => k_is); (case k21 => k_is)
  (case a22 => k_is); (case l22 => k_is); (case c22 => k_is); (case k22 => k_is)
  (case a23 => k_is); (case l23 => k_is); (case c23 => k_is); (case k23 => k_is)
  (case a24 => k_is); (case l24 => k_is); (case c24 => k_is); (case k24 => k_is)
  (case a25 => k_is); (case l25 => k_is); (case c25 => k_is); (case k25 => k_is)
  (case a26 => k_is); (case l26 => k_is); (case c26 => k_is); (case k26 => k_is)
  (case a27 => k_is); (case l27 => k_is); (case c27 => k_is); (case k27 => k_is)
  (case a28 => k_is); (case l28 => k_is); (case c28 => k_is); (case k28 => k_is)
  (case a29 => k_is); (case l29 => k_is); (case c29 => k_is); (case k29 => k_is)
  (case a30 => k_is); (case l30 => k_is); (case c30 => k_is); (case k30 => k_is)
  (case a31 => k_is); (case l31 => k_is); (case c31 => k_is); (case k31 => k_is)
  (case a32 => k_is); (case l32 => k_is); (case c32 => k_is); (case k32 => k_is)
  (case a33 => k_is); (case l33 => k_is); (case c33 => k_is); (case k33 => k_is)
  (case a34 => k_is); (case l34 => k_is); (case c34 => k_is); (case k34 => k_is)
  (case a35 => k_is); (case l35 => k_is); (case c35 => k_is); (case k35 => k_is)
  (case a36 => k_is); (case l36 => k_is); (case c36 => k_is); (case k36 => k_is)
  (case a37 => k_is); (case l37 => k_is); (case c37 => k_is); (case k37 => k_is)
  (case a38 => k_is); (case l38 => k_is); (case c38 => k_is); (case k38 => k_is)
  (case a39 => k_is); (case l39 => k_is); (case c39 => k_is); (case k39 => k_is)
  (case a40 => k_is); (case l40 => k_is); (case c40 => k_is); (case k40 => k_is)
  (case a41 => k_is); (case l41 => k_is); (case c41 => k_is); (case k41 => k_is)
  (case a42 => k_is); (case l42 => k_is); (case c42 => k_is); (case k42 => k_is)
  (case a43 => k_is); (case l43 => k_is); (case c43 => k_is); (case k43 => k_is)
  (case a44 => k_is); (case l44 => k_is); (case c44 => k_is); (case k44 => k_is)
  (case a45 => k_is); (case l45 => k_is); (case c45 => k_is); (case k45 => k_is)
  (case a46 => k_is); (case l46 => k_is); (case c46 => k_is); (case k46 => k_is)
  (case a47 => k_is); (case l47 => k_is); (case c47 => k_is); (case k47 => k_is)
  (case a48 => k_is); (case l48 => k_is); (case c48 => k_is); (case k48 => k_is)
  (case a49 => k_is); (case l49 => k_is); (case c49 => k_is); (case k49 => k_is)
  (case a50 => k_is); (case l50 => k_is); (case c50 => k_is); (case k50 => k_is)
  (case a51 => k_is); (case l51 => k_is); (case c51 => k_is); (case k51 => k_is)
  (case a52 => k_is); (case l52 => k_is); (case c52 => k_is); (case k52 => k_is)
  (case a53 => k_is); (case l53 => k_is); (case c53 => k_is); (case k53 => k_is)
  (case a54 => k_is); (case l54 => k_is); (case c54 => k_is); (case k54 => k_is)
  (case a55 => k_is); (case l55 => k_is); (case c55 => k_is); (case k55 => k_is)
  (case a56 => k_is); (case l56 => k_is); (case c56 => k_is); (case k56 => k_is)
  (case a57 => k_is); (case l57 => k_is); (case c57 => k_is); (case k57 => k_is)
  (case q_LEAST => k_is); (case q_GAIN => k_is); (case q_TOP => k_is); (case q_MANY => k_is); (case q_WAYS => k_is); (case q_START => k_is); (case q_END => k_is); (case q_CHANGE => k_is); (case q_TABLE => k_is); (case q_RISEN => k_is); (case q_FROM => k_is); (case q_BY => k_is); (case q_NUMBERS => k_is); (case q_TIMES => k_is); (case q_PLACE => k_is); (case q_GIFT => k_is)
  (case z_abs => k_is); (case z_all => k_is); (case z_any => k_is); (case z_bool => k_is); (case z_enumerate => k_is); (case z_int => k_is); (case z_isinstance => k_is); (case z_len => k_is); (case z_list => k_is); (case z_max => k_is); (case z_min => k_is); (case z_range => k_is); (case z_repr => k_is); (case z_reversed => k_is); (case z_tuple => k_is); (case z_zip => k_is)
