import PyProof.Rows.All
import Wide.All
import OpenK.AllK
import Wide.FinOn
import Lean
import PyProof.EqAt
import PyProof.EqKinds
import PyProof.NeData
import PyProof.TupleCall
import KE.KRevIter
import KE.KRevSl
import PyProof.MinMaxWalk
import PyProof.ZipIter
import PyProof.Rows.Range3
import PyProof.Rows.CallKwBuiltin
import PyProof.DictWalks
import PyProof.ReprRoads
import PyProof.ReprLen
import PyProof.CallFns
import KE.KEqDict
import PyProof.P3In
import PyProof.MeetsDictList
import PyProof.Cells
import PySem.Challenge.RW_trudge_k88_springs_by_turns
set_option Elab.async false
set_option linter.all false
set_option maxRecDepth 100000
set_option genInjectivity false
set_option genSizeOf false
open _root_.Or renaming inl->A8,inr->f8
open _root_.PySem.W renaming Frag->B3,nsIn->K9,mg_of->S4,mg_none_of->g4,kia_one->A0r,fnOf->A4n,kitOne->A6y,keepIn->B64,codeIn->B66,kitCls->B7c
open _root_.List renaming mem_cons_of_mem->B6,mem_cons_self->C0,length_map->D5,replicate->G5,getElem?_eq_getElem->K3,length_cons->K8,length_append->M4,getElem?_map->M7,mem_cons->N1,mem_of_getElem?->O2,length_set->O3,size_toArray->O4,map_append->O5,mem_append->O9,range->P5,nil_append->Q9,mem_append_right->S3,mem_map->S5,getElem?_set_ne->U6,replicate_succ->Y4,lookup_cons->Z7,length_take->e9,getElem?_append_right->f7,getElem?_eq_none->f9,mem_range->l5,getElem?_append_left->l6,getElem?_eq_some_iff->m9,append_nil->n6,map_cons->n8,getElem?_set->n9,length_range->o7,map_map->p5,mem_singleton->p6,nodup_cons->A0s,mem_iff_getElem->A0t,length_reverse->A0u,append_assoc->A1h,map_take->A1j,length->A2o,length_replicate->A4m,drop_eq_getElem_cons->A4o,eq_nil_of_length_eq_zero->A4p,flatten_cons->A60,cons_append->A61,getElem?_cons_succ->A62,take_add_one->A63,take_length->A64,nodup_append->A65,length_nil->A66,mem_filter->A8b,mem_append_left->A8c,tail_cons->A8f,tail_nil->A8g,getElem?_cons_zero->A8h,set_cons_zero->A8i,set_cons_succ->A8j,take_of_length_le->A9s,replicate_zero->A9v,length_singleton->B2f,Pairwise->B2g,idxOf_lt_length_iff->B2i,getElem?_range->B2j,length_zipIdx->B2k,drop_length->B2l,nodup_nil->B2p,getElem?_set_self->B63,getElem?_replicate->B65,length_drop->B67,all_eq_true->B68,contains_eq_mem->B7a,set_append_right->B7b,reverse_cons->B7d,ext_getElem?->B7e,drop_zero->B7f,length_zip->B7g,mem_zipIdx_iff_getElem?->B7h,sum_cons->B7i,mem_reverse->B7k,mem_of_mem_take->B7l,filterMap_cons->C24,getElem_idxOf->C27,lookup_cons_self->C28,drop_of_length_le->C29,findSome?_cons->C3a
open _root_.Nat renaming le_refl->F3,ne_of_lt->M5,zero_le->M6,lt_of_lt_of_le->S1,lt_irrefl->V9,le_trans->m8,lt_or_ge->A0v,le_succ->A1i,le_of_lt->A4l,lt_succ_of_lt->A9r,min_eq_left->A9t,ne_of_gt->B2c,lt_succ_self->B2h
open _root_.PySem.Heap renaming lt_size->G9,get?_push_of_some->P6,get?_push_size->X2,size_push->A8d,get?_update_other->C25
open _root_.PySem.PassesOwn renaming never->O6
open _root_.Bool renaming false_ne_true->Q8,and_eq_true->U7,not_true->A8m,not_false->A8n,false_eq_true->A9q,eq_iff_iff->B2d,not_eq_true'->B69
open _root_.PySem.F renaming plainAttrs_list->V3,slot_list_append->o8,type_list_append->o9,slot_list_clear->B2r,type_list_clear->B2s,slot_list_index->C26
open _root_.Int renaming toNat_natCast->A1g,add_mul->A8e,toNat->A9u,le_refl->B2m,natCast_add->B2n,emod_nonneg->B2o,zero_add->B2q,emod_lt_of_pos->B7j,toNat_of_nonneg->C3b
open _root_.Option renaming map_eq_some_iff->A4q,bind_some->A8k,map_some->A8l
open _root_.PySem.Obj renaming mapSeq->A6z
open _root_.Array renaming length_toList->A9p
open _root_.PySem renaming mem_of_lookup->B2e
namespace L2
open PySem PySem.Spec PyProof.Rows
theorem el3 {α β γ:Type} {R T K:α->β->γ->Prop} {p:Prop} (h:∃a b c,R a b c/\T a b c/\K a b c) (f:∀a b c,R a b c->T a b c->K a b c->p):p:=h.elim fun a h=>h.elim fun b h=>h.elim fun c h=>f a b c h.1 h.2.1 h.2.2
theorem el5 {α β:Type} {R T K:α->β->Prop} {p:Prop} (h:∃a b,R a b/\T a b/\K a b) (f:∀a b,R a b->T a b->K a b->p):p:=h.elim fun a h=>h.elim fun b h=>f a b h.1 h.2.1 h.2.2
theorem el2 {α:Type} {A B:α->Prop} {p:Prop} (h:∃a,A a/\B a) (f:∀a,A a->B a->p):p:=h.elim fun a h=>f a h.1 h.2
abbrev Key:=Sum Int Str
def B7m:Key->Value->Bool
 | .inl k,v=>Value.isInt k v
 | .inr x,v=>Value.isStrOf x v
def C3c (w:World):Key->Int
 | .inl k=>hashInt k
 | .inr x=>hashStr w x
theorem A1k:∀{k:Key} {v:Value},B7m k v=true->(∃i t,k=Sum.inl i/\v=Value.int i t)\/(∃x t,k=Sum.inr x/\v=Value.str x t)
 | .inl i,v,h=>by
  obtain⟨t,e⟩:=Value.isInt_shape (k:=i) (v:=v) h
  exact .inl ⟨i,t,rfl,e⟩
 | .inr x,v,h=>by
  obtain⟨t,e⟩:=Value.isStrOf_shape (x:=x) (v:=v) h
  exact .inr ⟨x,t,rfl,e⟩
theorem C3d (a b:Int):decide ((Sum.inl a:Key)=Sum.inl b)=(a == b):=by
 by_cases e:a=b
 ·subst e;simp
 ·have h:¬ (Sum.inl a:Key)=Sum.inl b:=fun q=>e (Sum.inl.inj q)
  rw[decide_eq_false h]
  exact (beq_eq_false_iff_ne.mpr e).symm
theorem C3e (a b:Str):decide ((Sum.inr a:Key)=Sum.inr b)=decide (a=b):=by
 by_cases e:a=b
 ·subst e;simp
 ·have h:¬ (Sum.inr a:Key)=Sum.inr b:=fun q=>e (Sum.inr.inj q)
  rw[decide_eq_false h,decide_eq_false e]
theorem C3f (a:Int) (b:Str):decide ((Sum.inl a:Key)=Sum.inr b)=false:=decide_eq_false (fun q=>nomatch q)
theorem C3g (a:Str) (b:Int):decide ((Sum.inr a:Key)=Sum.inl b)=false:=decide_eq_false (fun q=>nomatch q)
def B7n (prog:Program) (w:World):PySem.KeyKind prog w Key where
 is:=B7m
 hash:=C3c w
 inj:=fun v a b ha hb=>by
  rcases A1k ha with ⟨i,t,rfl,rfl⟩ | ⟨x,t,rfl,rfl⟩
  ·rcases A1k hb with ⟨j,u,rfl,e⟩ | ⟨y,u,rfl,e⟩
   ·injection e with e1 _;rw[e1]
   ·exact nomatch e
  ·rcases A1k hb with ⟨j,u,rfl,e⟩ | ⟨y,u,rfl,e⟩
   ·exact nomatch e
   ·injection e with e1 _;rw[e1]
 byValue:=fun k v h=>by
  rcases A1k h with ⟨i,t,rfl,rfl⟩ | ⟨x,t,rfl,rfl⟩ <;> rfl
 pyHash:=fun hv h=>by
  rcases A1k hv with ⟨i,t,rfl,rfl⟩ | ⟨x,t,rfl,rfl⟩
  ·exact wpAny_pyHash_int h
  ·exact wpAny_pyHash_str h
 eqBool:=fun hu hv h=>by
  rcases A1k hu with ⟨i,t,rfl,rfl⟩ | ⟨x,t,rfl,rfl⟩
  ·rcases A1k hv with ⟨j,u,rfl,rfl⟩ | ⟨y,u,rfl,rfl⟩
   ·rw[C3d] at h;exact wpAny_eqBool_int h
   ·rw[C3f] at h;exact SeqAt.EqAt.int_str i t y u _ _ _ _ h
  ·rcases A1k hv with ⟨j,u,rfl,rfl⟩ | ⟨y,u,rfl,rfl⟩
   ·rw[C3g] at h;exact SeqAt.EqAt.str_int x t j u _ _ _ _ h
   ·rw[C3e] at h;exact wpAny_eqBool_str h
 «strs»:=fun k x t v h=>by
  rcases A1k h with ⟨i,u,rfl,e⟩ | ⟨y,u,rfl,e⟩
  ·exact nomatch e
  ·injection e with e1 _
   subst e1
   cases v <;> rfl
set_option genInjectivity true in
inductive V where
 | non | bl (b:Bool) | int (i:Int) | str (x:Str) | byt (b:Array UInt8) | flt (b:UInt64) | ref (a:Addr) | ty (n:String)
 deriving DecidableEq
def G3:V->Value->Prop
 | .non,u=>u=Value.none
 | .bl b,u=>u=Value.bool b
 | .int i,u=>∃t,u=Value.int i t
 | .str x,u=>∃t,u=Value.str x t
 | .byt b,u=>∃t,u=Value.bytes b t
 | .flt b,u=>∃t,u=Value.float b t
 | .ref a,u=>u=Value.ref a
 | .ty n,u=>u=Value.type n
abbrev D7:List V->List Value->Prop:=Paired G3
theorem D7.length {xs:List V} {us:List Value} (r:D7 xs us):xs.length=us.length:=Paired.length r
theorem D7.get:∀{xs:List V} {us:List Value} {i:Nat} {x:V},D7 xs us->xs[i]?=some x->∃u,us[i]?=some u/\G3 x u
 | _,_,_,_,.nil,e=>by simp at e
 | _,_,0,_,.cons r _,e=>by simp at e;subst e;exact⟨_,rfl,r⟩
 | _,_,i + 1,x,.cons _ t,e=>by
  obtain⟨u,h1,h2⟩:=D7.get (i:=i) (x:=x) t (by simpa using e)
  exact⟨u,by simpa using h1,h2⟩
theorem D7.set {x:V} {u:Value} (r:G3 x u):∀{xs:List V} {us:List Value} (i:Nat),D7 xs us->D7 (xs.set i x) (us.set i u)
 | _,_,_,.nil=>.nil
 | _,_,0,.cons _ t=>.cons r t
 | _,_,i + 1,.cons q t=>.cons q (D7.set r i t)
theorem D7.append {xs ys:List V} {us ws:List Value} (h:D7 xs us) (s:D7 ys ws):D7 (xs++ys) (us++ws):=by
 induction h with
 | nil=>exact s
 | cons r t ih=>exact .cons r ih
theorem D7.take:∀{xs:List V} {us:List Value} (n:Nat),D7 xs us->D7 (xs.take n) (us.take n)
 | _,_,0,_=>.nil
 | _,_,_ + 1,.nil=>.nil
 | _,_,n + 1,.cons r t=>.cons r (D7.take n t)
theorem D7.drop:∀{xs:List V} {us:List Value} (n:Nat),D7 xs us->D7 (xs.drop n) (us.drop n)
 | _,_,0,r=>r
 | _,_,_ + 1,.nil=>.nil
 | _,_,n + 1,.cons _ t=>D7.drop n t
def B2t:Option V->Option Value->Prop
 | some v,some u=>G3 v u
 | none,none=>True
 | _,_=>False
def KV {κ:Type}:List (κ×V)->List (κ×Value)->Prop:=Paired fun (p:κ×V) (q:κ×Value)=>p.1=q.1/\G3 p.2 q.2
def kV:Key->V
 | .inl i=>.int i
 | .inr x=>.str x
inductive HO where
 | lst (xs:List V)
 | tup (xs:List V)
 | dK (kvs:List (Key×V)) | dT (kvs:List (List Key×V))
 | set (S:Int->Bool) (n:Nat)
 | ins (C dx:Addr) (fs:List (Str×V))
 | own (x:Addr)
 | xd (fs:List (Str×V))
 | met (f x:Addr)
 | rng (lo hi:Int)
 | frz (o:Obj) (u:HO)
 | tbl (ps:Array Value)
 | ext (φ:Heap->Prop)
abbrev Hp:=Addr->Option HO
def upd (H:Hp) (a:Addr) (o:HO):Hp:=fun b=>if b=a then some o else H b
theorem E4 {H:Hp} {a:Addr} {o:HO}:upd H a o a=some o:=by unfold upd;rw[if_pos rfl]
theorem C1 {H:Hp} {a b:Addr} {o:HO} (h:b≠a):upd H a o b=H b:=by unfold upd;rw[if_neg h]
theorem C3h {H:Hp} {a b:Addr} {o u:HO} (h:H a=some o) (h':H b=some u) (d:o≠u):a≠b:=by
 intro e;subst e;rw[h] at h';exact d (Option.some.inj h')
theorem N7 {H:Hp} {a b:Addr} {o:HO} (h:H a=some o) (h':H b=none):a≠b:=by
 intro e;subst e;rw[h] at h';cases h'
section
variable (P:Program) (w:World)
def S6 (H:Hp) (h:Heap) (a:Addr):HO->Prop
 | .lst xs=>xs.length<=sizeLine/\∃(its:List Value) (n:Nat),D7 xs its/\h.get? a=some { cls:=.type "list",data:=.seq its.toArray n }
 | .tup xs=>xs.length<=sizeLine/\∃its:List Value,D7 xs its/\IsTup h a its.toArray
 | .dK kvs=>kvs.length<=sizeLine/\(a == sysModules)=false/\∃vs,KV kvs vs/\h.DictOf (B7n P w) a vs
 | .dT kvs=>kvs.length<=sizeLine/\(a == sysModules)=false/\∃xs:List (List Key×Addr×Value),
   Paired (fun (p:List Key×V) (q:List Key×Addr×Value)=>p.1=q.1/\H q.2.1=some (.tup (p.1.map kV))/\G3 p.2 q.2.2) kvs xs/\
   ∃o es ep,h.get? a=some o/\o.ExactDict/\o.data=.dict es ep/\es.toList=xs.map (entryOfKey (tupleKind (B7n P w)))/\(xs.map (·.1)).Nodup
 | .set S n=>h.SetOf (intKind P w) a S n
 | .ins C dx fs=>H dx=some (.own a)/\fs.length<=1000/\dx≠a/\h.get? a=some (PySem.W.instObj C dx)/\
   ∃mA,h.Ns1 dx mA/\(∀f,B2t (fs.lookup f) (mA f))/\PySem.Within mA (fs.map (·.1))
 | .own _=>∃o,h.get? a=some o
 | .xd fs=>∃mA,h.Ns1 a mA/\∀f,B2t (fs.lookup f) (mA f)
 | .rng lo hi=>∃t u v,h.get? a=some { cls:=.type "range",data:=.fields #[.int lo t,.int hi u,.int 1 v] }
 | .frz o u=>h.get? a=some o/\S6 H h a u
 | .tbl ps=>h.get? a=some { cls:=.none,data:=.fields ps }
 | .met f x=>h.get? a=some (PySem.W.methodObj (.ref f) (.ref x))
 | .ext φ=>φ h/\(∃o,h.get? a=some o)/\∀h1 h2:Heap,φ h1->(∀o,h1.get? a=some o->h2.get? a=some o)->φ h2
def HOk (H:Hp) (h:Heap):Prop:=∀a o,H a=some o->S6 P w H h a o
end
section
variable {P:Program} {w:World} {H H':Hp} {h h':Heap} {a:Addr} {o:HO}
theorem S6.lt (x:S6 P w H h a o):a < h.objs.size:=by
 cases o with
 | lst xs=>obtain⟨_,_,_,_,e⟩:=x;exact G9 e
 | tup xs=>obtain⟨_,_,_,p⟩:=x;exact p.lt
 | dK kvs=>obtain⟨_,_,_,_,o,_,_,e,_⟩:=x;exact G9 e
 | dT kvs=>obtain⟨_,_,_,_,o,_,_,e,_⟩:=x;exact G9 e
 | set S n=>obtain⟨o,_,_,_,e,_⟩:=x;exact G9 e
 | ins C dx fs=>obtain⟨_,_,_,e,_⟩:=x;exact G9 e
 | own y=>obtain⟨_,e⟩:=x;exact G9 e
 | xd fs=>obtain⟨_,⟨_,_,_,e,_⟩,_⟩:=x;exact G9 e
 | rng lo hi=>obtain⟨_,_,_,e⟩:=x;exact G9 e
 | frz ob u=>obtain⟨e,_⟩:=x;exact G9 e
 | tbl ps=>exact G9 (show h.get? a=some _ from x)
 | met f y=>exact G9 (show h.get? a=some _ from x)
 | ext φ=>obtain⟨_,⟨_,e⟩,_⟩:=x;exact G9 e
theorem Paired.mapP {α β:Type} {F G:α->β->Prop} {l₁:List α} {l₂:List β} (h:Paired F l₁ l₂) (f:∀a b,F a b->G a b):Paired G l₁ l₂:=by
 induction h with
 | nil=>exact .nil
 | cons r t ih=>exact .cons (f _ _ r) ih
theorem S6.stay (x:S6 P w H h a o) (k:∀b u,(b=a\/H b=some (.own a))->h.get? b=some u->h'.get? b=some u)
  (ho:∀b,H b=some (.own a)->H' b=some (.own a)) (ht:∀b xs,H b=some (.tup xs)->H' b=some (.tup xs)):S6 P w H' h' a o:=by
 induction o with
 | lst xs=>obtain⟨z,its,n,r,e⟩:=x;exact⟨z,its,n,r,k _ _ (.inl rfl) e⟩
 | tup xs=>obtain⟨z,its,r,ob,e,c⟩:=x;exact⟨z,its,r,ob,k _ _ (.inl rfl) e,c⟩
 | dK kvs=>obtain⟨z,y,vs,r,ob,es,ep,e,c⟩:=x;exact⟨z,y,vs,r,ob,es,ep,k _ _ (.inl rfl) e,c⟩
 | dT kvs=>
  obtain⟨z,y,xs,r,ob,es,ep,e,c⟩:=x
  exact⟨z,y,xs,Paired.mapP r fun p q z=>⟨z.1,ht _ _ z.2.1,z.2.2⟩,ob,es,ep,k _ _ (.inl rfl) e,c⟩
 | set S n=>obtain⟨ob,es,ep,t,e,c⟩:=x;exact⟨ob,es,ep,t,k _ _ (.inl rfl) e,c⟩
 | ins C dx fs=>
  obtain⟨d,z,ne,e,mA,⟨od,es,ep,e2,c⟩,r⟩:=x
  exact⟨ho _ d,z,ne,k _ _ (.inl rfl) e,mA,⟨od,es,ep,k _ _ (.inr d) e2,c⟩,r⟩
 | own y=>obtain⟨ob,e⟩:=x;exact⟨ob,k _ _ (.inl rfl) e⟩
 | xd fs=>obtain⟨mA,⟨od,es,ep,e,c⟩,r⟩:=x;exact⟨mA,⟨od,es,ep,k _ _ (.inl rfl) e,c⟩,r⟩
 | rng lo hi=>obtain⟨t,u,v,e⟩:=x;exact⟨t,u,v,k _ _ (.inl rfl) e⟩
 | frz ob u ih=>obtain⟨e,q⟩:=x;exact⟨k _ _ (.inl rfl) e,ih q⟩
 | tbl ps=>
  have e:h.get? a=some { cls:=.none,data:=.fields ps }:=x
  show h'.get? a=some { cls:=.none,data:=.fields ps }
  exact k a _ (.inl rfl) e
 | met f y=>
  have e:h.get? a=some (PySem.W.methodObj (.ref f) (.ref y)):=x
  show h'.get? a=some (PySem.W.methodObj (.ref f) (.ref y))
  exact k a _ (.inl rfl) e
 | ext φ=>obtain⟨p,⟨o,e⟩,st⟩:=x;exact⟨st _ _ p fun o q=>k _ _ (.inl rfl) q,⟨o,k _ _ (.inl rfl) e⟩,st⟩
theorem HOk.lt (x:HOk P w H h) (e:H a=some o):a < h.objs.size:=(x a o e).lt
theorem HOk.fresh (x:HOk P w H h) (e:h.objs.size<=a):H a=none:=by
 cases q:H a with
 | none=>rfl
 | some u=>exact absurd (S1 (x.lt q) e) (V9 _)
theorem HOk.kept (x:HOk P w H h) (k:∀b u,h.get? b=some u->h'.get? b=some u):HOk P w H h':=fun a o e=>
 (x a o e).stay (fun b u _ q=>k b u q) (fun _ q=>q) fun _ _ q=>q
theorem HOk.laid (x:HOk P w H h) (k:∀b u,h.get? b=some u->h'.get? b=some u) (hp:h.objs.size<=a) (new:S6 P w (upd H a o) h' a o):HOk P w (upd H a o) h':=fun b u e=>by
 have hn:=x.fresh hp
 by_cases hb:b=a
 ·subst hb;rw[E4] at e;cases e;exact new
 ·rw[C1 hb] at e
  exact (x b u e).stay (fun c v _ q=>k c v q) (fun c q=>by rw[C1 (N7 q hn)];exact q) fun c xs q=>by rw[C1 (N7 q hn)];exact q
end
def Rd (H:Hp) (a:Addr) (u:HO):Prop:=H a=some u\/∃o,H a=some (.frz o u)
theorem Rd.ok {P:Program} {w:World} {H:Hp} {h:Heap} {a:Addr} {u:HO} (r:Rd H a u) (x:HOk P w H h):S6 P w H h a u:=by
 rcases r with r | ⟨o,r⟩
 ·exact x a u r
 ·obtain⟨_,q⟩:=x a _ r
  exact q
def Mut:Option HO->Prop
 | some (.lst _)=>True
 | some (.dK _)=>True
 | some (.dT _)=>True
 | some (.set _ _)=>True
 | some (.ins _ _ _)=>True
 | some (.ext _)=>True
 | _=>False
section
variable {P:Program} {w:World} {H:Hp} {h h':Heap} {x e:Addr} {o':HO}
theorem HOk.write (ok:HOk P w H h) (mu:Mut (H x)) (he:e=x\/H e=some (.own x)) (k:∀b u,b≠e->h.get? b=some u->h'.get? b=some u) (heo:∃u,h'.get? e=some u)
  (new:S6 P w (upd H x o') h' x o'):HOk P w (upd H x o') h':=fun b u q=>by
 have nown:∀c y,H c=some (.own y)->c≠x:=fun c y r z=>by subst z;rw[r] at mu;exact mu
 have ntup:∀c xs,H c=some (.tup xs)->c≠x:=fun c xs r z=>by subst z;rw[r] at mu;exact mu
 by_cases hb:b=x
 ·subst hb;rw[E4] at q;cases q;exact new
 ·rw[C1 hb] at q
  by_cases hbe:b=e
  ·have q':H b=some (.own x):=by
    rcases he with z | z
    ·exact absurd (hbe.trans z) hb
    ·rw[hbe];exact z
   rw[q] at q';cases q'
   obtain⟨v,hv⟩:=heo
   exact⟨v,by rw[hbe];exact hv⟩
  ·refine (ok b u q).stay (fun c v hc r=>k c v ?_ r) (fun c r=>by rw[C1 (nown c b r)];exact r) fun c xs r=>by rw[C1 (ntup c xs r)];exact r
   rcases hc with rfl | hc
   ·exact hbe
   ·rintro rfl
    rcases he with z | z
    ·exact nown c b hc z
    ·rw[hc] at z;cases z;exact hb rfl
end
structure Un (fs ex:List Addr) (H H':Hp) (h h':Heap):Prop where
 keep:∀b o,h.get? b=some o->H b=none->b∉fs->b∉ex->h'.get? b=some o
 slot:∀b o,h.get? b=some o->H b=none->b∈fs->b∉ex->∃sl,h'.get? b=some { o with slots:=sl }
 free:∀b o,h.get? b=some o->H b=none->b∉ex->H' b=none
 there:∀b o,h.get? b=some o->b∉ex->∃o',h'.get? b=some o'
 tups:∀b xs,H b=some (.tup xs)->H' b=some (.tup xs)
 frzs:∀b o u,H b=some (.frz o u)->H' b=some (.frz o u)
 tbls:∀b ps,H b=some (.tbl ps)->∃more,H' b=some (.tbl (ps++more))
section
variable {fs fs' ex ex':List Addr} {H H1 H2:Hp} {h h1 h2 h':Heap} {a x e:Addr} {o:HO}
theorem Un.any (u:Un fs ex H H1 h h1) {b:Addr} {ob:Obj} (q:h.get? b=some ob) (n:H b=none) (hx:b∉ex):∃sl,h1.get? b=some { ob with slots:=sl }:=by
 by_cases hb:b∈fs
 ·exact u.slot b ob q n hb hx
 ·exact⟨ob.slots,u.keep b ob q n hb hx⟩
theorem Un.kept (k:∀b u,h.get? b=some u->h'.get? b=some u):Un fs ex H H h h':=
 ⟨fun b ob q _ _ _=>k b ob q,fun b ob q _ _ _=>⟨ob.slots,k b ob q⟩,fun _ _ _ n _=>n,fun b ob q _=>⟨ob,k b ob q⟩,fun _ _ q=>q,fun _ _ _ q=>q,fun _ ps q=>⟨#[],by rw[q];simp⟩⟩
theorem Un.refl:Un fs ex H H h h:=Un.kept fun _ _ q=>q
theorem Un.laid (k:∀b u,h.get? b=some u->h'.get? b=some u) (hp:h.objs.size<=a) (hn:H a=none):Un fs ex H (upd H a o) h h' where
 keep:=fun b u q _ _ _=>k b u q
 slot:=fun b u q _ _ _=>⟨u.slots,k b u q⟩
 free:=fun b u q n _=>by rw[C1 (M5 (S1 (G9 q) hp))];exact n
 there:=fun b u q _=>⟨u,k b u q⟩
 tups:=fun b xs q=>by rw[C1 (N7 q hn)];exact q
 frzs:=fun b u xs q=>by rw[C1 (N7 q hn)];exact q
 tbls:=fun b ps q=>⟨#[],by rw[C1 (N7 q hn),q];simp⟩
theorem Un.write (mu:Mut (H x)) (he:e=x\/H e=some (.own x)) (k:∀b u,b≠e->h.get? b=some u->h'.get? b=some u) (heo:∃u,h'.get? e=some u):Un fs ex H (upd H x o) h h':=by
 have hx:∀b,H b=none->b≠x:=fun b n z=>by subst z;rw[n] at mu;exact mu
 have hb:∀b,H b=none->b≠e:=fun b n z=>by
  subst z
  rcases he with r | r
  ·exact hx b n r
  ·rw[n] at r;cases r
 have hm:∀b u,H b=some u->¬ Mut (some u)->b≠x:=fun b u q nm z=>by subst z;rw[q] at mu;exact nm mu
 refine⟨fun b u q n _ _=>k b u (hb b n) q,fun b u q n _ _=>⟨u.slots,k b u (hb b n) q⟩,fun b u q n _=>by rw[C1 (hx b n)];exact n,fun b u q _=>?_,
  fun b xs q=>by rw[C1 (hm b _ q fun z=>z)];exact q,fun b u xs q=>by rw[C1 (hm b _ q fun z=>z)];exact q,fun b ps q=>⟨#[],by rw[C1 (hm b _ q fun z=>z),q];simp⟩⟩
 by_cases hbe:b=e
 ·subst hbe;exact heo
 ·exact⟨u,k b u hbe q⟩
end
def trk (h:Heap) (H:Hp):List Addr:=(P5 h.objs.size).filter fun a=>(H a).isSome
def A1l (h:Heap) (H:Hp):Heap:=PySem.W.hideAll h (trk h H)
theorem C3i (h:Heap) (H:Hp):(A1l h H).objs.size=h.objs.size:=PySem.W.hideAll_size _ _
theorem C3j {h:Heap} {H:Hp} {b:Addr} {o:Obj} (e:h.get? b=some o) (n:H b=none):(A1l h H).get? b=some o:=
 PySem.W.hideAll_get _ e fun hm=>by
  have q:(H b).isSome=true:=(A8b.mp hm).2
  rw[n] at q;simp at q
theorem C3k {h:Heap} {H:Hp} {b:Addr} {o:Obj} (e:(A1l h H).get? b=some o):h.get? b=some o/\H b=none:=by
 have e':h.get? b=some o:=PySem.W.of_hideAll (trk h H) e
 refine⟨e',?_⟩
 cases q:H b with
 | none=>rfl
 | some x=>
  have hm:b∈trk h H:=A8b.mpr ⟨l5.mpr (G9 e'),by simp [q]⟩
  have z:(A1l h H).get? b=none:=PySem.W.hideAll_none (trk h H) hm
  rw[z] at e;cases e
def C3l (g h:Heap) (L:Addr):List (Addr×Obj):=(P5 h.objs.size).filterMap fun a=>if a=L\/(g.get? a).isSome=true then none else (h.get? a).map fun o=>(a,o)
def S7 (g h:Heap) (L d:Addr):List (Addr×Obj):=(C3l g h L).filter fun p=>decide (p.1≠d)
structure Mod (K:B3) (mg:Str->Option Value) (base:Heap):Prop where
 kin:K.In base
 glob:base.Ns mainGlobals mg
 blt:∃mb,base.Ns builtinsNs mb/\∀x:Str,x≠ "__name__" ->mb x=bootBuiltins x
 nolimit:base.NoLimit
structure Cx where
 prog:Program
 w:World
 K:B3
 mg:Str->Option Value
 base:Heap
 A:Around
 N:List Str
 s₀:Shared
 H₀:Hp
 env:Env
 outer:List Env
 stack:List Env
 ex:List Addr
 fn:Str->Bool
 calm:Bool
 pn:List (Addr×Obj)
 xe:Value->Shared->Prop
def frs (l:List Env):List Addr:=l.filterMap (·.frame)
abbrev Cx.fs (X:Cx):List Addr:=frs X.outer
def Vis (sc:Scope) (x:Str):Prop:=sc.names.lookup x=some .local\/sc.names.lookup x=some .cell\/sc.names.lookup x=some .free
def Loc (sc:Scope) (x:Str):Prop:=sc.names.lookup x=some .local\/sc.names.lookup x=some .cell
def A9w (env:Env) (h:Heap) (m:Str->Option Value) (x:Str) (u:Value):Prop:=
 (env.kindOf x=some .local/\m x=some u)\/((env.kindOf x=some .cell\/env.kindOf x=some .free)/\∃c,env.cells.lookup x=some c/\h.IsCell c (some u))
structure Cx.Ok (X:Cx):Prop where
 mod:Mod X.K X.mg X.base
 kind:X.env.scope.kind=.function
 glob:X.env.globals=mainGlobals
 blt:X.env.builtins=builtinsNs
 above:X.s₀.heap.objs.size<=X.env.locals
 inj:∀x y c,X.env.cells.lookup x=some c->X.env.cells.lookup y=some c->x=y
 has:∀x,(X.env.kindOf x=some .cell\/X.env.kindOf x=some .free)->∃c,X.env.cells.lookup x=some c
 cab:∀x c,X.fn x=true->X.env.cells.lookup x=some c->X.s₀.heap.objs.size<=c
 hd:X.calm=true->X.A.handled=none
 frames:X.A.frames=some X.stack
 stk:X.stack=X.outer\/(X.stack=X.env::X.outer/\X.env.frame=some X.env.locals)
 exf:∀b∈X.ex,b≠X.env.locals/\∀x c,X.env.cells.lookup x=some c->c≠b
 bs:∀b o,X.base.get? b=some o->X.s₀.heap.get? b=some o/\X.H₀ b=none
 bsz:X.base.objs.size<=X.s₀.heap.objs.size
 noex:∀b o,X.base.get? b=some o->b∉X.ex
 exfs:∀b∈X.ex,b∉X.fs
 funs:X.s₀.heap.FunFrames X.base X.outer
 frf:∀b∈X.fs,X.H₀ b=none
structure Inv (X:Cx) (pins:List (Addr×Obj)) (σ:List (Option V)) (H:Hp) (s:Shared):Prop where
 ok:X.Ok
 os:s.os=X.s₀.os
 bare:AllBare s.gens
 base:Un X.fs X.ex X.H₀ H X.s₀.heap s.heap
 loc:∃m,s.heap.Ns X.env.locals m/\∀(i:Nat) (x:Str) (v:V),X.N[i]?=some x->σ[i]?=some (some v)->Vis X.env.scope x->∃u,G3 v u/\A9w X.env s.heap m x u
 cell:∀x c,X.env.cells.lookup x=some c->∃v,s.heap.IsCell c v
 free:H X.env.locals=none
 freeC:∀x c,X.env.cells.lookup x=some c->H c=none
 pin:∀p∈X.pn++pins,s.heap.get? p.1=some p.2/\H p.1=none/\p.1≠X.env.locals/\p.1∉X.fs/\∀v,p.2.data≠.cell v
 hok:HOk X.prog X.w H s.heap
 len:σ.length=X.N.length
section
variable {X:Cx} {pins:List (Addr×Obj)} {σ:List (Option V)} {H H':Hp} {s:Shared} {h':Heap}
theorem Cx.Ok.nofr (ok:X.Ok) {b:Addr} {o:Obj} (e:X.base.get? b=some o):b∉X.fs:=fun hb=>by
 have:=(ok.funs.mem hb).1
 rw[e] at this;cases this
theorem Inv.bs (I:Inv X pins σ H s):∀b o,X.base.get? b=some o->s.heap.get? b=some o/\H b=none:=fun b o e=>
 ⟨I.base.keep b o (I.ok.bs b o e).1 (I.ok.bs b o e).2 (I.ok.nofr e) (I.ok.noex b o e),I.base.free b o (I.ok.bs b o e).1 (I.ok.bs b o e).2 (I.ok.noex b o e)⟩
theorem Inv.bk (I:Inv X pins σ H s):∀b o,X.base.get? b=some o->s.heap.get? b=some o:=fun b o e=>(I.bs b o e).1
theorem Inv.mod (I:Inv X pins σ H s):Mod X.K X.mg X.base:=I.ok.mod
theorem Inv.kIn (I:Inv X pins σ H s):X.K.In s.heap:=I.ok.mod.kin.keeps I.bk
theorem Inv.lt (I:Inv X pins σ H s):X.env.locals < s.heap.objs.size:=let ⟨_,hn,_⟩:=I.loc;hn.lt
theorem Inv.sz (I:Inv X pins σ H s):X.s₀.heap.objs.size<=s.heap.objs.size:=m8 I.ok.above (A4l I.lt)
theorem Inv.nofs (I:Inv X pins σ H s) {a:Addr} (h:s.heap.objs.size<=a):a∉X.fs:=fun hb=>by
 obtain⟨_,o,ho,_⟩:=I.ok.funs.mem hb
 exact absurd (S1 (G9 ho) (m8 I.sz h)) (V9 _)
theorem Inv.cne (I:Inv X pins σ H s):∀x c,X.env.cells.lookup x=some c->c≠X.env.locals:=fun x c e z=>by
 obtain⟨v,o,ho,hd⟩:=I.cell x c e
 obtain⟨m,⟨o',es,ep,ho',hd',_⟩,_⟩:=I.loc
 rw[z,ho'] at ho;cases ho;rw[hd'] at hd;cases hd
theorem Inv.funs (I:Inv X pins σ H s):s.heap.FunFrames X.base X.outer:=by
 have all:∀(l:List Env),(∀b∈frs l,b∈X.fs)->X.s₀.heap.FunFrames X.base l->s.heap.FunFrames X.base l:=by
  intro l
  induction l with
  | nil=>intro _ _;trivial
  | cons env r ih=>
   intro hs hl
   obtain⟨hk,⟨L,o,hf,hn,ho,hd⟩,hr⟩:=hl
   have hL:L∈X.fs:=hs L (by unfold frs;rw[C24,hf];exact C0)
   obtain⟨sl,e⟩:=I.base.slot L o ho (I.ok.frf L hL) hL fun z=>I.ok.exfs L z hL
   exact⟨hk,⟨L,_,hf,hn,e,hd⟩,ih (fun b hb=>hs b (by unfold frs;rw[C24,hf];exact B6 _ hb)) hr⟩
 exact all X.outer (fun _ hb=>hb) I.ok.funs
theorem Inv.stack (I:Inv X pins σ H s):s.heap.FunFrames X.base X.stack:=by
 rcases I.ok.stk with e | ⟨e,hf⟩
 ·rw[e];exact I.funs
 ·rw[e]
  obtain⟨m,hn,_⟩:=I.loc
  refine .cons (by rw[I.ok.kind];decide) hf hn ?_ I.funs
  exact Heap.get?_none_of_le (m8 I.ok.bsz I.ok.above)
theorem Inv.stkSub (I:Inv X pins σ H s):∀b∈frs X.stack,b∈X.env.locals::X.fs:=fun b hb=>by
 rcases I.ok.stk with e | ⟨e,hf⟩
 ·rw[e] at hb;exact B6 _ hb
 ·rw[e] at hb
  unfold frs at hb
  rw[C24,hf] at hb
  exact hb
theorem Inv.stkFree (I:Inv X pins σ H s):∀b∈frs X.stack,H b=none:=fun b hb=>by
 rcases N1.mp (I.stkSub b hb) with e | hb
 ·rw[e];exact I.free
 ·obtain⟨_,o,ho,_⟩:=I.ok.funs.mem hb
  exact I.base.free b o ho (I.ok.frf b hb) fun z=>I.ok.exfs b z hb
theorem Inv.step {g':Array GenState} {t':Nat} {d':Drawn} {ch:List Addr} (I:Inv X pins σ H s)
  (hch:∀b∈ch,(b∈X.ex\/X.s₀.heap.objs.size<=b)/\b≠X.env.locals/\(∀x c,X.env.cells.lookup x=some c->c≠b)/\∀p∈X.pn++pins,p.1≠b)
  (keep:∀b o,b≠X.env.locals->b∉X.fs->b∉ch->s.heap.get? b=some o->H b=none->h'.get? b=some o)
  (slot:∀b o,b≠X.env.locals->b∈X.fs->b∉ch->s.heap.get? b=some o->H b=none->∃sl,h'.get? b=some { o with slots:=sl }) (free:∀b o,b∉ch->s.heap.get? b=some o->H b=none->H' b=none)
  (there:∀b o,b∉ch->s.heap.get? b=some o->∃o',h'.get? b=some o')
  (tups:∀b xs,H b=some (.tup xs)->H' b=some (.tup xs)) (frzs:∀b o u,H b=some (.frz o u)->H' b=some (.frz o u)) (tbls:∀b ps,H b=some (.tbl ps)->∃more,H' b=some (.tbl (ps++more)))
  (ns:∀m,s.heap.Ns X.env.locals m->h'.Ns X.env.locals m) (hok:HOk X.prog X.w H' h') (hg:AllBare g') :
  Inv X pins σ H' { s with heap:=h',gens:=g',drawn:=d',toks:=t' }:=by
 have neL:∀b o,X.s₀.heap.get? b=some o->b≠X.env.locals:=fun b o e=>M5 (S1 (G9 e) I.ok.above)
 have neC:∀b o,X.s₀.heap.get? b=some o->b∉X.ex->b∉ch:=fun b o e hx hb=>by
  rcases (hch b hb).1 with z | z
  ·exact hx z
  ·exact absurd (S1 (G9 e) z) (V9 _)
 have cellK:∀x c,X.env.cells.lookup x=some c->∀v,s.heap.IsCell c v->h'.IsCell c v:=fun x c e v zz1=>el2 zz1 fun o ho hd=>by
  have nch:c∉ch:=fun z=>(hch c z).2.2.1 x c e rfl
  by_cases hc:c∈X.fs
  ·obtain⟨sl,q⟩:=slot c o (I.cne x c e) hc nch ho (I.freeC x c e)
   exact⟨_,q,hd⟩
  ·exact⟨o,keep c o (I.cne x c e) hc nch ho (I.freeC x c e),hd⟩
 refine⟨I.ok,I.os,hg,⟨fun b o e n hb hx=>?_,fun b o e n hb hx=>?_,fun b o e n hx=>?_,fun b o e hx=>?_,fun b xs e=>tups b xs (I.base.tups b xs e),fun b o xs e=>frzs b o xs (I.base.frzs b o xs e),fun b ps e=>?_⟩,?_,fun x c e=>?_,?_,fun x c e=>?_,fun p hp=>?_,hok,I.len⟩
 ·exact keep b o (neL b o e) hb (neC b o e hx) (I.base.keep b o e n hb hx) (I.base.free b o e n hx)
 ·obtain⟨sl,e1⟩:=I.base.slot b o e n hb hx
  obtain⟨sl',e2⟩:=slot b _ (neL b o e) hb (neC b o e hx) e1 (I.base.free b o e n hx)
  exact⟨sl',e2⟩
 ·obtain⟨o',e1⟩:=I.base.there b o e hx
  exact free b o' (neC b o e hx) e1 (I.base.free b o e n hx)
 ·obtain⟨o',e1⟩:=I.base.there b o e hx
  exact there b o' (neC b o e hx) e1
 ·obtain⟨m1,e1⟩:=I.base.tbls b ps e
  obtain⟨m2,e2⟩:=tbls b _ e1
  exact⟨m1++m2,by rw[e2,Array.append_assoc]⟩
 ·obtain⟨m,hn,hl⟩:=I.loc
  refine⟨m,ns m hn,fun i x v e1 e2 e3=>?_⟩
  obtain⟨u,r,l⟩:=hl i x v e1 e2 e3
  refine⟨u,r,?_⟩
  rcases l with l | ⟨k,c,e,z⟩
  ·exact .inl l
  ·exact .inr ⟨k,c,e,cellK x c e _ z⟩
 ·obtain⟨v,z⟩:=I.cell x c e
  exact⟨v,cellK x c e v z⟩
 ·obtain⟨m,⟨o,_,_,ho,_⟩,_⟩:=I.loc
  exact free _ o (fun z=>(hch _ z).2.1 rfl) ho I.free
 ·obtain⟨v,o,ho,hd⟩:=I.cell x c e
  exact free c o (fun z=>(hch c z).2.2.1 x c e rfl) ho (I.freeC x c e)
 ·obtain⟨e,n,ne,nf,d⟩:=I.pin p hp
  have nch:p.1∉ch:=fun z=>(hch p.1 z).2.2.2 p hp rfl
  exact⟨keep p.1 p.2 ne nf nch e n,free p.1 p.2 nch e n,ne,nf,d⟩
theorem Inv.un {t':Nat} (I:Inv X pins σ H s) (u:Un X.fs [] H H' s.heap h') (hok:HOk X.prog X.w H' h'):Inv X pins σ H' { s with heap:=h',toks:=t' }:=by
 obtain⟨m,⟨o,es,ep,ho,r⟩,_⟩:=id I.loc
 obtain⟨sl,hL⟩:=u.any ho I.free (by simp)
 exact I.step (g':=s.gens) (d':=s.drawn) (ch:=[]) (fun _ z=>nomatch z) (fun b o _ hb _ e n=>u.keep b o e n hb (by simp)) (fun b o _ hb _ e n=>u.slot b o e n hb (by simp)) (fun b o _ e n=>u.free b o e n (by simp)) (fun b o _ e=>u.there b o e (by simp)) u.tups u.frzs u.tbls (fun m' hm=>by
  obtain⟨o',es',ep',ho',r'⟩:=hm
  rw[ho] at ho';cases ho'
  exact⟨_,es',ep',hL,r'⟩) hok I.bare
theorem Inv.call {g':Array GenState} {t':Nat} {d':Drawn} {ch:List Addr} (I:Inv X pins σ H s) (u:Un (frs X.stack) ch H H' s.heap h') (hok:HOk X.prog X.w H' h') (hg:AllBare g')
  (hch:∀b∈ch,(b∈X.ex\/X.s₀.heap.objs.size<=b)/\b≠X.env.locals/\(∀x c,X.env.cells.lookup x=some c->c≠b)/\∀p∈X.pn++pins,p.1≠b) :
  Inv X pins σ H' { s with heap:=h',gens:=g',drawn:=d',toks:=t' }:=by
 obtain⟨m,⟨o,es,ep,ho,r⟩,_⟩:=id I.loc
 obtain⟨sl,hL⟩:=u.any ho I.free fun z=>(hch _ z).2.1 rfl
 exact I.step (ch:=ch) hch (fun b o hL hb hc e n=>u.keep b o e n (fun z=>(N1.mp (I.stkSub b z)).elim hL hb) hc) (fun b o _ _ hc e n=>u.any e n hc) (fun b o hc e n=>u.free b o e n hc) (fun b o hc e=>u.there b o e hc) u.tups u.frzs u.tbls (fun m' hm=>by
  obtain⟨o',es',ep',ho',r'⟩:=hm
  rw[ho] at ho';cases ho'
  exact⟨_,es',ep',hL,r'⟩) hok hg
theorem Inv.turned {t':Nat} {it:Addr} (I:Inv X pins σ H s) (k:∀b o,b≠it->s.heap.get? b=some o->h'.get? b=some o) (hn:H it=none) (hL:it≠X.env.locals)
  (h1:it∈X.ex\/X.s₀.heap.objs.size<=it) (h2:∀x c,X.env.cells.lookup x=some c->c≠it) (h3:∀p∈X.pn++pins,p.1≠it):Inv X pins σ H { s with heap:=h',toks:=t' }:=by
 have nit:∀b u,H b=some u->b≠it:=fun b u e z=>by rw[z,hn] at e;cases e
 refine I.step (g':=s.gens) (d':=s.drawn) (ch:=[it]) (fun b hb=>?_) (fun b o _ _ hc e _=>k b o (fun z=>hc (by simp [z])) e) (fun b o _ _ hc e _=>⟨o.slots,k b o (fun z=>hc (by simp [z])) e⟩) (fun _ _ _ _ n=>n)
  (fun b o hc e=>⟨o,k b o (fun z=>hc (by simp [z])) e⟩) (fun _ _ e=>e) (fun _ _ _ e=>e) (fun b ps e=>⟨#[],by rw[e];simp⟩) (fun m hm=>?_) (fun b u e=>?_) I.bare
 ·have e:b=it:=by simpa using hb
  subst e
  exact⟨h1,hL,h2,h3⟩
 ·obtain⟨o,es,ep,ho,r⟩:=hm
  exact⟨o,es,ep,k _ o (Ne.symm hL) ho,r⟩
 ·refine (I.hok b u e).stay (fun c v hc q=>k c v ?_ q) (fun _ q=>q) fun _ _ q=>q
  rcases hc with z | z
  ·rw[z];exact nit b u e
  ·exact nit c _ z
theorem Inv.tok (I:Inv X pins σ H s) (t:Nat):Inv X pins σ H { s with toks:=t }:=I.un (h':=s.heap) (t':=t) Un.refl I.hok
theorem Inv.kept {t':Nat} (I:Inv X pins σ H s) (k:∀b u,s.heap.get? b=some u->h'.get? b=some u):Inv X pins σ H { s with heap:=h',toks:=t' }:=I.un (Un.kept k) (I.hok.kept k)
theorem Inv.laid {a:Addr} {o:HO} {t':Nat} (I:Inv X pins σ H s) (k:∀b u,s.heap.get? b=some u->h'.get? b=some u) (hp:s.heap.objs.size<=a) (new:S6 X.prog X.w (upd H a o) h' a o) :
  Inv X pins σ (upd H a o) { s with heap:=h',toks:=t' }:=I.un (Un.laid k hp (I.hok.fresh hp)) (I.hok.laid k hp new)
theorem Inv.write {x e:Addr} {o:HO} {t':Nat} (I:Inv X pins σ H s) (mu:Mut (H x)) (he:e=x\/H e=some (.own x)) (k:∀b u,b≠e->s.heap.get? b=some u->h'.get? b=some u) (heo:∃u,h'.get? e=some u)
  (new:S6 X.prog X.w (upd H x o) h' x o):Inv X pins σ (upd H x o) { s with heap:=h',toks:=t' }:=I.un (Un.write mu he k heo) (I.hok.write mu he k heo new)
theorem Inv.weak {σ':List (Option V)} (I:Inv X pins σ H s) (hl:σ'.length=σ.length) (w:∀(i:Nat) v,σ'[i]?=some (some v)->σ[i]?=some (some v)):Inv X pins σ' H s:=
 ⟨I.ok,I.os,I.bare,I.base,let ⟨m,hn,hl'⟩:=I.loc;⟨m,hn,fun i x v e1 e2 e3=>hl' i x v e1 (w i v e2) e3⟩,I.cell,I.free,I.freeC,I.pin,I.hok,hl.trans I.len⟩
theorem Inv.pins_of {pins':List (Addr×Obj)} (I:Inv X pins σ H s) (h:∀p∈pins',s.heap.get? p.1=some p.2/\H p.1=none/\p.1≠X.env.locals/\p.1∉X.fs/\∀v,p.2.data≠.cell v):Inv X pins' σ H s:=
 ⟨I.ok,I.os,I.bare,I.base,I.loc,I.cell,I.free,I.freeC,fun p hp=>(O9.mp hp).elim (fun z=>I.pin p (A8c _ z)) (h p),I.hok,I.len⟩
theorem A4r {N:List Str} (hN:N.Nodup) {i j:Nat} {x:Str} (a:N[i]?=some x) (b:N[j]?=some x):i=j:=by
 obtain⟨h1,e1⟩:=m9.mp a
 obtain⟨h2,e2⟩:=m9.mp b
 exact (List.getElem_inj hN).mp (e1.trans e2.symm)
theorem B2u {M:Model} {A:Around} {E:Value->Shared->Prop} {i:Nat} {x:Str} {v:V} {u:Value} {Q:Unit->Shared->Prop} (I:Inv X pins σ H s) (hN:X.N.Nodup) (hi:X.N[i]?=some x) (hx:Loc X.env.scope x) (r:G3 v u)
  (h:∀s',Inv X pins (σ.set i (some v)) H s'->(∃a,Heap.SameBut a s.heap s'.heap/\(a=X.env.locals\/X.env.cells.lookup x=some a))->Q () s') (hf:X.fn x=true\/X.env.scope.names.lookup x=some .local:=by first | exact .inl rfl | exact .inr rfl | assumption):wpAny M A (storeName X.env x u) Q E s:=by
 obtain⟨m,hn,hl⟩:=id I.loc
 have hcls:(X.env.scope.kind == .class||(X.env.scope.kind == .module&&X.env.locals != X.env.globals))=false:=by rw[I.ok.kind];rfl
 have hiσ:i < σ.length:=by rw[I.len];exact (m9.mp hi).1
 have cne:=I.cne
 have tracked:∀{a:Addr} {h':Heap},(∃o,s.heap.get? a=some o/\H a=none)->Heap.SameBut a s.heap h'->HOk X.prog X.w H h':=fun {a h'} ha hs b ob e=>by
  obtain⟨_,_,hfree⟩:=ha
  refine (I.hok b ob e).stay (fun c w' hc q=>(hs.2 c ?_).trans q) (fun _ q=>q) fun _ _ q=>q
  rintro rfl
  rcases hc with rfl | hc
  ·rw[hfree] at e;cases e
  ·rw[hfree] at hc;cases hc
 rcases hx with hk | hk
 ·refine wpAny_storeName_local hk hn (fun h' hn' hs=>?_) hcls
  obtain⟨oL,_,_,hoL,_⟩:=id hn
  refine h _ ⟨I.ok,I.os,I.bare,⟨fun b o e n hb hx=>?_,fun b o e n hb hx=>?_,I.base.free,fun b o e hx=>?_,I.base.tups,I.base.frzs,I.base.tbls⟩,⟨_,hn',fun j y v' e1 e2 e3=>?_⟩,fun y c e=>?_,I.free,I.freeC,fun p hp=>?_,tracked ⟨oL,hoL,I.free⟩ hs,by simpa using I.len⟩ ⟨_,hs,.inl rfl⟩
  ·exact (hs.2 b (M5 (S1 (G9 e) I.ok.above))).trans (I.base.keep b o e n hb hx)
  ·obtain⟨sl,e1⟩:=I.base.slot b o e n hb hx
   exact⟨sl,(hs.2 b (M5 (S1 (G9 e) I.ok.above))).trans e1⟩
  ·obtain⟨o',e1⟩:=I.base.there b o e hx
   exact⟨o',(hs.2 b (M5 (S1 (G9 e) I.ok.above))).trans e1⟩
  ·by_cases hj:j=i
   ·subst hj
    rw[hi] at e1;cases e1
    rw[B63 hiσ] at e2
    cases e2
    exact⟨u,r,.inl ⟨hk,by simp⟩⟩
   ·rw[U6 (Ne.symm hj)] at e2
    obtain⟨u',r',q⟩:=hl j y v' e1 e2 e3
    refine⟨u',r',?_⟩
    rcases q with ⟨k,e⟩ | ⟨k,c,e,z⟩
    ·refine .inl ⟨k,?_⟩
     have:y≠x:=fun e=>hj (A4r hN e1 (e▸hi))
     simp [this,e]
    ·exact .inr ⟨k,c,e,z.sameBut hs (cne y c e)⟩
  ·obtain⟨w',z⟩:=I.cell y c e
   exact⟨w',z.sameBut hs (cne y c e)⟩
  ·obtain⟨e,n,ne,nf,d⟩:=I.pin p hp
   exact⟨(hs.2 p.1 ne).trans e,n,ne,nf,d⟩
 ·have hfn:X.fn x=true:=by
   rcases hf with z | z
   ·exact z
   ·rw[z] at hk;cases hk
  obtain⟨c,hc⟩:=I.ok.has x (.inl hk)
  obtain⟨w',z⟩:=I.cell x c hc
  refine wpAny_storeName_cell I.ok.kind hk hc z (fun h' hc' hs=>?_)
  obtain⟨oc,hoc,hocd⟩:=id z
  refine h { s with heap:=h' } ⟨I.ok,I.os,I.bare,⟨fun b o e n hb hx=>?_,fun b o e n hb hx=>?_,I.base.free,fun b o e hx=>?_,I.base.tups,I.base.frzs,I.base.tbls⟩,⟨m,hn.sameBut hs (Ne.symm (cne x c hc)),fun j y v' e1 e2 e3=>?_⟩,fun y c' e=>?_,I.free,I.freeC,fun p hp=>?_,tracked ⟨oc,hoc,I.freeC x c hc⟩ hs,by simpa using I.len⟩ ⟨c,hs,.inr hc⟩
  ·exact (hs.2 b (M5 (S1 (G9 e) (I.ok.cab x c hfn hc)))).trans (I.base.keep b o e n hb hx)
  ·obtain⟨sl,e1⟩:=I.base.slot b o e n hb hx
   exact⟨sl,(hs.2 b (M5 (S1 (G9 e) (I.ok.cab x c hfn hc)))).trans e1⟩
  ·obtain⟨o',e1⟩:=I.base.there b o e hx
   exact⟨o',(hs.2 b (M5 (S1 (G9 e) (I.ok.cab x c hfn hc)))).trans e1⟩
  ·by_cases hj:j=i
   ·subst hj
    rw[hi] at e1;cases e1
    rw[B63 hiσ] at e2
    cases e2
    exact⟨u,r,.inr ⟨.inl hk,c,hc,hc'⟩⟩
   ·rw[U6 (Ne.symm hj)] at e2
    obtain⟨u',r',q⟩:=hl j y v' e1 e2 e3
    refine⟨u',r',?_⟩
    rcases q with q | ⟨k,c',e,z'⟩
    ·exact .inl q
    ·refine .inr ⟨k,c',e,z'.sameBut hs ?_⟩
     rintro rfl
     exact hj (A4r hN e1 (I.ok.inj _ _ _ e hc▸hi))
  ·by_cases hcc:c'=c
   ·subst hcc;exact⟨_,hc'⟩
   ·obtain⟨w2,z2⟩:=I.cell y c' e
    exact⟨w2,z2.sameBut hs hcc⟩
  ·obtain⟨e,n,ne,nf,d⟩:=I.pin p hp
   refine⟨(hs.2 p.1 ?_).trans e,n,ne,nf,d⟩
   intro q
   rw[q,hoc] at e
   have q':oc=p.2:=Option.some.inj e
   exact d w' (by rw[<-q'];exact hocd)
theorem A2p {M:Model} {A:Around} {E:Value->Shared->Prop} {i:Nat} {x:Str} {v:V} {u:Value} {Q:Unit->Shared->Prop} (I:Inv X pins σ H s) (hN:X.N.Nodup) (hi:X.N[i]?=some x) (hx:Loc X.env.scope x) (r:G3 v u)
  (h:∀s',Inv X pins (σ.set i (some v)) H s'->Q () s') (hf:X.fn x=true\/X.env.scope.names.lookup x=some .local:=by first | exact .inl rfl | exact .inr rfl | assumption):wpAny M A (storeName X.env x u) Q E s:=
 B2u I hN hi hx r (fun s' I' _=>h s' I') hf
theorem Inv.call' {s':Shared} {ch:List Addr} (I:Inv X pins σ H s) (ho:s'.os=s.os) (u:Un (frs X.stack) ch H H' s.heap s'.heap) (hok:HOk X.prog X.w H' s'.heap) (hg:AllBare s'.gens)
  (hch:∀b∈ch,(b∈X.ex\/X.s₀.heap.objs.size<=b)/\b≠X.env.locals/\(∀x c,X.env.cells.lookup x=some c->c≠b)/\∀p∈X.pn++pins,p.1≠b):Inv X pins σ H' s':=by
 obtain⟨h',g',d',t',o'⟩:=s'
 have e:o'=s.os:=ho
 subst e
 exact I.call (g':=g') (t':=t') (d':=d') u hok hg hch
end
abbrev XK:=Value->Option Addr->Hp->Prop
abbrev St:=List (Option V)
abbrev VK:=V->Hp->Prop
abbrev TE:=St->Hp->VK->Prop
abbrev TT:=St->Hp->(Bool->Hp->Prop)->Prop
abbrev TA:=St->Hp->(List V->Hp->Prop)->Prop
structure X3 where
 nx:St->Hp->Prop
 rt:VK
 bk:St->Hp->Prop:=fun _ _=>False
 ct:St->Hp->Prop:=fun _ _=>False
abbrev TS:=X3->St->Hp->Prop
def EP (X:Cx) (pins:List (Addr×Obj)) (σ:St) (Q:VK) (u:Value) (s':Shared):Prop:=∃v H',Inv X pins σ H' s'/\G3 v u/\Q v H'
def TP (X:Cx) (pins:List (Addr×Obj)) (σ:St) (Q:Bool->Hp->Prop) (b:Bool) (s':Shared):Prop:=∃H',Inv X pins σ H' s'/\Q b H'
def AP (X:Cx) (pins:List (Addr×Obj)) (σ:St) (Q:List V->Hp->Prop) (us:List Value) (s':Shared):Prop:=∃vs H',Inv X pins σ H' s'/\D7 vs us/\Q vs H'
def SP (X:Cx) (pins:List (Addr×Obj)) (D:X3) (f:Flow) (s':Shared):Prop:=
 match f with
 | .next=>∃σ' H',Inv X pins σ' H' s'/\D.nx σ' H'
 | .brk=>∃σ' H',Inv X pins σ' H' s'/\D.bk σ' H'
 | .cont=>∃σ' H',Inv X pins σ' H' s'/\D.ct σ' H'
 | .ret u=>∃v σ' H',Inv X pins σ' H' s'/\G3 v u/\D.rt v H'
def PE (X:Cx) (e:Expr) (t:TE):Prop:=
 ∀(pins:List (Addr×Obj)) (s:Shared) (σ:St) (H:Hp) (Q:VK),Inv X pins σ H s->t σ H Q->wpAny (model X.prog X.w) X.A (eval e X.env) (EP X pins σ Q) X.xe s
def PT (X:Cx) (e:Expr) (t:TT):Prop:=
 ∀(pins:List (Addr×Obj)) (s:Shared) (σ:St) (H:Hp) (Q:Bool->Hp->Prop),Inv X pins σ H s->t σ H Q->wpAny (model X.prog X.w) X.A (isTrue e X.env (eval e X.env)) (TP X pins σ Q) X.xe s
def PW (X:Cx) (e:Expr) (t:TT):Prop:=
 ∀(whole:Sem Value) (pins:List (Addr×Obj)) (s:Shared) (σ:St) (H:Hp) (Q:Bool->Hp->Prop),Inv X pins σ H s->t σ H Q->wpAny (model X.prog X.w) X.A (isTrue e X.env whole) (TP X pins σ Q) X.xe s
theorem PW.pt {X:Cx} {e:Expr} {t:TT} (h:PW X e t):PT X e t:=h _
def PA (X:Cx) (es:List Expr) (t:TA):Prop:=
 ∀(pos:Pos) (pins:List (Addr×Obj)) (s:Shared) (σ:St) (H:Hp) (Q:List V->Hp->Prop),Inv X pins σ H s->t σ H Q->wpAny (model X.prog X.w) X.A (spliced (backTo pos (starEach es X.env))) (AP X pins σ Q) X.xe s
def PS (X:Cx) (st:Stmt) (t:TS):Prop:=
 ∀(pins:List (Addr×Obj)) (s:Shared) (σ:St) (H:Hp) (D:X3),Inv X pins σ H s->t D σ H->wpAny (model X.prog X.w) X.A (exec st X.env) (SP X pins D) X.xe s
def PSs (X:Cx) (st:List Stmt) (t:TS):Prop:=
 ∀(pins:List (Addr×Obj)) (s:Shared) (σ:St) (H:Hp) (D:X3),Inv X pins σ H s->t D σ H->wpAny (model X.prog X.w) X.A (execs st X.env) (SP X pins D) X.xe s
theorem thn {α:Type} {t:Sem α} {Q Q':α->Shared->Prop} {M:Model} {A:Around} {E:Value->Shared->Prop} {s:Shared} (h:wpAny M A t Q E s) (hQ:∀a s,Q a s->Q' a s):wpAny M A t Q' E s:=wpAny_mono h hQ fun _ _ x=>x
section
variable {X:Cx}
def X4 (i:Nat):TE:=fun σ H Q=>∃v,σ[i]?=some (some v)/\Q v H
def tC (v:V):TE:=fun _ H Q=>Q v H
theorem C3m {i:Nat} {x:Str} {pos:Pos} (hN:X.N[i]?=some x) (hv:Vis X.env.scope x) (hd:(x == ("__debug__" : Str))=false:=by decide) (hcd:(x == ("__classdict__" : Str))=false:=by decide):PE X (.Name x pos) (X4 i):=by
 intro pins s σ H Q I h
 obtain⟨v,e,h⟩:=h
 obtain⟨m,hn,hl⟩:=I.loc
 obtain⟨u,r,l⟩:=hl i x v hN e hv
 have fin:EP X pins σ Q u s:=⟨v,H,I,r,h⟩
 rcases l with ⟨hk,hm⟩ | ⟨hk,c,hc,hcell⟩
 ·exact wpAny_Name (wpAny_loadName_local I.ok.kind hk hn hm fin) hd
 ·rcases hk with hk | hk
  ·exact wpAny_Name (wpAny_loadName_cell I.ok.kind hk hc hcell fin) hd
  ·exact wpAny_Name (wpAny_loadName_free I.ok.kind hk hc hcell fin hcd) hd
theorem D1 {i j pos}:PE X (.Constant (.int i) j pos) (tC (.int i)):=fun _ _ _ H _ I h=>wpAny_Constant_int ⟨.int i,H,I.tok _,⟨_,rfl⟩,h⟩
theorem A1m {b j pos}:PE X (.Constant (.bool b) j pos) (tC (.bl b)):=fun _ _ _ H _ I h=>Constant_bool ⟨.bl b,H,I,rfl,h⟩
theorem A2q {j pos}:PE X (.Constant .none j pos) (tC .non):=fun _ _ _ H _ I h=>Constant_none ⟨.non,H,I,rfl,h⟩
theorem A9x {x j pos}:PE X (.Constant (.str x) j pos) (tC (.str x)):=fun _ _ _ H _ I h=>Calls.Constant_str ⟨.str x,H,I.tok _,⟨_,rfl⟩,h⟩
def Gl (X:Cx) (x:Str):Prop:=X.env.kindOf x=some .globalImplicit
theorem B7o {E:Value->Shared->Prop} {pins:List (Addr×Obj)} {s:Shared} {σ:St} {H:Hp} {x:Str} {u:Value} {pos:Pos} {Q:Value->Shared->Prop} (I:Inv X pins σ H s) (hg:Gl X x) (hm:X.mg x=some u) (h:Q u s)
  (hd:(x == ("__debug__" : Str))=false:=by decide):wpAny (model X.prog X.w) X.A (eval (.Name x pos) X.env) Q E s:=
 Calls.Name_function_global I.ok.kind hg (Calls.loadGlobal_global (by rw[I.ok.glob];exact I.mod.glob.keeps I.bk) hm h) hd
theorem A1n {E:Value->Shared->Prop} {pins:List (Addr×Obj)} {s:Shared} {σ:St} {H:Hp} {x:Str} {u:Value} {pos:Pos} {Q:Value->Shared->Prop} (I:Inv X pins σ H s) (hg:Gl X x) (hm:X.mg x=none) (hv:bootBuiltins x=some u) (h:Q u s)
  (hn:x≠ "__name__" :=by decide) (hd:(x == ("__debug__" : Str))=false:=by decide):wpAny (model X.prog X.w) X.A (eval (.Name x pos) X.env) Q E s:=by
 obtain⟨mb,h1,h2⟩:=I.mod.blt
 exact Calls.Name_function_global I.ok.kind hg (Calls.loadGlobal_builtin (by rw[I.ok.glob];exact I.mod.glob.keeps I.bk) hm (by rw[I.ok.blt];exact h1.keeps I.bk) ((h2 x hn).trans hv) h) hd
theorem D6 {x:Str} {v:V} {u:Value} {pos:Pos} (hg:Gl X x) (hm:X.mg x=some u) (r:G3 v u) (hd:(x == ("__debug__" : Str))=false:=by decide):PE X (.Name x pos) (tC v):=
 fun _ _ _ H _ I h=>B7o I hg hm ⟨v,H,I,r,h⟩ hd
theorem p7 {x:Str} {v:V} {u:Value} {pos:Pos} (hg:Gl X x) (hm:X.mg x=none) (hv:bootBuiltins x=some u) (r:G3 v u) (hn:x≠ "__name__" :=by decide) (hd:(x == ("__debug__" : Str))=false:=by decide):PE X (.Name x pos) (tC v):=
 fun _ _ _ H _ I h=>A1n I hg hm hv ⟨v,H,I,r,h⟩ hn hd
variable {a b:Expr} {ta tb:TE} {pos:Pos}
def tB (t:TE):TT:=fun σ H Q=>t σ H fun x H1=>∃c,x=.bl c/\Q c H1
theorem B7p {e:Expr} {t:TE} (h:PE X e t) (he:∀whole,isTrue e X.env whole=(do let v <-whole;standAt e.pos;holding [v] (truthy v)):=by intro _;rfl):PT X e (tB t):=by
 intro pins s σ H Q I hw
 refine isTrue_plain (thn (h pins s σ H _ I hw) fun v s1 zz7=>el5 zz7 fun x H1 I1 r1 q1=>?_) (he _)
 obtain⟨d,rfl,q⟩:=q1
 cases r1
 exact wpAny_truthy_bool ⟨H1,I1,q⟩
variable {tA tB':TT} {S7:List Expr}
def C3n (t u:TT):TT:=fun σ H Q=>t σ H fun c H1=>if c=true then u σ H1 Q else Q false H1
def tOr (t u:TT):TT:=fun σ H Q=>t σ H fun c H1=>if c=true then Q true H1 else u σ H1 Q
def C3o (t:TT):TT:=fun σ H Q=>t σ H fun c H1=>Q (!c) H1
theorem A9y (ha:PT X a tA):PW X (.BoolOp .And [a] pos) tA:=by
 intro wh pins s σ H Q I h
 refine isTrue_and (thn (ha pins s σ H Q I h) fun c s1 e=>?_)
 cases c with
 | true=>exact isTrue_and_nil e
 | false=>exact e
theorem B7q (ha:PT X a tA):PW X (.BoolOp .Or [a] pos) tA:=by
 intro wh pins s σ H Q I h
 refine isTrue_or (thn (ha pins s σ H Q I h) fun c s1 e=>?_)
 cases c with
 | false=>exact isTrue_or_nil e
 | true=>exact e
theorem A9z (ha:PT X a tA) (hb:PW X (.BoolOp .And (b::S7) pos) tB'):PW X (.BoolOp .And (a::b::S7) pos) (C3n tA tB'):=by
 intro wh pins s σ H Q I h
 refine isTrue_and (thn (ha pins s σ H _ I h) fun c s1 zz8=>el2 zz8 fun H1 I1 q1=>?_)
 cases c with
 | true=>exact hb wh pins s1 σ H1 Q I1 q1
 | false=>exact⟨H1,I1,q1⟩
theorem B7r (ha:PT X a tA) (hb:PW X (.BoolOp .Or (b::S7) pos) tB'):PW X (.BoolOp .Or (a::b::S7) pos) (tOr tA tB'):=by
 intro wh pins s σ H Q I h
 refine isTrue_or (thn (ha pins s σ H _ I h) fun c s1 zz9=>el2 zz9 fun H1 I1 q1=>?_)
 cases c with
 | true=>exact⟨H1,I1,q1⟩
 | false=>exact hb wh pins s1 σ H1 Q I1 q1
theorem B7s (ha:PT X a tA):PT X (.UnaryOp .Not a pos) (C3o tA):=by
 intro pins s σ H Q I h
 exact isTrue_not (ha pins s σ H (fun c H1=>Q (!c) H1) I h)
def C3p (ta tb:TE):TE:=fun σ H Q=>ta σ H fun x H1=>∃c,x=.bl c/\if c=true then tb σ H1 Q else Q (.bl false) H1
def C3q (ta tb:TE):TE:=fun σ H Q=>ta σ H fun x H1=>∃c,x=.bl c/\if c=true then Q (.bl true) H1 else tb σ H1 Q
def C3r (ta:TE):TE:=fun σ H Q=>ta σ H fun x H1=>∃c,x=.bl c/\Q (.bl (!c)) H1
theorem C3s {op} {t:TE} (h:PE X a t):PE X (.BoolOp op [a] pos) t:=fun pins s σ H Q I hw=>BoolOp_one (h pins s σ H Q I hw)
theorem C3t (ha:PE X a ta) (hb:PE X (.BoolOp .And (b::S7) pos) tb):PE X (.BoolOp .And (a::b::S7) pos) (C3p ta tb):=by
 intro pins s σ H Q I h
 refine BoolOp_and (thn (ha pins s σ H _ I h) fun v s1 zz10=>el5 zz10 fun x H1 I1 r1 q1=>?_)
 obtain⟨c,rfl,q1⟩:=q1
 cases r1
 refine wpAny_truthy_bool ?_
 cases c with
 | true=>exact hb pins s1 σ H1 Q I1 q1
 | false=>exact⟨.bl false,H1,I1,rfl,q1⟩
theorem C3u (ha:PE X a ta) (hb:PE X (.BoolOp .Or (b::S7) pos) tb):PE X (.BoolOp .Or (a::b::S7) pos) (C3q ta tb):=by
 intro pins s σ H Q I h
 refine BoolOp_or (thn (ha pins s σ H _ I h) fun v s1 zz11=>el5 zz11 fun x H1 I1 r1 q1=>?_)
 obtain⟨c,rfl,q1⟩:=q1
 cases r1
 refine wpAny_truthy_bool ?_
 cases c with
 | false=>exact hb pins s1 σ H1 Q I1 q1
 | true=>exact⟨.bl true,H1,I1,rfl,q1⟩
theorem C3v (ha:PE X a ta):PE X (.UnaryOp .Not a pos) (C3r ta):=by
 intro pins s σ H Q I h
 refine UnaryOp_ (thn (ha pins s σ H _ I h) fun v s1 zz12=>el5 zz12 fun x H1 I1 r1 q1=>?_)
 obtain⟨c,rfl,q1⟩:=q1
 cases r1
 exact not_of (wpAny_truthy_bool ⟨.bl (!c),H1,I1,rfl,q1⟩)
def tIf (t:TT) (ta tb:TE):TE:=fun σ H Q=>t σ H fun c H1=>if c=true then ta σ H1 Q else tb σ H1 Q
theorem B7t {c:Expr} (hc:PT X c tA) (ha:PE X a ta) (hb:PE X b tb):PE X (.IfExp c a b pos) (tIf tA ta tb):=by
 intro pins s σ H Q I h
 refine wpAny_IfExp (thn (hc pins s σ H _ I h) fun d s1 zz13=>el2 zz13 fun H1 I1 q1=>?_)
 cases d with
 | true=>exact ha pins s1 σ H1 Q I1 q1
 | false=>exact hb pins s1 σ H1 Q I1 q1
end
def SqL (K:B3) (H:Hp) (a:Addr) (xs:List V):Prop:=
 Rd H a (.lst xs)\/
  ∃(o:Obj) (its:Array Value) (n:Nat),K.lookup a=some o/\o.cls=.type "list" /\o.dict=none/\o.data=.seq its n/\its.size<=sizeLine/\D7 xs its.toList
def SqT (K:B3) (H:Hp) (a:Addr) (xs:List V):Prop:=
 Rd H a (.tup xs)\/
  ∃(o:Obj) (its:Array Value) (n:Nat),K.lookup a=some o/\o.cls=.type "tuple" /\o.data=.seq its n/\its.size<=sizeLine/\D7 xs its.toList
def C3w:Value->Option V
 | .none=>some .non
 | .bool b=>some (.bl b)
 | .int i _=>some (.int i)
 | .str x _=>some (.str x)
 | .bytes b _=>some (.byt b)
 | .float b _=>some (.flt b)
 | .ref a=>some (.ref a)
 | .type n=>some (.ty n)
 | _=>none
theorem G3.abs {x:V} {u:Value} (r:G3 x u):C3w u=some x:=by
 cases x with
 | non=>cases r;rfl
 | bl _=>cases r;rfl
 | int _=>obtain⟨t,rfl⟩:=r;rfl
 | str _=>obtain⟨t,rfl⟩:=r;rfl
 | byt _=>obtain⟨t,rfl⟩:=r;rfl
 | flt _=>obtain⟨t,rfl⟩:=r;rfl
 | ref _=>cases r;rfl
 | ty _=>cases r;rfl
theorem G3.inj {x y:V} {u:Value} (r:G3 x u) (q:G3 y u):x=y:=Option.some.inj (r.abs.symm.trans q.abs)
theorem D7.inj {xs ys:List V} {us:List Value} (h:D7 xs us) (k:D7 ys us):xs=ys:=by
 induction h generalizing ys with
 | nil=>cases k;rfl
 | cons r t ih=>
  cases k with
  | cons r' t'=>rw[r.inj r',ih t']
section
variable {X:Cx} {pins:List (Addr×Obj)} {σ:St} {H:Hp} {s:Shared} {a:Addr} {xs ys:List V}
theorem SqL.of {K:B3} (h:H a=some (.lst xs)):SqL K H a xs:=.inl (.inl h)
theorem SqT.of {K:B3} (h:H a=some (.tup xs)):SqT K H a xs:=.inl (.inl h)
theorem Inv.list (I:Inv X pins σ H s) (h:SqL X.K H a xs):∃its:List Value,D7 xs its/\PlainL s.heap a its.toArray/\xs.length<=sizeLine:=by
 rcases h with h | ⟨o,its,n,hk,hc,hd,hs,hz,r⟩
 ·obtain⟨z,its,n,r,e⟩:=h.ok I.hok
  exact⟨its,r,⟨_,n,e,rfl,rfl,rfl⟩,z⟩
 ·refine⟨its.toList,r,⟨o,n,I.kIn a o hk,hc,hd,by simpa using hs⟩,?_⟩
  have e:=r.length
  simp only[A9p] at e
  lia
theorem Inv.tuple (I:Inv X pins σ H s) (h:SqT X.K H a xs):∃its:List Value,D7 xs its/\IsTup s.heap a its.toArray/\xs.length<=sizeLine:=by
 rcases h with h | ⟨o,its,n,hk,hc,hs,hz,r⟩
 ·obtain⟨z,its,r,p⟩:=h.ok I.hok
  exact⟨its,r,p,z⟩
 ·refine⟨its.toList,r,⟨o,I.kIn a o hk,hc,n,by simpa using hs⟩,?_⟩
  have e:=r.length
  simp only[A9p] at e
  lia
theorem Inv.list_inj (I:Inv X pins σ H s) (h:SqL X.K H a xs) (h':SqL X.K H a ys):xs=ys:=by
 obtain⟨its,r,⟨o,n,e,_,_,d⟩,_⟩:=I.list h
 obtain⟨its',r',⟨o',n',e',_,_,d'⟩,_⟩:=I.list h'
 rw[e] at e';cases e'
 rw[d] at d'
 injection d' with d1 _
 have:its=its':=by simpa using congrArg Array.toList d1
 subst this
 exact r.inj r'
end
abbrev Cx.wish (X:Cx) (E:Value->Shared->Prop):Cx:={ X with xe:=E }
abbrev Cx.nox (X:Cx):Cx:=X.wish fun _ _=>False
theorem Cx.Ok.wish {X:Cx} (ok:X.Ok) (E:Value->Shared->Prop):(X.wish E).Ok:=
 ⟨ok.mod,ok.kind,ok.glob,ok.blt,ok.above,ok.inj,ok.has,ok.cab,ok.hd,ok.frames,ok.stk,ok.exf,ok.bs,ok.bsz,ok.noex,ok.exfs,ok.funs,ok.frf⟩
theorem Cx.Ok.unwish {X:Cx} {E:Value->Shared->Prop} (ok:(X.wish E).Ok):X.Ok:=
 ⟨ok.mod,ok.kind,ok.glob,ok.blt,ok.above,ok.inj,ok.has,ok.cab,ok.hd,ok.frames,ok.stk,ok.exf,ok.bs,ok.bsz,ok.noex,ok.exfs,ok.funs,ok.frf⟩
section
variable {X:Cx} {pins:List (Addr×Obj)} {σ:St} {H:Hp} {s:Shared} {E:Value->Shared->Prop}
theorem Inv.wish (I:Inv X pins σ H s) (E:Value->Shared->Prop):Inv (X.wish E) pins σ H s:=⟨I.ok.wish E,I.os,I.bare,I.base,I.loc,I.cell,I.free,I.freeC,I.pin,I.hok,I.len⟩
theorem Inv.unwish (I:Inv (X.wish E) pins σ H s):Inv X pins σ H s:=⟨I.ok.unwish,I.os,I.bare,I.base,I.loc,I.cell,I.free,I.freeC,I.pin,I.hok,I.len⟩
theorem SP.unwish {D:X3} {f:Flow} {s':Shared} (h:SP (X.wish E) pins D f s'):SP X pins D f s':=by
 cases f with
 | next=>obtain⟨σ',H',I,q⟩:=h;exact⟨σ',H',I.unwish,q⟩
 | brk=>obtain⟨σ',H',I,q⟩:=h;exact⟨σ',H',I.unwish,q⟩
 | cont=>obtain⟨σ',H',I,q⟩:=h;exact⟨σ',H',I.unwish,q⟩
 | ret u=>obtain⟨v,σ',H',I,r,q⟩:=h;exact⟨v,σ',H',I.unwish,r,q⟩
theorem PSs.nox {st:List Stmt} {t:TS} (h:PSs X.nox st t):PSs X st t:=fun pins s σ H D I hw=>
 wpAny_mono (h pins s σ H D (I.wish _) hw) (fun _ _ q=>q.unwish) fun _ _ z=>False.elim z
end
section
variable {X:Cx} {st:Stmt} {S7:List Stmt} {t u:TS} {e:Expr} {te:TE} {pos:Pos}
def C3x:TS:=fun D σ H=>D.nx σ H
def A1o (t u:TS):TS:=fun D σ H=>t { D with nx:=u D } σ H
theorem g5:PSs X [] C3x:=fun _ _ σ H _ I h=>wpAny_execs_nil ⟨σ,H,I,h⟩
theorem E6 (h1:PS X st t) (h2:PSs X S7 u):PSs X (st::S7) (A1o t u):=by
 intro pins s σ H D I h
 refine wpAny_execs_cons (thn (h1 pins s σ H { D with nx:=u D } I h) fun f s1 q=>?_)
 cases f with
 | next=>
  obtain⟨σ',H',I',q⟩:=q
  exact h2 pins s1 σ' H' D I' q
 | ret v=>exact q
 | brk=>exact q
 | cont=>exact q
theorem M2 (h1:PS X st t):PSs X [st] t:=by
 intro pins s σ H D I h
 refine wpAny_execs_cons (thn (h1 pins s σ H D I h) fun f s1 q=>?_)
 cases f with
 | next=>exact wpAny_execs_nil q
 | ret v=>exact q
 | brk=>exact q
 | cont=>exact q
theorem Inv.quiet {pins:List (Addr×Obj)} {σ:St} {H:Hp} {s:Shared} (I:Inv X pins σ H s):interactive X.env=false:=by simp [interactive,I.ok.kind]
def B7u (te:TE):TS:=fun D σ H=>te σ H fun _ H1=>D.nx σ H1
theorem S8 (he:PE X e te) (hs:swapsWith e none pos.line X.env=pure false:=by rfl):PS X (.Expr e pos) (B7u te):=by
 intro pins s σ H D I h
 exact wpAny_Expr_any (thn (he pins s σ H _ I h) fun v s1 zz20=>el5 zz20 fun x H1 I1 r1 q1=>⟨σ,H1,I1,q1⟩) I.quiet hs
def C3y (te:TE):TS:=fun D σ H=>te σ H D.rt
theorem Q3 (he:PE X e te):PS X (.Return (some e) pos) (C3y te):=by
 intro pins s σ H D I h
 exact wpAny_Return_some (thn (he pins s σ H _ I h) fun v s1 zz21=>el5 zz21 fun x H1 I1 r1 q1=>⟨x,σ,H1,I1,r1,q1⟩)
def C3z (c:TT) (t u:TS):TS:=fun D σ H=>c σ H fun b H1=>if b=true then t D σ H1 else u D σ H1
theorem Z8 {c:Expr} {a b:List Stmt} {tc:TT} (hc:PT X c tc) (ha:PSs X a t) (hb:PSs X b u):PS X (.If c a b pos) (C3z tc t u):=by
 intro pins s σ H D I h
 refine wpAny_If (thn (hc pins s σ H _ I h) fun d s1 zz22=>el2 zz22 fun H1 I1 q1=>?_)
 cases d with
 | true=>exact ha pins s1 σ H1 D I1 q1
 | false=>exact hb pins s1 σ H1 D I1 q1
end
abbrev TG:=V->St->Hp->(St->Hp->Prop)->Prop
abbrev TGs:=List V->St->Hp->(St->Hp->Prop)->Prop
def PG (X:Cx) (target:Expr) (t:TG):Prop:=
 ∀(pins:List (Addr×Obj)) (s:Shared) (σ:St) (H:Hp) (v:V) (u:Value) (Q:St->Hp->Prop),Inv X pins σ H s->G3 v u->t v σ H Q->
  wpAny (model X.prog X.w) X.A (assign target X.env u) (fun _ s'=>∃σ' H',Inv X pins σ' H' s'/\Q σ' H') X.xe s
def PGs (X:Cx) (ts:List Expr) (t:TGs):Prop:=
 ∀(pins:List (Addr×Obj)) (s:Shared) (σ:St) (H:Hp) (vs:List V) (us:List Value) (Q:St->Hp->Prop),Inv X pins σ H s->D7 vs us->t vs σ H Q->
  wpAny (model X.prog X.w) X.A (assignInOrder ((assignEach ts X.env).map (·.2)) us) (fun _ s'=>∃σ' H',Inv X pins σ' H' s'/\Q σ' H') X.xe s
abbrev A8o:=V->V->V->Hp->(Hp->Prop)->Prop
def B2v (X:Cx) (t:A8o):Prop:=
 ∀(pins:List (Addr×Obj)) (s:Shared) (σ:St) (H:Hp) (o i v:V) (ov iv u:Value) (Q:Hp->Prop),Inv X pins σ H s->G3 o ov->G3 i iv->G3 v u->t o i v H Q->
  wpAny (model X.prog X.w) X.A (setItem ov iv u) (fun _ s'=>∃H',Inv X pins σ H' s'/\Q H') X.xe s
abbrev TIp:=V->V->Hp->VK->Prop
def PIp (X:Cx) (op:Operator) (t:TIp):Prop:=
 ∀(pins:List (Addr×Obj)) (s:Shared) (σ:St) (H:Hp) (x y:V) (v u:Value) (Q:VK),Inv X pins σ H s->G3 x v->G3 y u->t x y H Q->
  wpAny (model X.prog X.w) X.A (inplaceOp op v u) (EP X pins σ Q) X.xe s
section
variable {X:Cx} {pos:Pos}
def R6 (i:Nat):TG:=fun v σ H Q=>Q (σ.set i (some v)) H
theorem J2 {i:Nat} {x:Str} (hN:X.N.Nodup) (hi:X.N[i]?=some x) (hx:Loc X.env.scope x) (hf:X.fn x=true\/X.env.scope.names.lookup x=some .local:=by first | exact .inl rfl | exact .inr rfl | assumption):PG X (.Name x pos) (R6 i):=by
 intro pins s σ H v u Q I r h
 exact wpAny_assign_Name (A2p I hN hi hx r (fun s' I'=>⟨_,H,I',h⟩) hf)
def A4s:TGs:=fun vs σ H Q=>vs=[]/\Q σ H
def X5 (t:TG) (u:TGs):TGs:=fun vs σ H Q=>∃v r,vs=v::r/\t v σ H fun σ' H'=>u r σ' H' Q
theorem p8:PGs X [] A4s:=by
 intro pins s σ H vs us Q I r h
 obtain⟨e,h⟩:=h
 subst e
 cases r
 exact assignInOrder_nil ⟨σ,H,I,h⟩
theorem N2 {e:Expr} {es:List Expr} {t:TG} {u:TGs} (h1:PG X e t) (h2:PGs X es u)
  (hs:(assignEach (e::es) X.env).map (·.2)=assign e X.env::(assignEach es X.env).map (·.2):=by rfl):PGs X (e::es) (X5 t u):=by
 intro pins s σ H vs us Q I r h
 obtain⟨v,vr,e1,h⟩:=h
 subst e1
 cases r with
 | cons r rr=>
  rw[hs]
  refine assignInOrder_cons (thn (h1 pins s σ H _ _ _ I r h) fun _ s1 zz23=>zz23.elim fun σ1 zz24=>zz24.elim fun H1 zz25=>zz25.elim fun I1 q1=>?_)
  exact h2 pins s1 σ1 H1 _ _ Q I1 rr q1
def A67 (K:B3) (n:Nat) (t:TGs):TG:=fun v σ H Q=>∃a xs,v=.ref a/\SqT K H a xs/\xs.length=n/\t xs σ H Q
theorem A0w {es:List Expr} {k:Nat} {t:TGs} {n:Nat} (hc:X.calm=true) (h:PGs X es t)
  (hn:(assignEach es X.env).length=n:=by rfl) (hst:(assignEach es X.env).findIdx? (·.1)=none:=by rfl):PG X (.Tuple es k pos) (A67 X.K n t):=by
 intro pins s σ H v u Q I r hw
 obtain⟨a,xs,e1,hq,hl,hw⟩:=hw
 subst e1
 cases r
 obtain⟨its,rv,ht,hz⟩:=I.tuple hq
 refine assign_Tuple_tuple (I.ok.hd hc) ht (by simp [hn,<-hl,rv.length]) hst fun h' hx=>?_
 have I1:Inv X pins σ H { s with heap:=h' }:=I.kept (t':=s.toks) fun b o e=>hx b o (M5 (G9 e)) e
 exact h pins _ σ H xs _ Q I1 (by simpa using rv) hw
def B7v (to ti:TE) (t:A8o):TG:=fun v σ H Q=>to σ H fun o H1=>ti σ H1 fun i H2=>t o i v H2 fun H3=>Q σ H3
theorem Z9 {o i:Expr} {to ti:TE} {t:A8o} (ho:PE X o to) (hi:PE X i ti) (hs:B2v X t)
  (ha:∀v,assign (.Subscript o i pos) X.env v=(do
   let ov <-holding [v] (eval o X.env)
   let iv <-holding [v,ov] (eval i X.env)
   standAt pos
   holding [v,ov,iv] (setItem ov iv v)
   release [v,ov,iv] []):=by intro _;rfl):PG X (.Subscript o i pos) (B7v to ti t):=by
 intro pins s σ H v u Q I r h
 rw[ha]
 refine wpAny_bind (wpAny_holding (thn (ho pins s σ H _ I h) fun ov s1 zz26=>el5 zz26 fun x H1 I1 r1 q1=>?_))
 refine wpAny_bind (wpAny_holding (thn (hi pins s1 σ H1 _ I1 q1) fun iv s2 zz27=>el5 zz27 fun y H2 I2 r2 q2=>?_))
 refine wpAny_bind (wpAny_standAt (wpAny_bind (wpAny_holding (thn (hs pins s2 σ H2 x y v ov iv u _ I2 r1 r2 r q2) fun _ s3 zz28=>el2 zz28 fun H3 I3 q3=>?_))))
 exact wpAny_release ⟨σ,H3,I3,q3⟩
def A68 (te:TE) (g:TG):TS:=fun D σ H=>te σ H fun x H1=>g x σ H1 D.nx
theorem T9 {tg e:Expr} {te:TE} {g:TG} (he:PE X e te) (hg:PG X tg g) (hs:swapsWithSole [tg] e pos.line X.env=pure false:=by rfl) (hw:swappedStores [tg] e X.env=pure none:=by rfl)
  (h1:(assignEach [tg] X.env).map (·.2)=[assign tg X.env]:=by rfl):PS X (.Assign [tg] e pos) (A68 te g):=by
 intro pins s σ H D I h
 refine wpAny_Assign_stores (thn (he pins s σ H _ I h) fun v s1 zz29=>el5 zz29 fun x H1 I1 r1 q1=>?_) hs hw
 rw[h1]
 exact thn (hg pins s1 σ H1 x v _ I1 r1 q1) fun _ s2 q=>q
theorem B9 {i:Nat} {x:Str} {e:Expr} {te:TE} {pos':Pos} (hN:X.N.Nodup) (hi:X.N[i]?=some x) (hx:Loc X.env.scope x) (he:PE X e te) (hs:swapsWith e (some (.Name x pos')) pos.line X.env=pure false:=by rfl) (hf:X.fn x=true\/X.env.scope.names.lookup x=some .local:=by first | exact .inl rfl | exact .inr rfl | assumption) :
  PS X (.Assign [.Name x pos'] e pos) (A68 te (R6 i)):=by
 intro pins s σ H D I h
 refine wpAny_Assign_Name (thn (he pins s σ H _ I h) fun v s1 zz30=>el5 zz30 fun y H1 I1 r1 q1=>?_) hs
 exact A2p I1 hN hi hx r1 (fun s2 I2=>⟨_,H1,I2,q1⟩) hf
def B7w (i:Nat) (te:TE) (ti:TIp):TS:=fun D σ H=>∃x,σ[i]?=some (some x)/\te σ H fun y H1=>ti x y H1 fun z H2=>D.nx (σ.set i (some z)) H2
theorem C30 {i:Nat} {x:Str} {e:Expr} {te:TE} {op:Operator} {ti:TIp} {pos':Pos} (hN:X.N.Nodup) (hi:X.N[i]?=some x) (hx:Loc X.env.scope x) (he:PE X e te) (ho:PIp X op ti) (hf:X.fn x=true\/X.env.scope.names.lookup x=some .local:=by first | exact .inl rfl | exact .inr rfl | assumption) :
  PS X (.AugAssign (.Name x pos') op e pos) (B7w i te ti):=by
 intro pins s σ H D I h
 obtain⟨v,e1,h⟩:=h
 obtain⟨m,hn,hl⟩:=I.loc
 have vis:Vis X.env.scope x:=by rcases hx with k | k;exact .inl k;exact .inr (.inl k)
 obtain⟨u,r,l⟩:=hl i x v hi e1 vis
 refine wpAny_AugAssign_Name ?_
 have go:wpAny (model X.prog X.w) X.A (eval e X.env) (fun w s₂=>wpAny (model X.prog X.w) X.A (inplaceOp op u w) (fun r s₃=>wpAny (model X.prog X.w) X.A (storeName X.env x r) (fun _=>SP X pins D .next) X.xe s₃) X.xe s₂) X.xe s:=by
  refine thn (he pins s σ H _ I h) fun w s1 zz32=>el5 zz32 fun y H1 I1 r1 q1=>?_
  refine thn (ho pins s1 σ H1 v y u w _ I1 r r1 q1) fun z s2 zz33=>el5 zz33 fun zv H2 I2 r2 q2=>?_
  exact A2p I2 hN hi hx r2 (fun s3 I3=>⟨_,H2,I3,q2⟩) hf
 rcases l with ⟨hk,hm⟩ | ⟨hk,c,hc,hcell⟩
 ·exact wpAny_loadName_local I.ok.kind hk hn hm go
 ·rcases hk with hk | hk
  ·exact wpAny_loadName_cell I.ok.kind hk hc hcell go
  ·rcases hx with k | k
   ·have:X.env.scope.names.lookup x=some .free:=hk
    rw[k] at this;cases this
   ·have:X.env.scope.names.lookup x=some .free:=hk
    rw[k] at this;cases this
def C31 (to ti te:TE) (tget:V->V->Hp->VK->Prop) (tip:TIp) (tset:A8o):TS:=fun D σ H=>to σ H fun o H1=>ti σ H1 fun i H2=>tget o i H2 fun x H3=>te σ H3 fun y H4=>tip x y H4 fun z H5=>tset o i z H5 fun H6=>D.nx σ H6
def B7x (X:Cx) (t:V->V->Hp->VK->Prop):Prop:=
 ∀(pins:List (Addr×Obj)) (s:Shared) (σ:St) (H:Hp) (o i:V) (ov iv:Value) (Q:VK),Inv X pins σ H s->G3 o ov->G3 i iv->t o i H Q->
  wpAny (model X.prog X.w) X.A (getItem ov iv) (EP X pins σ Q) X.xe s
theorem B7y {o i e:Expr} {to ti te:TE} {tget:V->V->Hp->VK->Prop} {tip:TIp} {tset:A8o} {op:Operator} {tpos:Pos} (ho:PE X o to) (hi:PE X i ti) (hg:B7x X tget) (he:PE X e te) (hp:PIp X op tip) (hs:B2v X tset)
  (ha:∀ov iv new,augStore i ov iv new=(do holding [new,ov,iv] (setItem ov iv new);release [new,ov,iv] [];pure .next):=by intros;rfl):PS X (.AugAssign (.Subscript o i tpos) op e pos) (C31 to ti te tget tip tset):=by
 intro pins s σ H D I h
 refine wpAny_AugAssign_SubscriptAny (thn (ho pins s σ H _ I h) fun ov s1 zz34=>el5 zz34 fun x1 H1 I1 r1 q1=>?_) ha
 refine thn (hi pins s1 σ H1 _ I1 q1) fun iv s2 zz35=>el5 zz35 fun x2 H2 I2 r2 q2=>?_
 refine thn (hg pins s2 σ H2 x1 x2 ov iv _ I2 r1 r2 q2) fun old s3 zz36=>el5 zz36 fun x3 H3 I3 r3 q3=>?_
 refine thn (he pins s3 σ H3 _ I3 q3) fun v s4 zz37=>el5 zz37 fun x4 H4 I4 r4 q4=>?_
 refine thn (hp pins s4 σ H4 x3 x4 old v _ I4 r3 r4 q4) fun new s5 zz38=>el5 zz38 fun x5 H5 I5 r5 q5=>?_
 exact thn (hs pins s5 σ H5 x1 x2 x5 ov iv new _ I5 r1 r2 r5 q5) fun _ s6 zz39=>el2 zz39 fun H6 I6 q6=>⟨σ,H6,I6,q6⟩
def ipI (f:Int->Int->Int):TIp:=fun x y H Q=>∃i j,x=.int i/\y=.int j/\Q (.int (f i j)) H
theorem B7z:PIp X .Add (ipI fun i j=>i + j):=by
 intro pins s σ H x y v u Q I r1 r2 h
 obtain⟨i,j,e1,e2,q⟩:=h
 subst e1;subst e2
 obtain⟨t,rfl⟩:=r1
 obtain⟨t',rfl⟩:=r2
 exact iadd_int ⟨.int _,H,I.tok _,⟨_,rfl⟩,q⟩
theorem C32:PIp X .Sub (ipI fun i j=>i - j):=by
 intro pins s σ H x y v u Q I r1 r2 h
 obtain⟨i,j,e1,e2,q⟩:=h
 subst e1;subst e2
 obtain⟨t,rfl⟩:=r1
 obtain⟨t',rfl⟩:=r2
 exact isub_int ⟨.int _,H,I.tok _,⟨_,rfl⟩,q⟩
def B2w (c:TT) (tb:TS):TS:=fun D σ H=>∃W:Nat->St->Hp->Prop,(∃m,W m σ H)/\∀m σ H,W m σ H->
 c σ H fun b H1=>if b=true then ∃N:St->Hp->Prop,(∀σ' H',N σ' H'->∃m',m' < m/\W m' σ' H')/\tb { D with nx:=N,ct:=N,bk:=D.nx } σ H1 else D.nx σ H1
theorem A8p {c:Expr} {body:List Stmt} {tc:TT} {tb:TS} (hp:PassesOwn (model X.prog X.w) X.A X.env X.xe) (hc:PT X c tc) (hb:PSs X body tb):PS X (.While c body [] pos) (B2w tc tb):=by
 intro pins s σ H D I h
 obtain⟨W,⟨m0,w0⟩,turn⟩:=h
 refine wpAny_While (codeAny_whileLoop (fun n s'=>∃σ' H',Inv X pins σ' H' s'/\W n σ' H') ?_ m0 ⟨σ,H,I,w0⟩)
 rintro n s1 ⟨σ1,H1,I1,w1⟩
 refine wpAny_passesOwn hp (thn (hc pins s1 σ1 H1 _ I1 (turn n σ1 H1 w1)) fun b s2 zz40=>el2 zz40 fun H2 I2 q2=>?_)
 cases b with
 | true=>
  obtain⟨N,hN,q2⟩:=q2
  rw[if_pos rfl]
  refine wpAny_passesOwn hp (thn (hb pins s2 σ1 H2 _ I2 q2) fun f s3 q3=>?_)
  cases f with
  | next=>
   obtain⟨σ3,H3,I3,n3⟩:=q3
   obtain⟨m',hm,w3⟩:=hN σ3 H3 n3
   exact⟨m',hm,σ3,H3,I3,w3⟩
  | cont=>
   obtain⟨σ3,H3,I3,n3⟩:=q3
   obtain⟨m',hm,w3⟩:=hN σ3 H3 n3
   exact⟨m',hm,σ3,H3,I3,w3⟩
  | brk=>exact q3
  | ret v=>exact q3
 | false=>
  rw[if_neg Q8]
  exact wpAny_execs_nil ⟨σ1,H2,I2,q2⟩
end
structure It where
 go:Nat->Hp->Prop
 yld:Nat->Hp->V->Hp->Prop
 stop:Nat->Hp->Prop
def U0 (X:Cx) (pins:List (Addr×Obj)) (H:Hp) (b:Addr):Prop:=
 H b=none/\b≠X.env.locals/\b∉X.fs/\(b∈X.ex\/X.s₀.heap.objs.size<=b)/\(∀x c,X.env.cells.lookup x=some c->c≠b)/\∀p∈X.pn++pins,p.1≠b
theorem Inv.fpOk {X:Cx} {pins:List (Addr×Obj)} {σ:St} {H H':Hp} {s:Shared} {b:Addr} (I:Inv X pins σ H s) (hb:s.heap.objs.size<=b) (hn:H' b=none):U0 X pins H' b:=by
 refine⟨hn,B2c (S1 I.lt hb),I.nofs hb,.inr (m8 I.sz hb),fun x c e z=>?_,fun p hp z=>?_⟩
 ·obtain⟨v,q⟩:=I.cell x c e
  exact absurd (S1 q.lt (by rw[z];exact hb)) (V9 _)
 ·exact absurd (S1 (G9 (I.pin p hp).1) (by rw[z];exact hb)) (V9 _)
structure A1p (P:Program) (w:World) (K:B3) (tg:Expr) (J:It) (fp:List Addr) (it:Addr) (tn:Nat->Heap->Prop):Prop where
 mem:it∈fp
 obj:∀i h,tn i h->∀b∈fp,∃o,h.get? b=some o/\∀v,o.data≠.cell v
 keep:∀i h h',tn i h->(∀b∈fp,∀o,h.get? b=some o->h'.get? b=some o)->tn i h'
 item:∀(X:Cx),X.prog=P->X.w=w->X.K=K->X.calm=true->∀(i:Nat) (pins:List (Addr×Obj)) (s:Shared) (σ:St) (H:Hp) (E:Value->Shared->Prop),Inv X pins σ H s->(∀b∈fp,U0 X pins H b)->tn i s.heap->J.go i H->
  wpAny (model P w) X.A (pyNext (.ref it)) (fun r s1=>∃u,r=some u/\
   wpAny (model P w) X.A (letOwnedTupleGo tg (.ref it) u) (fun _ s2=>∃x H',Inv X pins σ H' s2/\G3 x u/\J.yld i H x H'/\tn (i + 1) s2.heap/\∀b∈fp,H' b=none) E s1) E s
 done:∀(X:Cx),X.prog=P->X.w=w->X.K=K->X.calm=true->∀(i:Nat) (pins:List (Addr×Obj)) (s:Shared) (σ:St) (H:Hp) (E:Value->Shared->Prop),Inv X pins σ H s->(∀b∈fp,U0 X pins H b)->tn i s.heap->J.stop i H->
  wpAny (model P w) X.A (pyNext (.ref it)) (fun r s1=>r=none/\Inv X pins σ H s1) E s
 self:∀(A:Around) (i:Nat) (s:Shared) (Q:Value->Shared->Prop) (E:Value->Shared->Prop),tn i s.heap->Q (.ref it) s->wpAny (model P w) A (pyIter (.ref it)) Q E s
abbrev TI:=St->Hp->(It->Hp->Prop)->Prop
def PIE (X:Cx) (pins:List (Addr×Obj)) (σ:St) (tg:Expr) (R:It->Hp->Prop) (itv:Value) (s2:Shared):Prop:=
 ∃(it:Addr) (fp:List Addr) (tn:Nat->Heap->Prop) (J:It) (H':Hp),itv=.ref it/\Inv X pins σ H' s2/\A1p X.prog X.w X.K tg J fp it tn/\tn 0 s2.heap/\(∀b∈fp,U0 X pins H' b)/\R J H'
def PI (X:Cx) (tg iter:Expr) (wi:TI):Prop:=
 ∀(pins:List (Addr×Obj)) (s:Shared) (σ:St) (H:Hp) (R:It->Hp->Prop),Inv X pins σ H s->wi σ H R->
  wpAny (model X.prog X.w) X.A (eval iter X.env) (fun v s1=>wpAny (model X.prog X.w) X.A (pyIter v) (PIE X pins σ tg R) X.xe s1) X.xe s
theorem B2x {M:Model} {A:Around} {E:Value->Shared->Prop} {s:Shared} {tg:Expr} {it:Addr} {u:Value} {o:Obj} {n:String} {vs:Array Value} {Q:Unit->Shared->Prop} (ho:s.heap.get? it=some o) (hc:o.cls=.type n) (hd:o.data=.fields vs)
  (hn:["enumerate", "zip", "dict_itemiterator", "dict_reverseitemiterator", "odict_iterator", "itertools.zip_longest", "itertools.pairwise"].contains n=false) (hQ:Q () s):wpAny M A (letOwnedTupleGo tg (.ref it) u) Q E s:=by
 unfold letOwnedTupleGo
 cases tg <;> first
  | exact wpAny_pure hQ
  | (cases u <;> first
    | exact wpAny_pure hQ
    | (refine wpAny_bind (wpAny_load ho ?_)
       rw[hc,hd]
       show wpAny M A (if (["enumerate", "zip", "dict_itemiterator", "dict_reverseitemiterator", "odict_iterator", "itertools.zip_longest", "itertools.pairwise"].contains n&&vs[0]? == some (rawInt _))=true then _ else _) Q E s
       rw[if_neg (by intro h;rw[hn,Bool.false_and] at h;cases h)]
       exact wpAny_pure hQ))
def Itl (K:B3) (a:Addr):It:=
 ⟨fun i H=>∃xs x,SqL K H a xs/\xs[i]?=some x,fun i H x H'=>H'=H/\∀xs,SqL K H a xs->xs[i]?=some x,fun i H=>∃xs,SqL K H a xs/\xs.length<=i⟩
def Itr (lo:Int) (n:Nat):It:=⟨fun i _=>i < n,fun i H x H'=>H'=H/\x=.int (lo + i),fun i _=>n<=i⟩
theorem C33 {P:Program} {w:World} {K:B3} {tg:Expr} (a it:Addr):A1p P w K tg (Itl K a) [it] it (fun i h=>h.IsListIter it a i) where
 mem:=by simp
 obj:=fun i h st b hb=>by
  have e:b=it:=by simpa using hb
  subst e
  obtain⟨o,e,c,d⟩:=st
  exact⟨o,e,fun v z=>by rw[d] at z;cases z⟩
 keep:=fun i h h' st k=>st.at fun o e=>k it (by simp) o e
 item:=by
  intro X hP hw hK hc i pins s σ H E I hf st hg
  subst hP hw hK
  obtain⟨xs,x,hq,hx⟩:=hg
  obtain⟨its,rv,p,hz⟩:=I.list hq
  obtain⟨u,hu,ru⟩:=rv.get hx
  obtain⟨f0,f1,f2,f3,f4,f5⟩:=hf it (by simp)
  refine wpAny_pyNext_list_item st p.isList (x:=u) (by simpa using hu) fun h' st' sb=>?_
  have I1:Inv X pins σ H { s with heap:=h' }:=I.turned (t':=s.toks) (fun b o hb e=>(sb.2 b hb).trans e) f0 f1 f3 f4 f5
  obtain⟨o,e,c,d⟩:=id st'
  exact⟨u,rfl,B2x (s:={ s with heap:=h' }) e c d (by decide) ⟨x,H,I1,ru,⟨rfl,fun ys hy=>by rw[I.list_inj hy hq];exact hx⟩,st',fun b hb=>(hf b hb).1⟩⟩
 done:=by
  intro X hP hw hK hc i pins s σ H E I hf st hg
  subst hP hw hK
  obtain⟨xs,hq,hx⟩:=hg
  obtain⟨its,rv,p,hz⟩:=I.list hq
  obtain⟨f0,f1,f2,f3,f4,f5⟩:=hf it (by simp)
  have hl:=rv.length
  exact wpAny_pyNext_list_end (I.ok.hd hc) st p.isList (by simp;lia) fun h' eb=>⟨rfl,I.turned (t':=s.toks) (fun b o hb e=>eb b o hb e) f0 f1 f3 f4 f5⟩
 self:=fun _ _ _ _ _ st h=>wpAny_pyIter_listiter st h
theorem C34 {P:Program} {w:World} {K:B3} {tg:Expr} (it:Addr) (lo:Int) (n:Nat):A1p P w K tg (Itr lo n) [it] it (fun i h=>IsRangeIter h it (lo + (i:Nat) * 1) ((n:Int) - (i:Nat)) 1) where
 mem:=by simp
 obj:=fun i h st b hb=>by
  have e:b=it:=by simpa using hb
  subst e
  exact⟨_,st,fun v z=>by
   have z':Data.fields _=Data.cell v:=z
   cases z'⟩
 keep:=fun i h h' st k=>k it (by simp) _ st
 item:=by
  intro X hP hw hK hc i pins s σ H E I hf st hg
  subst hP hw hK
  obtain⟨f0,f1,f2,f3,f4,f5⟩:=hf it (by simp)
  have W:=Walks.range (prog:=X.prog) (w:=X.w) (I.ok.hd hc) it lo 1 n
  refine W.item i s _ _ hg st fun v h' tk hv st' kk=>?_
  obtain⟨t,rfl⟩:=hv
  have I1:Inv X pins σ H { s with heap:=h',toks:=tk }:=I.turned (fun b o hb e=>kk b o (by simpa using hb) e) f0 f1 f3 f4 f5
  refine⟨_,rfl,B2x (s:={ s with heap:=h',toks:=tk }) (n:= "range_iterator") st' rfl rfl (by decide) ⟨.int (lo + i),H,I1,⟨t,?_⟩,⟨rfl,rfl⟩,st',fun b hb=>(hf b hb).1⟩⟩
  rw[Int.mul_one]
 done:=by
  intro X hP hw hK hc i pins s σ H E I hf st hg
  subst hP hw hK
  obtain⟨f0,f1,f2,f3,f4,f5⟩:=hf it (by simp)
  exact wpAny_pyNext_range_end (I.ok.hd hc) st (by have:n<=i:=hg;lia) fun h' eb=>⟨rfl,I.turned (t':=s.toks) (fun b o hb e=>eb b o hb e) f0 f1 f3 f4 f5⟩
 self:=fun _ _ _ _ _ st h=>wpAny_pyIter_rangeiter st h
section
variable {X:Cx} {tg:Expr}
def C35 (K:B3) (tl:TE):TI:=fun σ H R=>tl σ H fun x H1=>∃a,x=.ref a/\(∃xs,SqL K H1 a xs)/\R (Itl K a) H1
theorem A1q {l:Expr} {tl:TE} (hl:PE X l tl):PI X tg l (C35 X.K tl):=by
 intro pins s σ H R I h
 refine thn (hl pins s σ H _ I h) fun v s1 zz41=>el5 zz41 fun x H1 I1 r1 q1=>?_
 obtain⟨a,e,⟨xs,hq⟩,q⟩:=q1
 subst e
 cases r1
 obtain⟨its,rv,p,hz⟩:=I1.list hq
 refine wpAny_pyIter_list p.isList ?_
 refine⟨s1.heap.objs.size,[s1.heap.objs.size],_,_,H1,rfl,I1.kept (t':=s1.toks) fun b o e=>P6 _ e,C33 a _,⟨_,X2 _ rfl,rfl,rfl⟩,fun b hb=>?_,q⟩
 have e:b=s1.heap.objs.size:=by simpa using hb
 subst e
 exact I1.fpOk (F3 _) (I1.hok.fresh (F3 _))
theorem C36 {pins:List (Addr×Obj)} {σ:St} {H:Hp} {s:Shared} {R:It->Hp->Prop} {E:Value->Shared->Prop} {lo hi:Int} {t u v:Tok} {tk:Nat} (I:Inv X pins σ H s) (h1:-(2 ^ 62)<=lo) (h2:lo < 2 ^ 62) (h3:-(2 ^ 62)<=hi) (h4:hi < 2 ^ 62)
  (q:R (Itr lo (hi - lo).toNat) H):wpAny (model X.prog X.w) X.A (pyIter (.ref s.heap.objs.size)) (PIE X pins σ tg R) E { s with heap:=s.heap.push { cls:=.type "range",data:=.fields #[.int lo t,.int hi u,.int 1 v] },toks:=tk }:=by
 refine wpAny_pyIter_range (IsRange.new ..) (small_one h1 h2 h3 h4) ?_
 have I1:Inv X pins σ H { s with heap:=s.heap.push { cls:=.type "range",data:=.fields #[.int lo t,.int hi u,.int 1 v] },toks:=tk }:=I.kept fun b o e=>P6 _ e
 refine⟨(s.heap.push { cls:=.type "range",data:=.fields #[.int lo t,.int hi u,.int 1 v] }).objs.size,[(s.heap.push { cls:=.type "range",data:=.fields #[.int lo t,.int hi u,.int 1 v] }).objs.size],_,_,H,rfl,
  I1.kept (t':=tk) fun b o e=>P6 _ e,C34 _ lo (hi - lo).toNat,?_,fun b hb=>?_,q⟩
 ·have e1:lo + ((0:Nat):Int) * 1=lo:=by simp
  have e2:(((hi - lo).toNat:Nat):Int) - ((0:Nat):Int)=Builtin.Range.rangeSize lo hi 1:=by rw[rangeSize_one];split <;> lia
  show IsRangeIter _ _ (lo + ((0:Nat):Int) * 1) ((((hi - lo).toNat:Nat):Int) - ((0:Nat):Int)) 1
  rw[e1,e2]
  exact X2 _ rfl
 ·have e:b=(s.heap.push { cls:=.type "range",data:=.fields #[.int lo t,.int hi u,.int 1 v] }).objs.size:=by simpa using hb
  subst e
  exact I1.fpOk (F3 _) (I1.hok.fresh (F3 _))
def B70 (ta:TA):TI:=fun σ H R=>ta σ H fun vs H1=>∃j:Int,vs=[.int j]/\-(2 ^ 62)<=j/\j < 2 ^ 62/\R (Itr 0 j.toNat) H1
theorem p9 {a:Expr} {ta:TA} {p pos:Pos} (hg:Gl X "range") (hm:X.mg "range" = none) (ha:PA X [a] ta) (hs:starEach [a] X.env=[(false,eval a X.env)]:=by rfl):PI X tg (.Call (.Name "range" p) [a] [] pos) (B70 ta):=by
 intro pins s σ H R I h
 refine Call_ (A1n I hg hm boot_range (PyProof.Rows.callWith_type1 (thn (ha pos pins s σ H _ I h) fun us s1 zz43=>el5 zz43 fun vs H1 I1 r1 q1=>?_) hs rfl))
 obtain⟨j,e,q1,q2,q⟩:=q1
 subst e
 cases r1 with
 | cons r rr=>
  cases rr
  obtain⟨t,rfl⟩:=r
  exact call_range_1 (C36 I1 (by lia) (by lia) q1 q2 (by simpa using q))
def B2y (wi:TI) (g:TG) (tb:TS):TS:=fun D σ H=>wi σ H fun J H1=>∃W:Nat->Nat->St->Hp->Prop,(∃m,W 0 m σ H1)/\∀i m σ H,W i m σ H->
 (J.stop i H/\D.nx σ H)\/(J.go i H/\∃N:St->Hp->Prop,(∀σ' H',N σ' H'->∃m',m' < m/\W (i + 1) m' σ' H')/\∀x H',J.yld i H x H'->g x σ H' fun σ2 H2=>tb { D with nx:=N,ct:=N,bk:=D.nx } σ2 H2)
def A4t (fp:List Addr) (h:Heap):List (Addr×Obj):=fp.filterMap fun b=>(h.get? b).map fun o=>(b,o)
theorem A2r {fp:List Addr} {h:Heap} {b:Addr} {o:Obj} (hb:b∈fp) (e:h.get? b=some o):(b,o)∈A4t fp h:=List.mem_filterMap.mpr ⟨b,hb,by rw[e];rfl⟩
theorem C37 {fp:List Addr} {h:Heap} {p:Addr×Obj} (hp:p∈A4t fp h):p.1∈fp/\h.get? p.1=some p.2:=by
 obtain⟨b,hb,e⟩:=List.mem_filterMap.mp hp
 cases q:h.get? b with
 | none=>rw[q] at e;cases e
 | some o=>
  rw[q] at e
  have e':(b,o)=p:=Option.some.inj e
  subst e'
  exact⟨hb,q⟩
theorem Inv.pinned {pins:List (Addr×Obj)} {σ:St} {H:Hp} {s:Shared} {fp:List Addr} (I:Inv X pins σ H s) (hf:∀b∈fp,U0 X pins H b) (ho:∀b∈fp,∃o,s.heap.get? b=some o/\∀v,o.data≠.cell v):Inv X (pins++A4t fp s.heap) σ H s:=
 I.pins_of fun p hp=>(O9.mp hp).elim (fun z=>I.pin p (S3 _ z)) fun z=>by
  obtain⟨hb,e⟩:=C37 z
  obtain⟨f0,f1,f2,_⟩:=hf p.1 hb
  obtain⟨o,e',d⟩:=ho p.1 hb
  rw[e] at e';cases e'
  exact⟨e,f0,f1,f2,d⟩
theorem Inv.unpinned {pins pl:List (Addr×Obj)} {σ:St} {H:Hp} {s:Shared} (I:Inv X (pins++pl) σ H s):Inv X pins σ H s:=I.pins_of fun p hp=>I.pin p (S3 _ (A8c _ hp))
theorem Q4 {iter:Expr} {body:List Stmt} {wi:TI} {g:TG} {tb:TS} {pos:Pos} (hp:PassesOwn (model X.prog X.w) X.A X.env X.xe) (hc:X.calm=true) (hi:PI X tg iter wi) (hg:PG X tg g) (hb:PSs X body tb)
  (hs:∀x,foldedSetIterable iter X.env x=pure x:=by intro _;rfl):PS X (.For tg iter body [] pos) (B2y wi g tb):=by
 intro pins s σ H D I h
 refine wpAny_For (thn (hi pins s σ H _ I h) fun v s1 h1=>thn h1 fun itv s2 h2=>?_) hs
 obtain⟨it,fp,tn,J,H2,e,I2,T,st2,f2,W,⟨m0,w0⟩,turn⟩:=h2
 subst e
 have stat:∀{H':Hp},(∀b∈fp,H' b=none)->∀b∈fp,U0 X pins H' b:=fun hn b hb=>⟨hn b hb,(f2 b hb).2⟩
 refine codeAny_forLoop_any (fun n s'=>∃i σ' H',Inv X pins σ' H' s'/\tn i s'.heap/\(∀b∈fp,H' b=none)/\W i n σ' H') ?_ m0 ⟨0,σ,H2,I2,st2,fun b hb=>(f2 b hb).1,w0⟩
 rintro n s3 ⟨i,σ3,H3,I3,st3,fr3,w3⟩
 rcases turn i n σ3 H3 w3 with ⟨stop,qn⟩ | ⟨go,N,hN,step⟩
 ·refine wpAny_passesOwn hp (thn (T.done X rfl rfl rfl hc i pins s3 σ3 H3 X.xe I3 (stat fr3) st3 stop) fun r s4 zz45=>zz45.elim fun hr I4=>?_)
  subst hr
  exact wpAny_execs_nil ⟨σ3,H3,I4,qn⟩
 ·refine wpAny_passesOwn hp (thn (T.item X rfl rfl rfl hc i pins s3 σ3 H3 X.xe I3 (stat fr3) st3 go) fun r s4 zz46=>el2 zz46 fun u hr h4=>?_)
  subst hr
  refine wpAny_passesOwn hp (thn h4 fun _ s5 zz47=>zz47.elim fun x zz48=>zz48.elim fun H5 zz49=>zz49.elim fun I5 zz50=>zz50.elim fun r5 zz51=>zz51.elim fun y5 zz52=>zz52.elim fun st5 fr5=>?_)
  have I5':=I5.pinned (stat fr5) (T.obj _ _ st5)
  refine wpAny_passesOwn hp (thn (hg _ s5 σ3 H5 x u _ I5' r5 (step x H5 y5)) fun _ s6 zz53=>zz53.elim fun σ6 zz54=>zz54.elim fun H6 zz55=>zz55.elim fun I6 q6=>?_)
  refine wpAny_passesOwn hp (thn (hb _ s6 σ6 H6 _ I6 q6) fun f s7 q7=>?_)
  have again:∀{σ7:St} {H7:Hp},Inv X (pins++A4t fp s5.heap) σ7 H7 s7->N σ7 H7->∃m,m < n/\∃i σ' H',Inv X pins σ' H' s7/\tn i s7.heap/\(∀b∈fp,H' b=none)/\W i m σ' H':=fun {σ7 H7} I7 n7=>by
   obtain⟨m',hm,w7⟩:=hN σ7 H7 n7
   refine⟨m',hm,i + 1,σ7,H7,I7.unpinned,T.keep _ _ _ st5 fun b hb o e=>(I7.pin (b,o) (S3 _ (S3 _ (A2r hb e)))).1,fun b hb=>?_,w7⟩
   obtain⟨o,e,d⟩:=T.obj _ _ st5 b hb
   exact (I7.pin (b,o) (S3 _ (S3 _ (A2r hb e)))).2.1
  cases f with
  | next=>obtain⟨σ7,H7,I7,n7⟩:=q7;exact again I7 n7
  | cont=>obtain⟨σ7,H7,I7,n7⟩:=q7;exact again I7 n7
  | brk=>obtain⟨σ7,H7,I7,q7⟩:=q7;exact⟨σ7,H7,I7.unpinned,q7⟩
  | ret v=>obtain⟨x7,σ7,H7,I7,r7,q7⟩:=q7;exact⟨x7,σ7,H7,I7.unpinned,r7,q7⟩
end
theorem C38 {K:B3} {a:Addr} {xs:List V} {g:TG} {tb:TS} {D:X3} {σ:St} {H:Hp} (Pv:Nat->St->Hp->Prop) (h0:Pv 0 σ H) (hl:∀i σ H,i<=xs.length->Pv i σ H->SqL K H a xs)
  (hs:∀i x σ H,xs[i]?=some x->Pv i σ H->g x σ H fun σ2 H2=>tb { D with nx:=Pv (i + 1),ct:=Pv (i + 1),bk:=D.nx } σ2 H2) (hd:∀σ H,Pv xs.length σ H->D.nx σ H) :
  ∃W:Nat->Nat->St->Hp->Prop,(∃m,W 0 m σ H)/\∀i m σ H,W i m σ H->
   ((Itl K a).stop i H/\D.nx σ H)\/((Itl K a).go i H/\∃N:St->Hp->Prop,(∀σ' H',N σ' H'->∃m',m' < m/\W (i + 1) m' σ' H')/\∀x H',(Itl K a).yld i H x H'->g x σ H' fun σ2 H2=>tb { D with nx:=N,ct:=N,bk:=D.nx } σ2 H2):=by
 refine⟨fun i m σ H=>m=xs.length - i/\i<=xs.length/\Pv i σ H,⟨xs.length,by simp,M6 _,h0⟩,?_⟩
 rintro i m σ H ⟨rfl,hi,p⟩
 have q:=hl i σ H hi p
 by_cases hlt:i < xs.length
 ·refine .inr ⟨⟨xs,xs[i],q,by simp [hlt]⟩,Pv (i + 1),fun σ' H' p'=>⟨xs.length - (i + 1),by lia,rfl,hlt,p'⟩,fun x H' y=>?_⟩
  obtain⟨e,y⟩:=y
  subst e
  exact hs i x σ _ (y xs q) p
 ·have e:i=xs.length:=by lia
  subst e
  exact .inl ⟨⟨xs,q,F3 _⟩,hd σ H p⟩
theorem B71 {lo:Int} {n:Nat} {g:TG} {tb:TS} {D:X3} {σ:St} {H:Hp} (Pv:Nat->St->Hp->Prop) (h0:Pv 0 σ H)
  (hs:∀i σ H,i < n->Pv i σ H->g (.int (lo + i)) σ H fun σ2 H2=>tb { D with nx:=Pv (i + 1),ct:=Pv (i + 1),bk:=D.nx } σ2 H2) (hd:∀σ H,Pv n σ H->D.nx σ H) :
  ∃W:Nat->Nat->St->Hp->Prop,(∃m,W 0 m σ H)/\∀i m σ H,W i m σ H->
   ((Itr lo n).stop i H/\D.nx σ H)\/((Itr lo n).go i H/\∃N:St->Hp->Prop,(∀σ' H',N σ' H'->∃m',m' < m/\W (i + 1) m' σ' H')/\∀x H',(Itr lo n).yld i H x H'->g x σ H' fun σ2 H2=>tb { D with nx:=N,ct:=N,bk:=D.nx } σ2 H2):=by
 refine⟨fun i m σ H=>m=n - i/\i<=n/\Pv i σ H,⟨n,by simp,M6 _,h0⟩,?_⟩
 rintro i m σ H ⟨rfl,hi,p⟩
 by_cases hlt:i < n
 ·refine .inr ⟨hlt,Pv (i + 1),fun σ' H' p'=>⟨n - (i + 1),by lia,rfl,hlt,p'⟩,fun x H' y=>?_⟩
  obtain⟨e,y⟩:=y
  subst e y
  exact hs i σ _ hlt p
 ·have e:i=n:=by lia
  subst e
  exact .inl ⟨F3 _,hd σ H p⟩
theorem C39 {c:TT} {tb:TS} {D:X3} {σ:St} {H:Hp} (Pv:St->Hp->Prop) (μ:St->Hp->Nat) (h0:Pv σ H)
  (hs:∀σ H,Pv σ H->c σ H fun b H1=>if b=true then tb { D with nx:=fun σ' H'=>Pv σ' H'/\μ σ' H' < μ σ H,ct:=fun σ' H'=>Pv σ' H'/\μ σ' H' < μ σ H,bk:=D.nx } σ H1 else D.nx σ H1)
  (mono:∀σ H Q Q',(∀b H1,Q b H1->Q' b H1)->c σ H Q->c σ H Q'):B2w c tb D σ H:=by
 refine⟨fun m σ H=>m=μ σ H/\Pv σ H,⟨_,rfl,h0⟩,?_⟩
 rintro m σ H ⟨rfl,p⟩
 refine mono σ H _ _ (fun b H1 q=>?_) (hs σ H p)
 cases b with
 | true=>exact⟨_,fun σ' H' zz56=>zz56.elim fun p' l=>⟨_,l,rfl,p'⟩,q⟩
 | false=>exact q
abbrev R2:=V->V->Hp->VK->Prop
def OpR (X:Cx) (f:Value->Value->Sem Value) (r:R2):Prop:=
 ∀(pins:List (Addr×Obj)) (s:Shared) (σ:St) (H:Hp) (x y:V) (v u:Value) (Q:VK),Inv X pins σ H s->G3 x v->G3 y u->r x y H Q->
  wpAny (model X.prog X.w) X.A (f v u) (EP X pins σ Q) X.xe s
def UnR (X:Cx) (f:Value->Sem Value) (r:V->Hp->VK->Prop):Prop:=
 ∀(pins:List (Addr×Obj)) (s:Shared) (σ:St) (H:Hp) (x:V) (v:Value) (Q:VK),Inv X pins σ H s->G3 x v->r x H Q->
  wpAny (model X.prog X.w) X.A (f v) (EP X pins σ Q) X.xe s
def r8 (X:Cx) (f:Value) (r:List V->Hp->VK->Prop):Prop:=
 ∀(pins:List (Addr×Obj)) (s:Shared) (σ:St) (H:Hp) (xs:List V) (us:List Value) (Q:VK),Inv X pins σ H s->D7 xs us->r xs H Q->
  wpAny (model X.prog X.w) X.A (call f us) (EP X pins σ Q) X.xe s
def tOp (r:R2) (ta tb:TE):TE:=fun σ H Q=>ta σ H fun x H1=>tb σ H1 fun y H2=>r x y H2 Q
def tUn (r:V->Hp->VK->Prop) (ta:TE):TE:=fun σ H Q=>ta σ H fun x H1=>r x H1 Q
def rI (C:Int->Int->Prop) (g:Int->Int->V):R2:=fun x y H Q=>∃i j,x=.int i/\y=.int j/\C i j/\Q (g i j) H
def rI0 (g:Int->Int->V):R2:=fun x y H Q=>∃i j,x=.int i/\y=.int j/\Q (g i j) H
def rU (g:Int->V):V->Hp->VK->Prop:=fun x H Q=>∃i,x=.int i/\Q (g i) H
section
variable {X:Cx} {a b c:Expr} {ta tb tc:TE} {pos:Pos}
theorem B2z (ha:PE X a ta) (hb:PE X b tb) {pins:List (Addr×Obj)} {s:Shared} {σ:St} {H:Hp} {R:V->V->Hp->Prop} (I:Inv X pins σ H s)
  (h:ta σ H fun x H1=>tb σ H1 fun y H2=>R x y H2) {Q:Value->Shared->Prop} {f:Value->Value->Sem Value}
  (hf:∀v u s2 x y H2,Inv X pins σ H2 s2->G3 x v->G3 y u->R x y H2->wpAny (model X.prog X.w) X.A (f v u) Q X.xe s2) :
  wpAny (model X.prog X.w) X.A (eval a X.env) (fun v s₁=>wpAny (model X.prog X.w) X.A (eval b X.env) (fun u s₂=>wpAny (model X.prog X.w) X.A (f v u) Q X.xe s₂) X.xe s₁) X.xe s:=by
 refine thn (ha pins s σ H _ I h) fun v s1 zz57=>el5 zz57 fun x H1 I1 r1 q1=>?_
 refine thn (hb pins s1 σ H1 _ I1 q1) fun u s2 zz58=>el5 zz58 fun y H2 I2 r2 q2=>?_
 exact hf v u s2 x y H2 I2 r1 r2 q2
theorem N8 {op:Operator} {r:R2} (ho:OpR X (binaryOp op) r) (ha:PE X a ta) (hb:PE X b tb):PE X (.BinOp a op b pos) (tOp r ta tb):=by
 intro pins s σ H Q I h
 exact wpAny_BinOp (B2z ha hb I h fun v u s2 x y H2 I2 rx ry q=>ho pins s2 σ H2 x y v u Q I2 rx ry q)
theorem B72 {op:UnaryOp} {r:V->Hp->VK->Prop} (ho:UnR X (unaryOp op) r) (ha:PE X a ta):PE X (.UnaryOp op a pos) (tUn r ta):=by
 intro pins s σ H Q I h
 exact UnaryOp_ (thn (ha pins s σ H _ I h) fun v s1 zz59=>el5 zz59 fun x H1 I1 r1 q1=>ho pins s1 σ H1 x v Q I1 r1 q1)
theorem opI {f:Value->Value->Sem Value} {C:Int->Int->Prop} {g:Int->Int->Int}
  (rule:∀(i j:Int) (t u:Tok) (s:Shared) (Q:Value->Shared->Prop) (E:Value->Shared->Prop),C i j->Q (.int (g i j) s.toks) { s with toks:=s.toks + 1 }->wpAny (model X.prog X.w) X.A (f (.int i t) (.int j u)) Q E s) :
  OpR X f (rI C fun i j=>.int (g i j)):=by
 intro pins s σ H x y v u Q I rx ry h
 obtain⟨i,j,rfl,rfl,hc,q⟩:=h
 obtain⟨t,rfl⟩:=rx
 obtain⟨t',rfl⟩:=ry
 exact rule i j t t' s _ _ hc ⟨.int (g i j),H,I.tok _,⟨_,rfl⟩,q⟩
theorem A90 {f:Value->Value->Sem Value} {g:Int->Int->Int}
  (rule:∀(i j:Int) (t u:Tok) (s:Shared) (Q:Value->Shared->Prop) (E:Value->Shared->Prop),Q (.int (g i j) s.toks) { s with toks:=s.toks + 1 }->wpAny (model X.prog X.w) X.A (f (.int i t) (.int j u)) Q E s) :
  OpR X f (rI0 fun i j=>.int (g i j)):=by
 intro pins s σ H x y v u Q I rx ry h
 obtain⟨i,j,rfl,rfl,q⟩:=h
 obtain⟨t,rfl⟩:=rx
 obtain⟨t',rfl⟩:=ry
 exact rule i j t t' s _ _ ⟨.int (g i j),H,I.tok _,⟨_,rfl⟩,q⟩
theorem A91 {f:Value->Value->Sem Value} {g:Int->Int->Bool}
  (rule:∀(i j:Int) (t u:Tok) (s:Shared) (Q:Value->Shared->Prop) (E:Value->Shared->Prop),Q (.bool (g i j)) s->wpAny (model X.prog X.w) X.A (f (.int i t) (.int j u)) Q E s) :
  OpR X f (rI0 fun i j=>.bl (g i j)):=by
 intro pins s σ H x y v u Q I rx ry h
 obtain⟨i,j,rfl,rfl,q⟩:=h
 obtain⟨t,rfl⟩:=rx
 obtain⟨t',rfl⟩:=ry
 exact rule i j t t' s _ _ ⟨.bl (g i j),H,I,rfl,q⟩
def A69 (i j:Int):Prop:=0<=j/\j<=1000000/\i.natAbs < 2 ^ 64
def A7a (i j:Int):Prop:=(-(2 ^ 64) < i/\i < 2 ^ 64)\/(-(2 ^ 64) < j/\j < 2 ^ 64)
theorem A7a.ok {i j:Int} (h:A7a i j):IntMulOk i j:=by
 rcases h with ⟨h1,h2⟩ | ⟨h1,h2⟩
 ·exact .of_left (intBits_le_64 h1 h2)
 ·exact .of_right (intBits_le_64 h1 h2)
theorem L3:OpR X (binaryOp .Add) (rI0 fun i j=>.int (i + j)):=A90 fun _ _ _ _ _ _ _ q=>add_int q
theorem A1r:OpR X (binaryOp .Sub) (rI0 fun i j=>.int (i - j)):=A90 fun _ _ _ _ _ _ _ q=>sub_int q
theorem g6:OpR X (binaryOp .Mult) (rI A7a fun i j=>.int (i * j)):=opI fun _ _ _ _ _ _ _ hc q=>mul_int q hc.ok
theorem u8:OpR X (binaryOp .Mod) (rI (fun _ j=>0 < j) fun i j=>.int (i % j)):=opI fun i j _ _ _ _ _ hc q=>by
 have h1:(0:Int) < j:=hc
 exact mod_int' (by lia) (by rw[Int.fmod_eq_emod_of_nonneg i (by lia)];exact q)
theorem v5:OpR X (binaryOp .Pow) (rI A69 fun i j=>.int (i ^ j.toNat)):=opI fun _ _ _ _ _ _ _ hc q=>pow_int_small hc.1 hc.2.1 hc.2.2 q
theorem B20:OpR X (binaryOp .LShift) (rI A69 fun i j=>.int (i * 2 ^ j.toNat)):=opI fun _ _ _ _ _ _ _ hc q=>lshift_int_small hc.1 hc.2.1 hc.2.2 q
theorem A7b:OpR X (binaryOp .BitAnd) (rI0 fun i j=>.int (Builtin.bitAnd i j)):=A90 fun _ _ _ _ _ _ _ q=>and_int q
theorem A92:OpR X (binaryOp .BitOr) (rI0 fun i j=>.int (Builtin.bitOr i j)):=A90 fun _ _ _ _ _ _ _ q=>or_int q
theorem unI {f:Value->Sem Value} {g:Int->Int}
  (rule:∀(i:Int) (t:Tok) (s:Shared) (Q:Value->Shared->Prop) (E:Value->Shared->Prop),Q (.int (g i) s.toks) { s with toks:=s.toks + 1 }->wpAny (model X.prog X.w) X.A (f (.int i t)) Q E s) :
  UnR X f (rU fun i=>.int (g i)):=by
 intro pins s σ H x v Q I rx h
 obtain⟨i,rfl,q⟩:=h
 obtain⟨t,rfl⟩:=rx
 exact rule i t s _ _ ⟨.int (g i),H,I.tok _,⟨_,rfl⟩,q⟩
theorem B73:UnR X (unaryOp .USub) (rU fun i=>.int (-i)):=unI fun _ _ _ _ _ q=>neg_int q
end
def C4a:V->V->Bool
 | .non,.non=>true | .non,.int _=>true | .int _,.non=>true | .non,.bl _=>true | .bl _,.non=>true | .non,.str _=>true | .str _,.non=>true
 | .int _,.int _=>true | .bl _,.bl _=>true | .str _,.str _=>true | .byt _,.byt _=>true
 | .int _,.str _=>true | .str _,.int _=>true | .bl _,.str _=>true | .str _,.bl _=>true
 | _,_=>false
def rEq:R2:=fun x y H Q=>C4a x y=true/\Q (.bl (decide (x=y))) H
theorem C4b {i j:Int}:decide (V.int i=V.int j)=(i == j):=by
 rw[B2d]
 simp
theorem C4c {i j:Bool}:decide (V.bl i=V.bl j)=(i == j):=by
 rw[B2d]
 simp
theorem C4d {i j:Str}:decide (V.str i=V.str j)=(i == j):=by
 rw[B2d]
 simp
theorem C4e {i j:Array UInt8}:decide (V.byt i=V.byt j)=(i.toList == j.toList):=by
 rw[B2d]
 cases i
 cases j
 simp
section
variable {X:Cx} {a b c:Expr} {ta tb tc:TE} {pos:Pos}
theorem W0 {pins:List (Addr×Obj)} {σ:St} {H:Hp} {s:Shared} {Q:VK} {k k':Bool} (I:Inv X pins σ H s) (q:Q (.bl k) H) (e:k=k'):EP X pins σ Q (.bool k') s:=by
 subst e
 exact⟨.bl k,H,I,rfl,q⟩
theorem B21:OpR X (compareOp .Eq) rEq:=by
 intro pins s σ H x y v u Q I rx ry h
 obtain⟨hs,q⟩:=h
 cases x with
 | non=>
  cases rx
  cases y with
  | non=>cases ry;exact PySem.EqNone.eq_none_none (W0 I q (by simp))
  | bl j=>cases ry;exact PySem.EqNone.eq_none_bool (W0 I q (by simp))
  | int j=>obtain⟨t',rfl⟩:=ry;exact PySem.EqNone.eq_none_int (W0 I q (by simp))
  | str j=>obtain⟨t',rfl⟩:=ry;exact PySem.EqNone.eq_none_str (W0 I q (by simp))
  | _=>exact absurd (show false=true from hs) Q8
 | bl i=>
  cases rx
  cases y with
  | non=>cases ry;exact PySem.EqNone.eq_bool_none (W0 I q (by simp))
  | bl j=>cases ry;exact eq_bool (W0 I q C4c)
  | str j=>obtain⟨t',rfl⟩:=ry;exact PySem.EqMixed.eq_bool_str (W0 I q (by simp))
  | _=>exact absurd (show false=true from hs) Q8
 | int i=>
  obtain⟨t,rfl⟩:=rx
  cases y with
  | non=>cases ry;exact PySem.EqNone.eq_int_none (W0 I q (by simp))
  | int j=>obtain⟨t',rfl⟩:=ry;exact eq_int (W0 I q C4b)
  | str j=>obtain⟨t',rfl⟩:=ry;exact PySem.EqMixed.eq_int_str (W0 I q (by simp))
  | _=>exact absurd (show false=true from hs) Q8
 | str i=>
  obtain⟨t,rfl⟩:=rx
  cases y with
  | non=>cases ry;exact PySem.EqNone.eq_str_none (W0 I q (by simp))
  | bl j=>cases ry;exact PySem.EqMixed.eq_str_bool (W0 I q (by simp))
  | int j=>obtain⟨t',rfl⟩:=ry;exact PySem.EqMixed.eq_str_int (W0 I q (by simp))
  | str j=>obtain⟨t',rfl⟩:=ry;exact eq_str (W0 I q C4d)
  | _=>exact absurd (show false=true from hs) Q8
 | byt i=>
  obtain⟨t,rfl⟩:=rx
  cases y with
  | byt j=>obtain⟨t',rfl⟩:=ry;exact PySem.W.eq_bytes (W0 I q C4e)
  | _=>exact absurd (show false=true from hs) Q8
 | _=>cases y <;> exact absurd (show false=true from hs) Q8
theorem X6:OpR X (compareOp .Lt) (rI0 fun i j=>.bl (decide (i < j))):=A91 fun _ _ _ _ _ _ _ q=>lt_int q
theorem A4u:OpR X (compareOp .LtE) (rI0 fun i j=>.bl (decide (i<=j))):=A91 fun _ _ _ _ _ _ _ q=>le_int q
theorem v7:OpR X (compareOp .Gt) (rI0 fun i j=>.bl (decide (j < i))):=A91 fun _ _ _ _ _ _ _ q=>gt_int q
theorem B22:OpR X (compareOp .GtE) (rI0 fun i j=>.bl (decide (j<=i))):=A91 fun _ _ _ _ _ _ _ q=>ge_int q
theorem U8:OpR X (compareOp .Is) (fun x y H Q=>y=.non/\Q (.bl (decide (x=.non))) H):=by
 intro pins s σ H x y v u Q I rx ry h
 obtain⟨rfl,q⟩:=h
 cases ry
 refine is_none_gen (W0 I q ?_)
 cases x <;> first
  | (cases rx;rfl)
  | (obtain⟨t,rfl⟩:=rx;rfl)
theorem A0x:OpR X (compareOp .IsNot) (fun x y H Q=>y=.non/\Q (.bl (!decide (x=.non))) H):=by
 intro pins s σ H x y v u Q I rx ry h
 obtain⟨rfl,q⟩:=h
 cases ry
 refine isnot_none_gen (W0 I q ?_)
 cases x <;> first
  | (cases rx;rfl)
  | (obtain⟨t,rfl⟩:=rx;rfl)
theorem C9 (b:Expr) {op:CmpOp} (h:op≠.In:=by decide) (h2:op≠.NotIn:=by decide):behindInMarks op b=false:=by
 have e1:(op == CmpOp.In)=false:=by cases op <;> first | rfl | exact absurd rfl h
 have e2:(op == CmpOp.NotIn)=false:=by cases op <;> first | rfl | exact absurd rfl h2
 cases b <;> simp [behindInMarks,e1,e2]
theorem C4f {op:CmpOp} {r:R2} (ho:OpR X (compareOp op) r) (ha:PE X a ta) (hb:PE X b tb) (hm:behindInMarks op b=false):PE X (.Compare a [op] [b] pos) (tOp r ta tb):=by
 intro pins s σ H Q I h
 exact wpAny_Compare1 (B2z ha hb I h fun v u s2 x y H2 I2 rx ry q=>ho pins s2 σ H2 x y v u Q I2 rx ry q) hm
def B74 (t:TE):TT:=fun σ H Q=>t σ H fun x H'=>∃k,x=.bl k/\Q k H'
theorem U1 {op:CmpOp} {r:R2} (ho:OpR X (compareOp op) r) (ha:PE X a ta) (hb:PE X b tb) (hm:behindInMarks op b=false):PT X (.Compare a [op] [b] pos) (B74 (tOp r ta tb)):=by
 intro pins s σ H Q I h
 refine wpAny_isTrue_Compare1 (thn (ha pins s σ H _ I h) fun v s1 zz60=>el5 zz60 fun x H1 I1 r1 q1=>thn (hb pins s1 σ H1 _ I1 q1) fun u s2 zz61=>el5 zz61 fun y H2 I2 r2 q2=>
  thn (ho pins s2 σ H2 x y v u _ I2 r1 r2 q2) fun c s3 zz62=>zz62.elim fun z zz63=>zz63.elim fun H3 zz64=>zz64.elim fun I3 zz65=>zz65.elim fun r3 zz66=>zz66.elim fun k zz67=>zz67.elim fun e q3=>?_) hm
 subst e
 cases r3
 exact wpAny_truthy_bool ⟨H3,I3,q3⟩
def B23 (r r':R2) (ta tb tc:TE):TE:=fun σ H Q=>ta σ H fun x H1=>tb σ H1 fun y H2=>r x y H2 fun z H3=>∃k,z=.bl k/\
 (if k=true then tc σ H3 fun w' H4=>r' y w' H4 Q else Q (.bl false) H3)
theorem C4g {op op':CmpOp} {r r':R2} (ho:OpR X (compareOp op) r) (ho':OpR X (compareOp op') r') (ha:PE X a ta) (hb:PE X b tb) (hc:PE X c tc)
  (hm:lastMarks [op,op'] [b,c]=false:=by with_unfolding_all rfl):PE X (.Compare a [op,op'] [b,c] pos) (B23 r r' ta tb tc):=by
 intro pins s σ H Q I h
 refine Compare_chain (thn (ha pins s σ H _ I h) fun v s1 zz68=>el5 zz68 fun x H1 I1 r1 q1=>chain_link (thn (hb pins s1 σ H1 _ I1 q1) fun u s2 zz69=>el5 zz69 fun y H2 I2 r2 q2=>
  thn (ho pins s2 σ H2 x y v u _ I2 r1 r2 q2) fun d s3 zz70=>zz70.elim fun z zz71=>zz71.elim fun H3 zz72=>zz72.elim fun I3 zz73=>zz73.elim fun r3 zz74=>zz74.elim fun k zz75=>zz75.elim fun e q3=>?_)) hm
 subst e
 cases r3
 refine wpAny_truthy_bool ?_
 cases k with
 | false=>exact ite_ff ⟨.bl false,H3,I3,rfl,q3⟩
 | true=>exact ite_tt (chain_last (thn (hc pins s3 σ H3 _ I3 q3) fun w' s4 zz76=>el5 zz76 fun z' H4 I4 r4 q4=>ho' pins s4 σ H4 y z' u w' Q I4 r2 r4 q4))
theorem C4h {op op':CmpOp} {r r':R2} (ho:OpR X (compareOp op) r) (ho':OpR X (compareOp op') r') (ha:PE X a ta) (hb:PE X b tb) (hc:PE X c tc)
  (hm:lastMarks [op,op'] [b,c]=false:=by with_unfolding_all rfl):PT X (.Compare a [op,op'] [b,c] pos) (B74 (B23 r r' ta tb tc)):=by
 intro pins s σ H Q I h
 refine isTrue_chain (thn (ha pins s σ H _ I h) fun v s1 zz77=>el5 zz77 fun x H1 I1 r1 q1=>test_link (thn (hb pins s1 σ H1 _ I1 q1) fun u s2 zz78=>el5 zz78 fun y H2 I2 r2 q2=>
  thn (ho pins s2 σ H2 x y v u _ I2 r1 r2 q2) fun d s3 zz79=>zz79.elim fun z zz80=>zz80.elim fun H3 zz81=>zz81.elim fun I3 zz82=>zz82.elim fun r3 zz83=>zz83.elim fun k zz84=>zz84.elim fun e q3=>?_)) hm
 subst e
 cases r3
 refine wpAny_truthy_bool ?_
 cases k with
 | false=>
  obtain⟨k',e',q'⟩:=q3
  cases e'
  exact ite_ff ⟨H3,I3,q'⟩
 | true=>
  refine ite_tt (test_last (thn (hc pins s3 σ H3 _ I3 q3) fun w' s4 zz85=>el5 zz85 fun z' H4 I4 r4 q4=>thn (ho' pins s4 σ H4 y z' u w' _ I4 r2 r4 q4) fun d' s5 zz86=>zz86.elim fun z2 zz87=>zz87.elim fun H5 zz88=>zz88.elim fun I5 zz89=>zz89.elim fun r5 zz90=>zz90.elim fun k2 zz91=>zz91.elim fun e2 q5=>?_))
  subst e2
  cases r5
  exact wpAny_truthy_bool ⟨H5,I5,q5⟩
theorem A7c:(sizeLine:Nat) < 2 ^ 63:=by rw[sizeLine_eq];decide
theorem v8 {x:V} {us:List Value} (r:D7 [x] us):∃u,us=[u]/\G3 x u:=by
 cases r with
 | cons r1 r2=>cases r2;exact⟨_,rfl,r1⟩
theorem B24 {x y:V} {us:List Value} (r:D7 [x,y] us):∃u w',us=[u,w']/\G3 x u/\G3 y w':=by
 cases r with
 | cons r1 r2=>
  cases r2 with
  | cons r3 r4=>cases r4;exact⟨_,_,rfl,r1,r3⟩
theorem C4i:r8 X (.builtin "abs") (fun xs H Q=>∃i,xs=[.int i]/\Q (.int (if i < 0 then -i else i)) H):=by
 intro pins s σ H xs us Q I r h
 obtain⟨i,rfl,q⟩:=h
 obtain⟨u,rfl,t,rfl⟩:=v8 r
 exact call_abs_int fun u tk=>⟨.int (if i < 0 then -i else i),H,I.tok _,⟨_,rfl⟩,q⟩
theorem B25 (hc:X.calm=true):r8 X (.builtin "max") (fun xs H Q=>∃i j,xs=[.int i,.int j]/\Q (.int (if j > i then j else i)) H):=by
 intro pins s σ H xs us Q I r h
 obtain⟨i,j,rfl,q⟩:=h
 obtain⟨u,w',rfl,⟨t,rfl⟩,⟨t',rfl⟩⟩:=B24 r
 refine max_two_ints (I.ok.hd hc) fun h' tk k=>⟨_,H,I.kept k,?_,q⟩
 by_cases hj:j > i
 ·rw[if_pos hj,if_pos hj];exact⟨_,rfl⟩
 ·rw[if_neg hj,if_neg hj];exact⟨_,rfl⟩
theorem g7 (hc:X.calm=true):r8 X (.builtin "min") (fun xs H Q=>∃i j,xs=[.int i,.int j]/\Q (.int (if j < i then j else i)) H):=by
 intro pins s σ H xs us Q I r h
 obtain⟨i,j,rfl,q⟩:=h
 obtain⟨u,w',rfl,⟨t,rfl⟩,⟨t',rfl⟩⟩:=B24 r
 refine min_two_ints (I.ok.hd hc) fun h' tk k=>⟨_,H,I.kept k,?_,q⟩
 by_cases hj:j < i
 ·rw[if_pos hj,if_pos hj];exact⟨_,rfl⟩
 ·rw[if_neg hj,if_neg hj];exact⟨_,rfl⟩
theorem B26:r8 X (.type "int") (fun xs H Q=>(∃i,xs=[.int i]/\Q (.int i) H)\/∃k,xs=[.bl k]/\Q (.int (if k then 1 else 0)) H):=by
 intro pins s σ H xs us Q I r h
 rcases h with ⟨i,rfl,q⟩ | ⟨k,rfl,q⟩
 ·obtain⟨u,rfl,t,rfl⟩:=v8 r
  exact call_int_int ⟨.int i,H,I,⟨_,rfl⟩,q⟩
 ·obtain⟨u,rfl,r1⟩:=v8 r
  cases r1
  exact call_int_bool ⟨.int (if k then 1 else 0),H,I.tok _,⟨_,rfl⟩,q⟩
end
structure B27 (h:Heap) (x dx C:Addr) (mA:Str->Option Value):Prop where
 obj:h.get? x=some (PySem.W.instObj C dx)
 ns:h.Ns1 dx mA
 ne:dx≠x
theorem C4j {h:Heap} {dx:Addr} {mA:Str->Option Value} (n:h.Ns1 dx mA):∃od,h.get? dx=some od/\∀name,PySem.W.lookIn name od=some (mA name):=by
 obtain⟨o,es,ep,ho,hd,hk,_,hm⟩:=n
 refine⟨o,ho,fun name=>?_⟩
 have e:=hm name
 unfold nsFind findBy at e
 rw[<-Array.find?_toList] at e
 unfold PySem.W.lookIn
 rw[hd]
 dsimp only
 split
 ·rename_i y q
  rw[q] at e
  exact congrArg some e
 ·rename_i q
  rw[q] at e
  have a:es.toList.any (·.refKey)=false:=by
   rw[List.any_eq_false]
   intro y hy
   obtain⟨z,t,hkey⟩:=hk y (Array.mem_toList_iff.mp hy)
   simp [DictEntry.refKey,hkey]
  have a':¬ es.toList.any (·.refKey)=true:=by rw[a];exact Q8
  rw[if_neg a']
  exact congrArg some e
theorem B27.look {h:Heap} {x dx C:Addr} {mA:Str->Option Value} (I:B27 h x dx C mA):∃od,PySem.W.InstAt h x (PySem.W.instObj C dx) C (some od)/\∀name,PySem.W.lookIn name od=some (mA name):=
 let ⟨od,ho,hl⟩:=C4j I.ns
 ⟨od,⟨I.obj,rfl,rfl,ho⟩,hl⟩
section
variable {prog:Program} {w:World} {A:Around} {E:Value->Shared->Prop} {s:Shared} {K:B3} {x dx C f:Addr} {mA:Str->Option Value} {name:Str} {v:Value}
end
section
variable {P:Program} {w:World} {H H':Hp} {h h':Heap} {a C dx:Addr} {fs fs':List (Str×V)}
theorem C4k (hok:HOk P w H h) (e:H a=some (.ins C dx fs)):∃mA,B27 h a dx C mA/\(∀f,B2t (fs.lookup f) (mA f))/\PySem.Within mA (fs.map (·.1))/\fs.length<=1000/\H dx=some (.own a):=by
 obtain⟨d,z,ne,ob,mA,n,r,q⟩:=(show S6 P w H h a (.ins C dx fs) from hok a _ e)
 exact⟨mA,⟨ob,n,ne⟩,r,q,z,d⟩
end
structure Cls (K:B3) (C:Addr):Prop where
 pg:PySem.W.plainGet K C Str.empty=true
 hd:PySem.W.hasDictIn K C=true
 po:PySem.W.plainOver K C=true
 sa:PySem.W.findIn K (.ref C) "__setattr__" = some (some (.builtin "object.__setattr__"))
theorem Cls.get {K:B3} {C:Addr} (c:Cls K C) (f:Str):PySem.W.plainGet K C f=true:=c.pg
section
variable {X:Cx} {pins:List (Addr×Obj)} {σ:St} {H:Hp} {s:Shared} {a C dx:Addr} {fs:List (Str×V)} {f:Str} {v:V} {A:Around} {E:Value->Shared->Prop}
end
section
variable {X:Cx} {o e value:Expr} {f:Str} {pos pos' tpos:Pos} {ta tv:TE}
end
section
variable {X:Cx} {pins:List (Addr×Obj)} {σ:St} {H:Hp} {s:Shared} {A:Around} {E:Value->Shared->Prop} {Q:Value->Shared->Prop} {c:Value} {b:Bool}
inductive g8 (K:B3) (H:Hp):V->Value->Prop where
 | non:g8 K H .non (.type "NoneType")
 | bl (x:Bool):g8 K H (.bl x) (.type "bool")
 | int (i:Int):g8 K H (.int i) (.type "int")
 | str (x:Str):g8 K H (.str x) (.type "str")
 | flt (x:UInt64):g8 K H (.flt x) (.type "float")
 | lst {a:Addr} {xs:List V} (e:H a=some (.lst xs)):g8 K H (.ref a) (.type "list")
 | frz {a:Addr} {o:Obj} {xs:List V} (e:H a=some (.frz o (.lst xs))):g8 K H (.ref a) (.type "list")
 | tup {a:Addr} {xs:List V} (e:H a=some (.tup xs)):g8 K H (.ref a) (.type "tuple")
 | dK {a:Addr} {kvs:List (Key×V)} (e:H a=some (.dK kvs)):g8 K H (.ref a) (.type "dict")
 | dT {a:Addr} {kvs:List (List Key×V)} (e:H a=some (.dT kvs)):g8 K H (.ref a) (.type "dict")
 | ins {a C dx:Addr} {fs:List (Str×V)} (e:H a=some (.ins C dx fs)) (cl:Cls K C) (ha:PySem.W.findIn K (.ref C) "__class__" = some (some (.builtin "object.__class__")))
   (hn:PySem.W.specialIn K (.builtin "object.__class__") "__get__" = some (some (.builtin "getset_descriptor.__get__"))) (htk:PySem.W.takesIn K (.builtin "object.__class__")=some true)
   (hm:PySem.W.mroIn K C (.type "object")=some true):g8 K H (.ref a) (.ref C)
theorem C4l {x:V} {u t:Value} (I:Inv X pins σ H s) (rx:G3 x u) (ty:g8 X.K H x t) (e:A6y X.K t c=some b) (h:∀tk,Q (.bool b) { s with toks:=tk }) :
  wpAny (model X.prog X.w) A (call (.builtin "isinstance") [u,c]) Q E s:=by
 cases ty with
 | non=>cases (show u=Value.none from rx);exact A0r PySem.W.kitx_none I.kIn True.intro e (fun z=>nomatch z) h
 | bl y=>cases (show u=Value.bool y from rx);exact A0r PySem.W.kitx_bool I.kIn True.intro e (fun z=>nomatch z) h
 | int i=>obtain⟨t,q⟩:=(show ∃t,u=Value.int i t from rx);cases q;exact A0r PySem.W.kitx_int I.kIn True.intro e (fun z=>nomatch z) h
 | str y=>obtain⟨t,q⟩:=(show ∃t,u=Value.str y t from rx);cases q;exact A0r PySem.W.kitx_str I.kIn True.intro e (fun z=>nomatch z) h
 | flt y=>obtain⟨t,q⟩:=(show ∃t,u=Value.float y t from rx);cases q;exact A0r PySem.W.kitx_float I.kIn True.intro e (fun z=>nomatch z) h
 | @lst a xs ea=>
  cases (show u=Value.ref a from rx)
  obtain⟨_,_,n,_,h1⟩:=(show S6 X.prog X.w H s.heap a (.lst xs) from I.hok a _ ea)
  exact A0r PySem.W.kitx_list I.kIn ⟨_,h1,rfl⟩ e (fun z=>nomatch z) h
 | @frz a ob xs ea=>
  cases (show u=Value.ref a from rx)
  obtain⟨_,_,_,n,_,h1⟩:=(show S6 X.prog X.w H s.heap a (.frz ob (.lst xs)) from I.hok a _ ea)
  exact A0r PySem.W.kitx_list I.kIn ⟨_,h1,rfl⟩ e (fun z=>nomatch z) h
 | @tup a xs ea=>
  cases (show u=Value.ref a from rx)
  obtain⟨_,_,_,p⟩:=(show S6 X.prog X.w H s.heap a (.tup xs) from I.hok a _ ea)
  obtain⟨o,h1,h2,_⟩:=p
  exact A0r PySem.W.kitx_tuple I.kIn ⟨o,h1,h2⟩ e (fun z=>nomatch z) h
 | @dK a kvs ea=>
  cases (show u=Value.ref a from rx)
  obtain⟨_,_,vs,_,p⟩:=(show S6 X.prog X.w H s.heap a (.dK kvs) from I.hok a _ ea)
  obtain⟨o,es,ep,h1,h2,_⟩:=p
  exact A0r PySem.W.kitx_dict I.kIn ⟨o,h1,h2.1⟩ e (fun z=>nomatch z) h
 | @dT a kvs ea=>
  cases (show u=Value.ref a from rx)
  obtain⟨_,_,xs,_,o,es,ep,h1,h2,_⟩:=(show S6 X.prog X.w H s.heap a (.dT kvs) from I.hok a _ ea)
  exact A0r PySem.W.kitx_dict I.kIn ⟨o,h1,h2.1⟩ e (fun z=>nomatch z) h
 | @ins a C dx fs ea cl ha hn htk hm=>
  cases (show u=Value.ref a from rx)
  obtain⟨mA,O,_⟩:=C4k I.hok ea
  obtain⟨od,J,_⟩:=O.look
  exact A0r (PySem.W.kitx_own (cl.get _) cl.hd ha hn htk hm) I.kIn J e (fun z=>nomatch z) h
end
structure U2 (k:Nat) (A:Around):Prop where
 hd:A.handled=none
 dp:A.depth + 3 * k + 5 < recursionLimit
 un:A.units + 16 * k + 200 < cLine
 gd:A.guards=some []
theorem U2.mono {j k:Nat} {A:Around} (r:U2 k A) (h:j<=k):U2 j A:=⟨r.hd,by have:=r.dp;lia,by have:=r.un;lia,r.gd⟩
theorem U2.deeper {k:Nat} {A:Around} (r:U2 (k + 1) A) (env:Env):U2 k (A.deeper env):=
 ⟨r.hd,by have:=r.dp;show A.depth + 1 + 3 * k + 5 < _;lia,by have:=r.un;show A.units + 3 + 16 * k + 200 < _;lia,r.gd⟩
theorem U2.depth {k:Nat} {A:Around} (r:U2 k A):A.depth < recursionLimit:=by have:=r.dp;lia
theorem U2.units {k:Nat} {A:Around} (r:U2 k A):A.units + 64 < cLine:=by have:=r.un;lia
def g9:TA:=fun _ H Q=>Q [] H
def X7 (ta:TE) (tr:TA):TA:=fun σ H Q=>ta σ H fun x H1=>tr σ H1 fun xs H2=>Q (x::xs) H2
section
variable {X:Cx} {e:Expr} {es:List Expr} {te:TE} {t:TA} {pos:Pos}
theorem B8:PA X [] g9:=fun _ _ _ _ H Q I h=>Calls.spliced_nil ⟨[],H,I,.nil,h⟩
theorem A4 (ha:PE X e te) (hr:PA X es t) (hs:starEach (e::es) X.env=(false,eval e X.env)::starEach es X.env:=by rfl):PA X (e::es) (X7 te t):=by
 intro pos pins s σ H Q I h
 rw[hs]
 show wpAny _ _ (spliced ((false,eval e X.env)::backTo pos (starEach es X.env))) _ _ s
 refine Calls.spliced_cons (thn (ha pins s σ H _ I h) fun u s1 zz173=>el5 zz173 fun x H1 I1 r1 q1=>?_)
 exact thn (hr pos pins s1 σ H1 _ I1 q1) fun us s2 zz174=>el5 zz174 fun xs H2 I2 r2 q2=>⟨x::xs,H2,I2,.cons r1 r2,q2⟩
def C4m (t:TA):TE:=fun σ H Q=>t σ H fun xs H1=>xs.length<=sizeLine/\∀p,H1 p=none->Q (.ref p) (upd H1 p (.tup xs))
def C4n (t:TA):TE:=fun σ H Q=>t σ H fun xs H1=>xs.length<=sizeLine/\∀p,H1 p=none->Q (.ref p) (upd H1 p (.lst xs))
theorem l7 {x1} (h:PA X es t):PE X (.Tuple es x1 pos) (C4m t):=by
 intro pins s σ H Q I hq
 refine wpAny_Tuple_spliced (thn (h pos pins s σ H _ I hq) fun us s1 zz175=>zz175.elim fun xs zz176=>zz176.elim fun H1 zz177=>zz177.elim fun I1 zz178=>zz178.elim fun r zz179=>zz179.elim fun z q=>⟨by rw[<-r.length];exact z,?_⟩)
 have hf:H1 s1.heap.objs.size=none:=I1.hok.fresh (F3 _)
 refine⟨.ref s1.heap.objs.size,upd H1 s1.heap.objs.size (.tup xs),I1.laid (t':=s1.toks) (fun b u e=>P6 _ e) (F3 _) ?_,rfl,q _ hf⟩
 exact⟨z,us,r,⟨_,X2 _ rfl,rfl,_,rfl⟩⟩
theorem A93 (h:PA X es t):PE X (.List es pos) (C4n t):=by
 intro pins s σ H Q I hq
 refine wpAny_List_spliced (thn (h pos pins s σ H _ I hq) fun us s1 zz180=>zz180.elim fun xs zz181=>zz181.elim fun H1 zz182=>zz182.elim fun I1 zz183=>zz183.elim fun r zz184=>zz184.elim fun z q=>⟨by rw[<-r.length];exact z,?_⟩)
 have hf:H1 s1.heap.objs.size=none:=I1.hok.fresh (F3 _)
 refine⟨.ref s1.heap.objs.size,upd H1 s1.heap.objs.size (.lst xs),I1.laid (t':=s1.toks) (fun b u e=>P6 _ e) (F3 _) ?_,rfl,q _ hf⟩
 exact⟨z,us,0,r,X2 _ rfl⟩
end
abbrev Sp:=List V->Hp->VK->XK->Prop
abbrev CXT:=List Env->Hp->Shared->XK->Value->Shared->Prop
structure A94 (P:Program) (w:World) (K:B3) (mg:Str->Option Value) (base:Heap) (A:Around) (outer:List Env) (s:Shared) (H:Hp):Prop where
 frames:A.frames=some outer
 mod:Mod K mg base
 bs:∀b o,base.get? b=some o->s.heap.get? b=some o/\H b=none
 bsz:base.objs.size<=s.heap.objs.size
 funs:s.heap.FunFrames base outer
 frf:∀b∈frs outer,H b=none
 hok:HOk P w H s.heap
 bare:AllBare s.gens
def CE (outer:List Env) (P:Program) (w:World) (H:Hp) (s:Shared) (Q:VK) (u:Value) (s':Shared):Prop:=
 ∃v H',s'.os=s.os/\AllBare s'.gens/\Un (frs outer) [] H H' s.heap s'.heap/\HOk P w H' s'.heap/\G3 v u/\Q v H'
def CR (CX:CXT) (outer:List Env) (P:Program) (w:World) (H:Hp) (s:Shared) (Q:VK) (E:XK) (r:Result) (s':Shared):Prop:=
 match r with
 | .ok (.ret u)=>CE outer P w H s Q u s'
 | .ok _=>False
 | .error e=>CX outer H s E e s'
structure D0 (P:Program) (w:World) (K:B3) (mg:Str->Option Value) (base:Heap) (CX:CXT) (k:Nat) (f:Addr) (fd:FuncData) (ps:List Str) (sp:Sp):Prop where
 len:∀vs H Q E,sp vs H Q E->vs.length=ps.length
 run:∀(A:Around) (outer:List Env) (s:Shared) (H:Hp) (args:Args) (us:List Value) (vs:List V) (Q:VK) (E:XK),U2 k A->A94 P w K mg base A outer s H->BindsTo s fd args (ps.zip us)->D7 vs us->sp vs H Q E->
  codeAny (model P w) A (.call (.ref f) args) (CR CX outer P w H s Q E) s
theorem D0.imp {P:Program} {w:World} {K:B3} {mg:Str->Option Value} {base:Heap} {CX:CXT} {k:Nat} {f:Addr} {fd:FuncData} {ps:List Str} {sp sp':Sp} (F:D0 P w K mg base CX k f fd ps sp)
  (h:∀vs H Q E,sp' vs H Q E->sp vs H Q E):D0 P w K mg base CX k f fd ps sp':=
 ⟨fun vs H Q E q=>F.len vs H Q E (h _ _ _ _ q),fun A outer s H args us vs Q E hr he hb hv hs=>F.run A outer s H args us vs Q E hr he hb hv (h _ _ _ _ hs)⟩
section
variable {X:Cx} {pins:List (Addr×Obj)} {σ:St} {H:Hp} {s s':Shared}
theorem Inv.env0 (I:Inv X pins σ H s):A94 X.prog X.w X.K X.mg X.base X.A X.stack s H:=
 ⟨I.ok.frames,I.ok.mod,I.bs,m8 I.ok.bsz I.sz,I.stack,I.stkFree,I.hok,I.bare⟩
theorem Inv.after {Q:VK} {u:Value} (I:Inv X pins σ H s) (h:CE X.stack X.prog X.w H s Q u s'):EP X pins σ Q u s':=by
 obtain⟨v,H',os,bare,un,hok,r,q⟩:=h
 obtain⟨hh,g,d,t,os'⟩:=s'
 obtain rfl:os'=s.os:=os
 exact⟨v,H',I.call (h':=hh) (g':=g) (d':=d) (t':=t) (ch:=[]) un hok bare (fun b z=>absurd z (by simp)),r,q⟩
end
def B75 (sp:Sp) (dvs:List V) (E:XK) (t:TA):TE:=fun σ H Q=>t σ H fun vs H1=>sp (vs++dvs) H1 Q E
def A7d (K:B3) (fd:FuncData) (ps:List Str) (ds:List Value):Prop:=
 ∀(s:Shared) (us:List Value),K.In s.heap->(us++ds).length=ps.length->BindsTo s fd ⟨us,[]⟩ (ps.zip (us++ds))
theorem A7d.all {K:B3} {fd:FuncData} {ps:List Str} (h:∀us:List Value,us.length=ps.length->bindArgs fd ⟨us,[]⟩=pure (ps.zip us)):A7d K fd ps []:=fun s us _ hl=>by
 rw[n6] at hl ⊢
 exact .of_eq (h us hl)
def B28 (CX:CXT) (X:Cx) (E:XK):Prop:=∀(pins:List (Addr×Obj)) (σ:St) (H:Hp) (s:Shared) (e:Value) (s':Shared),Inv X pins σ H s->CX X.stack H s E e s'->X.xe e s'
section
variable {X:Cx} {CX:CXT} {k:Nat} {f C:Addr} {fd:FuncData} {ps:List Str} {sp:Sp} {dvs:List V} {ds:List Value} {E:XK} {x m:Str} {p pos apos:Pos} {e o:Expr} {es:List Expr} {ta:TE} {t:TA}
theorem C4o {pins:List (Addr×Obj)} {σ:St} {H:Hp} {s:Shared} {Q:VK} {us:List Value} {vs:List V} (F:D0 X.prog X.w X.K X.mg X.base CX k f fd ps sp) (hr:U2 k X.A) (hb:A7d X.K fd ps ds) (hd:D7 dvs ds) (hx:B28 CX X E)
  (I:Inv X pins σ H s) (r:D7 vs us) (h:sp (vs++dvs) H Q E):wpAny (model X.prog X.w) X.A (call (.ref f) us) (EP X pins σ Q) X.xe s:=by
 have r2:D7 (vs++dvs) (us++ds):=r.append hd
 have hl:(us++ds).length=ps.length:=by rw[<-r2.length];exact F.len _ _ _ _ h
 refine wpAny_call (codeAny_mono (F.run X.A X.stack s H ⟨us,[]⟩ (us++ds) (vs++dvs) Q E hr I.env0 (hb s us I.kIn hl) r2 h) fun r s' hq=>?_)
 cases r with
 | error e=>exact hx pins σ H s e s' I hq
 | ok fl=>
  cases fl with
  | ret u=>exact I.after hq
  | next=>exact False.elim hq
  | brk=>exact False.elim hq
  | cont=>exact False.elim hq
theorem B4 (F:D0 X.prog X.w X.K X.mg X.base CX k f fd ps sp) (hr:U2 k X.A) (hg:Gl X x) (hm:X.mg x=some (.ref f)) (hk:B64 X.K (.ref f)=true) (hb:A7d X.K fd ps ds) (hd:D7 dvs ds) (hx:B28 CX X E)
  (ha:PA X (e::es) t) (hdb:(x == ("__debug__" : Str))=false:=by decide) (he:starEach (e::es) X.env=(false,eval e X.env)::starEach es X.env:=by rfl) (hpl:(backTo pos (starEach es X.env)).any (·.1)=false:=by rfl) :
  PE X (.Call (.Name x p) (e::es) [] pos) (B75 sp dvs E t):=by
 intro pins s σ H Q I h
 refine wpAny_Call_Name_kw (B7o I hg hm ?_ hdb)
 refine PySem.W.callWith_K (h₀:=X.base) I.ok.mod.kin hk (thn (ha pos pins s σ H _ I h) fun us s1 zz185=>el5 zz185 fun vs H1 I1 r q=>⟨I1.kIn,?_⟩) he hpl
 exact C4o F hr hb hd hx I1 r q
end
section
variable {X:Cx} {CX:CXT} {k:Nat} {f C:Addr} {fd:FuncData} {ps ks:List Str} {sp:Sp} {E:XK} {x m:Str} {p pos apos kpos:Pos} {e o:Expr} {es:List Expr} {kws:List Keyword} {te ta:TE} {t tk:TA} {nm:Option Str}
variable {g:List Value->List Value->List Value} {gV:List V->List V->List V}
end
structure E1 (N P:List Str) (sc:Scope):Prop where
 kind:sc.kind=.function
 co:sc.isCoroutine=false
 gen:sc.isGenerator=false
 nd:N.Nodup
 pre:N.take P.length=P
 par:∀x∈P,sc.names.lookup x=some .local\/sc.names.lookup x=some .cell
 nofree:∀y∈sc.names,y.2≠.free
theorem B76 {kindOf:Str->Option NameKind} {x:Str}:∀{binds:List (Str×Value)} {m:Str->Option Value},(∀v,(x,v)∉binds)->bindL kindOf binds m x=m x
 | [],_,_=>rfl
 | (n,v)::r,m,h=>by
  unfold bindL
  rw[B76 fun w hw=>h w (B6 _ hw)]
  split
  ·have:x≠n:=by rintro rfl;exact h v C0
   simp [this]
  ·rfl
theorem B77 {kindOf:Str->Option NameKind} {x:Str}:∀{binds:List (Str×Value)} {m:Str->Option Value},(∀v,(x,v)∉binds)->bindC kindOf binds m x=m x
 | [],_,_=>rfl
 | (n,v)::r,m,h=>by
  unfold bindC
  rw[B77 fun w hw=>h w (B6 _ hw)]
  split
  ·rfl
  ·have:x≠n:=by rintro rfl;exact h v C0
   simp [this]
theorem B78 {kindOf:Str->Option NameKind} {x:Str} {v:Value}:∀{P:List Str} {vs:List Value} {i:Nat} {m:Str->Option Value},P.Nodup->P[i]?=some x->vs[i]?=some v->kindOf x=some .local->
  bindL kindOf (P.zip vs) m x=some v
 | [],_,_,_,_,h,_,_=>by simp at h
 | _::_,[],_,_,_,_,h,_=>by simp at h
 | p::P,w::vs,0,m,nd,h1,h2,hk=>by
  simp at h1 h2;subst h1;subst h2
  show bindL kindOf ((p,w)::P.zip vs) m p=_
  unfold bindL
  rw[B76 fun v hv=>(A0s.mp nd).1 (List.of_mem_zip hv).1,if_pos hk]
  simp
 | p::P,w::vs,i + 1,m,nd,h1,h2,hk=>by
  show bindL kindOf ((p,w)::P.zip vs) m x=_
  unfold bindL
  exact B78 (i:=i) (A0s.mp nd).2 (by simpa using h1) (by simpa using h2) hk
theorem B79 {kindOf:Str->Option NameKind} {x:Str} {v:Value}:∀{P:List Str} {vs:List Value} {i:Nat} {m:Str->Option Value},P.Nodup->P[i]?=some x->vs[i]?=some v->kindOf x≠some .local->
  bindC kindOf (P.zip vs) m x=some v
 | [],_,_,_,_,h,_,_=>by simp at h
 | _::_,[],_,_,_,_,h,_=>by simp at h
 | p::P,w::vs,0,m,nd,h1,h2,hk=>by
  simp at h1 h2;subst h1;subst h2
  show bindC kindOf ((p,w)::P.zip vs) m p=_
  unfold bindC
  rw[B77 fun v hv=>(A0s.mp nd).1 (List.of_mem_zip hv).1,if_neg hk]
  simp
 | p::P,w::vs,i + 1,m,nd,h1,h2,hk=>by
  show bindC kindOf ((p,w)::P.zip vs) m x=_
  unfold bindC
  exact B79 (i:=i) (A0s.mp nd).2 (by simpa using h1) (by simpa using h2) hk
def start (N:List Str) (vs:List V):St:=vs.map some++G5 (N.length - vs.length) none
def X8 (CX:CXT) (P:Program) (w:World) (K:B3) (mg:Str->Option Value) (base:Heap) (N:List Str) (qual:Str) (scope:Scope) (f:Addr) (cd:Value) (A:Around) (outer:List Env) (s:Shared) (H:Hp) (E:XK):Cx where
 prog:=P
 w:=w
 K:=K
 mg:=mg
 base:=base
 A:=A.deeper (envOfC qual scope s.heap.objs.size f cd)
 N:=N
 s₀:=s
 H₀:=H
 env:=envOfC qual scope s.heap.objs.size f cd
 outer:=outer
 stack:=envOfC qual scope s.heap.objs.size f cd::outer
 ex:=[]
 calm:=true
 fn:=fun _=>true
 pn:=[]
 xe:=fun e s'=>wpAny (model P w) (A.deeper (envOfC qual scope s.heap.objs.size f cd)) (leaving (envOfC qual scope s.heap.objs.size f cd) e) (fun _ s''=>CX outer H s E e s'') (fun e' s''=>CX outer H s E e' s'') s'
theorem B8a {sc:Scope} {n:Nat} {x:Str} (h:sc.names.lookup x=some .cell):∃c,(cellsFrom n sc.names []).lookup x=some c:=by
 have q:=PySem.W.cellsFrom_some sc.names n [] (.inl h)
 exact Option.isSome_iff_exists.mp q
theorem C4p {CX:CXT} {P:Program} {w:World} {K:B3} {mg:Str->Option Value} {base:Heap} {N ps:List Str} {qual:Str} {scope:Scope} {f:Addr} {cd:Value} {A:Around} {outer:List Env} {s s1:Shared} {H:Hp} {E:XK} {us:List Value} {vs:List V}
  (S:E1 N ps scope) (hd:A.handled=none) (e0:A94 P w K mg base A outer s H) (hl:vs.length=ps.length) (r:D7 vs us)
  (x:InCallC s s.heap.objs.size (bindL (envOfC qual scope s.heap.objs.size f cd).kindOf (ps.zip us) fun _=>none) (cellsFrom (s.heap.objs.size + 1) scope.names []) (bindC (envOfC qual scope s.heap.objs.size f cd).kindOf (ps.zip us) fun _=>none) s1) :
  Inv (X8 CX P w K mg base N qual scope f cd A outer s H E) [] (start N vs) H s1:=by
 have hpl:ps.length<=N.length:=by have:=congrArg A2o S.pre;rw[e9] at this;lia
 obtain⟨h1,tk,rfl,hk⟩:=x.done
 have noA:∀b:Addr,b∉(X8 CX P w K mg base N qual scope f cd A outer s H E).ex:=fun b z=>absurd (show b∈([]:List Addr) from z) (by simp)
 refine⟨⟨e0.mod,S.kind,rfl,rfl,F3 _,fun y z c h1 h2=>?_,fun y hy=>?_,fun y c _ h=>?_,fun _=>hd,Around.frames_deeper e0.frames,.inr ⟨rfl,rfl⟩,fun b z=>absurd z (noA b),e0.bs,e0.bsz,fun b _ _=>noA b,fun b z=>absurd z (noA b),e0.funs,e0.frf⟩,
  rfl,e0.bare,Un.kept hk,⟨_,x.toInCall.ns,fun i y v h1 h2 h3=>?_⟩,fun y c h=>⟨_,x.cell y c h⟩,e0.hok.fresh (F3 _),fun y c h=>?_,fun p hp=>absurd (show p∈([]:List (Addr×Obj)) from hp) (by simp),e0.hok.kept hk,?_⟩
 ·exact name_of_addr x.apart (B2e h1) (B2e h2)
 ·have hy:scope.names.lookup y=some .cell\/scope.names.lookup y=some .free:=hy
  rcases hy with hy | hy
  ·exact B8a hy
  ·exact absurd rfl (S.nofree _ (B2e hy))
 ·exact A4l (x.above y c (B2e h))
 ·have hi:i < vs.length:=by
   unfold start at h2
   by_cases hi:i < vs.length
   ·exact hi
   ·rw[f7 (by simpa using hi)] at h2
    rw[B65] at h2
    split at h2 <;> cases h2
  have ha:vs[i]?=some v:=by
   unfold start at h2
   rw[l6 (by simpa using hi),M7] at h2
   cases e:vs[i]? with
   | none=>rw[e] at h2;cases h2
   | some a=>rw[e] at h2;cases h2;rfl
  obtain⟨u,hu,rv⟩:=r.get ha
  have hp:ps[i]?=some y:=by
   rw[<-S.pre,List.getElem?_take_of_lt (by lia)];exact h1
  have ndP:ps.Nodup:=by rw[<-S.pre];exact S.nd.sublist (List.take_sublist _ _)
  refine⟨u,rv,?_⟩
  rcases S.par y (O2 hp) with k | k
  ·exact .inl ⟨k,B78 ndP hp hu k⟩
  ·obtain⟨c,e⟩:=B8a (n:=s.heap.objs.size + 1) k
   refine .inr ⟨.inl k,c,e,?_⟩
   have q:=x.cell y c e
   rw[B79 ndP hp hu (by show scope.names.lookup y≠_;rw[k];decide)] at q
   exact q
 ·exact e0.hok.fresh (A4l (x.above y c (B2e h)))
 ·unfold start
  show _=N.length
  rw[M4,D5,A4m]
  lia
theorem C4q {CX:CXT} {P:Program} {w:World} {K:B3} {mg:Str->Option Value} {base:Heap} {k:Nat} {f:Addr} {name qual:Str} {params:Arguments} {body:List Stmt} {scope:Scope} {dV kV doc pm cdv ct oc:Value} {an od:Option Addr}
  {osl:Array (Option Value)} {N ps:List Str} {sp:Sp} (lk:K.lookup f=some ⟨oc,od,.func (A4n name qual params body scope dV kV doc pm an cdv ct),osl⟩) (hcd:B66 K cdv qual=true) (S:E1 N ps scope)
  (len:∀vs H Q E,sp vs H Q E->vs.length=ps.length)
  (hbody:∀(A:Around) (outer:List Env) (s:Shared) (H:Hp) (vs:List V) (Q:VK) (E:XK),U2 k (A.deeper (envOfC qual scope s.heap.objs.size f cdv))->sp vs H Q E->
   ∃t,PSs (X8 CX P w K mg base N qual scope f cdv A outer s H E) body t/\t { nx:=fun _ H'=>Q .non H',rt:=Q } (start N vs) H) :
  D0 P w K mg base CX (k + 1) f (A4n name qual params body scope dV kV doc pm an cdv ct) ps sp:=by
 refine⟨len,fun A outer s H args us vs Q E hr e0 hb r hsp=>?_⟩
 have hl:=len _ _ _ _ hsp
 have KX:K.In s.heap:=e0.mod.kin.keeps fun b o e=>(e0.bs b o e).1
 have lim:s.heap.NoLimit:=e0.mod.nolimit.keeps fun b o e=>(e0.bs b o e).1
 have hkind:∀y∈ps.zip us,scope.names.lookup y.1=some .local\/(scope.names.lookup y.1=some .cell/\((cellsFrom (s.heap.objs.size + 1) scope.names []).lookup y.1).isSome=true):=fun ⟨n,v⟩ hy=>by
  rcases S.par n (List.of_mem_zip hy).1 with q | q
  ·exact .inl q
  ·exact .inr ⟨q,PySem.W.cellsFrom_some _ _ _ (.inl q)⟩
 refine codeAny_call_function hr.depth (KX _ _ lk) rfl S.co S.gen rfl (PySem.W.codeRec_of KX hcd) (hb _ _ _ _ ?_)
 refine wpAny_newFunctionEnv_cells S.kind hkind fun env he s1 x=>?_
 subst he
 refine⟨lim.keeps x.toInCall.keep,codeAny_func ?_⟩
 obtain⟨t,ht,hq⟩:=hbody A outer s H vs Q E (hr.deeper _) hsp
 have I:Inv (X8 CX P w K mg base N qual scope f cdv A outer s H E) [] (start N vs) H s1:=C4p S hr.hd e0 hl r x
 refine wpAny_mono (ht [] s1 (start N vs) H _ I hq) (fun fl s' hs=>?_) fun e s' hs=>hs
 have fin:∀{σ':St} {H':Hp} {v:V} {u:Value},Inv (X8 CX P w K mg base N qual scope f cdv A outer s H E) [] σ' H' s'->G3 v u->Q v H'->CE outer P w H s Q u s':=
  fun {σ' H' v u} J rv q=>⟨v,H',J.os,J.bare,J.base,J.hok,rv,q⟩
 cases fl with
 | ret u=>
  obtain⟨v,σ',H',J,rv,q⟩:=hs
  exact fin J rv q
 | next=>
  obtain⟨σ',H',J,q⟩:=hs
  exact fin (v:=V.non) (u:=Value.none) J rfl q
 | brk=>
  obtain⟨_,_,_,q⟩:=hs
  exact False.elim q
 | cont=>
  obtain⟨_,_,_,q⟩:=hs
  exact False.elim q
section
variable {X:Cx} {x:Str} {p pos:Pos} {e:Expr} {es:List Expr} {t:TA} {id T:String} {r:List V->Hp->VK->Prop}
def tCB (r:List V->Hp->VK->Prop) (t:TA):TE:=fun σ H Q=>t σ H fun vs H1=>r vs H1 Q
theorem G4 (hc:r8 X (.builtin id) r) (hg:Gl X x) (hm:X.mg x=none) (hv:bootBuiltins x=some (.builtin id)) (ha:PA X (e::es) t) (hn:x≠ "__name__" :=by decide) (hdb:(x == ("__debug__" : Str))=false:=by decide)
  (he:starEach (e::es) X.env=(false,eval e X.env)::starEach es X.env:=by rfl) (hpl:(backTo pos (starEach es X.env)).any (·.1)=false:=by rfl):PE X (.Call (.Name x p) (e::es) [] pos) (tCB r t):=by
 intro pins s σ H Q I h
 refine wpAny_Call_Name_kw (A1n I hg hm hv ?_ hn hdb)
 exact PyProof.Rows.callWith_builtin1 (thn (ha pos pins s σ H _ I h) fun us s1 zz213=>el5 zz213 fun vs H1 I1 r1 q1=>hc pins s1 σ H1 vs us Q I1 r1 q1) he hpl
theorem b7 (hc:r8 X (.type T) r) (hg:Gl X x) (hm:X.mg x=none) (hv:bootBuiltins x=some (.type T)) (ha:PA X (e::es) t) (hn:x≠ "__name__" :=by decide) (hdb:(x == ("__debug__" : Str))=false:=by decide)
  (he:starEach (e::es) X.env=(false,eval e X.env)::starEach es X.env:=by rfl) (hpl:(backTo pos (starEach es X.env)).any (·.1)=false:=by rfl):PE X (.Call (.Name x p) (e::es) [] pos) (tCB r t):=by
 intro pins s σ H Q I h
 refine wpAny_Call_Name_kw (A1n I hg hm hv ?_ hn hdb)
 exact PyProof.Rows.callWith_type1 (thn (ha pos pins s σ H _ I h) fun us s1 zz214=>el5 zz214 fun vs H1 I1 r1 q1=>hc pins s1 σ H1 vs us Q I1 r1 q1) he hpl
end
end L2
namespace HT
open PySem PyProof.Rows
section
open PySem.SeqAt
open PySem.AutoSeq1 (wpAny_loadPart')
open PySem.MeetsSeq PySem.MeetsSeq2 PySem.MeetsSeq3
end
section
variable {prog:Program} {w:World} {A:Around} {E:Value->Shared->Prop} {s:Shared}
def sIx (n d:Nat):Option Int->Nat
 | none=>d
 | some v=>if v < 0 then (v + (n:Int)).toNat else min v.toNat n
theorem sIx_none (n d:Nat):sIx n d none=d:=rfl
theorem sIx_nat (n d k:Nat):sIx n d (some (k:Int))=min k n:=by
 show (if (k:Int) < 0 then ((k:Int) + (n:Int)).toNat else min (k:Int).toNat n)=min k n
 rw[if_neg (by lia),A1g]
end
end HT
namespace L2
open PySem PySem.Spec PyProof.Rows
abbrev TO:=St->Hp->(Option Int->Hp->Prop)->Prop
def PO (X:Cx) (e:Option Expr) (t:TO):Prop:=
 ∀(pins:List (Addr×Obj)) (s:Shared) (σ:St) (H:Hp) (Q:Option Int->Hp->Prop),Inv X pins σ H s->t σ H Q->
  wpAny (model X.prog X.w) X.A (evalPart e X.env) (fun u s'=>∃o H',Inv X pins σ H' s'/\IsPart u o/\Q o H') X.xe s
def C4r:TO:=fun _ H Q=>Q none H
def C4s (t:TE):TO:=fun σ H Q=>t σ H fun x H1=>∃i,x=.int i/\Q (some i) H1
theorem C4t {ns:List Int}:∀{us:List Value},D7 (ns.map V.int) us->IntsAre us ns:=by
 induction ns with
 | nil=>intro us r;rw[List.map_nil] at r;cases r;exact .nil
 | cons n ns ih=>
  intro us r
  rw[n8] at r
  cases r with
  | cons r1 r2=>
   obtain⟨t,e⟩:=r1
   subst e
   exact .cons n t (ih r2)
section
variable {X:Cx} {e:Expr} {te:TE} {lo hi:Option Expr} {tl th:TO} {pos p2:Pos}
theorem B8b:PO X none C4r:=by
 intro pins s σ H Q I h
 rw[evalPart_none]
 exact wpAny_pure ⟨none,H,I,.none,h⟩
theorem B8c (h:PE X e te):PO X (some e) (C4s te):=by
 intro pins s σ H Q I hw
 rw[evalPart_some]
 refine thn (h pins s σ H _ I hw) fun u s1 zz215=>el5 zz215 fun x H1 I1 r1 q1=>?_
 obtain⟨i,rfl,q⟩:=q1
 obtain⟨t,rfl⟩:=r1
 exact⟨some i,H1,I1,.int i t,q⟩
def SlR (X:Cx) (r:V->Option Int->Option Int->Hp->VK->Prop):Prop:=
 ∀(pins:List (Addr×Obj)) (s:Shared) (σ:St) (H:Hp) (x:V) (v vl vu:Value) (lo hi:Option Int) (sl:Addr) (Q:VK),Inv X pins σ H s->G3 x v->s.heap.IsSliceOf sl vl vu .none->IsPart vl lo->IsPart vu hi->r x lo hi H Q->
  ∃T id,typeLookup (.type T) "__getitem__" = pure (some (.builtin id))/\s.TypeIs v T/\wpAny (model X.prog X.w) X.A (getItem v (.ref sl)) (EP X pins σ Q) X.xe s
def tSl (r:V->Option Int->Option Int->Hp->VK->Prop) (te:TE) (tl th:TO):TE:=fun σ H Q=>te σ H fun x H1=>tl σ H1 fun l H2=>th σ H2 fun u H3=>r x l u H3 Q
theorem B29 {r:V->Option Int->Option Int->Hp->VK->Prop} (hr:SlR X r) (he:PE X e te) (hl:PO X lo tl) (hu:PO X hi th):PE X (.Subscript e (.Slice lo hi none p2) pos) (tSl r te tl th):=by
 intro pins s σ H Q I h
 refine Subscript_ (thn (he pins s σ H _ I h) fun v s1 zz216=>el5 zz216 fun x H1 I1 r1 q1=>?_)
 refine wpAny_Slice (thn (hl pins s1 σ H1 _ I1 q1) fun vl s2 zz217=>el5 zz217 fun l H2 I2 pl q2=>thn (hu pins s2 σ H2 _ I2 q2) fun vu s3 zz218=>el5 zz218 fun u H3 I3 pu q3=>?_)
 rw[evalPart_none]
 refine wpAny_pure ?_
 have I4:Inv X pins σ H3 { s3 with heap:=s3.heap.push { cls:=.type "slice",data:=.fields #[vl,vu,.none] } }:=I3.kept (t':=s3.toks) fun b ob q=>P6 _ q
 obtain⟨T,id,hT,ht,hg⟩:=hr pins { s3 with heap:=s3.heap.push { cls:=.type "slice",data:=.fields #[vl,vu,.none] } } σ H3 x v vl vu l u s3.heap.objs.size Q I4 r1 (Heap.IsSliceOf.new ..) pl pu q3
 show wpAny (model X.prog X.w) X.A (subscriptTail e (.Slice lo hi none p2) v (.ref s3.heap.objs.size)) (EP X pins σ Q) X.xe { s3 with heap:=s3.heap.push { cls:=.type "slice",data:=.fields #[vl,vu,.none] } }
 exact tail_any (ops:=[.ref s3.heap.objs.size,v]) ht hT hg (by with_unfolding_all rfl)
def A4v (xs:List V) (lo hi:Option Int):List V:=(xs.drop (HT.sIx xs.length 0 lo)).take (HT.sIx xs.length xs.length hi - HT.sIx xs.length 0 lo)
theorem C4u (xs:List V) (lo hi:Option Int):(A4v xs lo hi).length<=xs.length:=by
 unfold A4v
 rw[e9,B67]
 lia
end
def ixN (n:Nat) (i:Int):Option Nat:=if 0<=i then (if i < n then some i.toNat else none) else if -(n:Int)<=i then some (i + n).toNat else none
def atI {α:Type} (xs:List α) (i:Int):Option α:=(ixN xs.length i).bind fun j=>xs[j]?
theorem B8d {n:Nat} {i:Int} {j:Nat} (h:ixN n i=some j):seqIndex? i n=some j/\j < n/\-(n:Int)<=i/\i < n:=by
 unfold ixN at h
 by_cases h0:0<=i
 ·rw[if_pos h0] at h
  by_cases h1:i < n
  ·rw[if_pos h1] at h
   have e:i.toNat=j:=Option.some.inj h
   exact⟨by rw[seqIndex_of h0 h1,e],by lia,by lia,h1⟩
  ·rw[if_neg h1] at h;cases h
 ·rw[if_neg h0] at h
  by_cases h1:-(n:Int)<=i
  ·rw[if_pos h1] at h
   have e:(i + n).toNat=j:=Option.some.inj h
   exact⟨by rw[seqIndex_neg (by lia) h1,e],by lia,h1,by lia⟩
  ·rw[if_neg h1] at h;cases h
theorem A95 {α:Type} {xs:List α} {i:Int} {v:α} (h:atI xs i=some v):∃j,seqIndex? i xs.length=some j/\xs[j]?=some v/\j < xs.length/\-(xs.length:Int)<=i/\i < xs.length:=by
 unfold atI at h
 cases e:ixN xs.length i with
 | none=>rw[e] at h;cases h
 | some j=>
  rw[e] at h
  obtain⟨h1,h2,h3,h4⟩:=B8d e
  exact⟨j,h1,h,h2,h3,h4⟩
theorem P0 {α:Type} {xs:List α} {j:Nat} {v:α} (h:xs[j]?=some v):atI xs (j:Int)=some v:=by
 have hj:j < xs.length:=(m9.mp h).1
 have e:ixN xs.length (j:Int)=some j:=by
  unfold ixN
  rw[if_pos (by lia),if_pos (by lia)];simp
 unfold atI;rw[e];exact h
theorem B8e {α:Type} (xs:List α) (v:α):atI (xs++[v]) (-1)=some v:=by
 have hl:(xs++[v]).length=xs.length + 1:=by simp
 have e:ixN (xs++[v]).length (-1)=some xs.length:=by
  unfold ixN
  rw[hl,if_neg (by decide),if_pos (by lia)]
  congr 1
  lia
 unfold atI
 rw[e]
 show (xs++[v])[xs.length]?=some v
 simp
def A96 (b:Expr):Prop:=∀o i,subscripted b false o i=operate [o,i] (getItem o i)
def IxR (X:Cx) (r:R2):Prop:=
 ∀(value slice:Expr) (pins:List (Addr×Obj)) (s:Shared) (σ:St) (H:Hp) (x y:V) (v u:Value) (Q:VK),Inv X pins σ H s->G3 x v->G3 y u->r x y H Q->
  subscripted slice false v u=operate [v,u] (getItem v u)->wpAny (model X.prog X.w) X.A (subscriptTail value slice v u) (EP X pins σ Q) X.xe s
def MtR (X:Cx) (id:String) (r:V->List V->Hp->VK->Prop):Prop:=
 ∀(pins:List (Addr×Obj)) (s:Shared) (σ:St) (H:Hp) (x:V) (xs:List V) (v:Value) (us:List Value) (Q:VK),Inv X pins σ H s->G3 x v->D7 xs us->r x xs H Q->
  wpAny (model X.prog X.w) X.A (call (.builtin id) (v::us)) (EP X pins σ Q) X.xe s
section
variable {X:Cx} {a b:Expr} {ta tb:TE} {pos:Pos}
theorem IxR.or {r r':R2} (h:IxR X r) (h':IxR X r'):IxR X (fun x y H Q=>r x y H Q\/r' x y H Q):=by
 intro value slice pins s σ H x y v u Q I rx ry q hs
 rcases q with q | q
 ·exact h value slice pins s σ H x y v u Q I rx ry q hs
 ·exact h' value slice pins s σ H x y v u Q I rx ry q hs
theorem D9 {r:R2} (hr:IxR X r) (ha:PE X a ta) (hb:PE X b tb) (hs:A96 b):PE X (.Subscript a b pos) (tOp r ta tb):=by
 intro pins s σ H Q I h
 exact Subscript_ (B2z ha hb I h fun v u s2 x y H2 I2 rx ry q=>hr a b pins s2 σ H2 x y v u Q I2 rx ry q (hs _ _))
def B8f (K:B3):R2:=fun x y H Q=>∃p xs i v,x=.ref p/\y=.int i/\SqL K H p xs/\atI xs i=some v/\Q v H
def B8g (K:B3):R2:=fun x y H Q=>∃p xs i v,x=.ref p/\y=.int i/\SqT K H p xs/\atI xs i=some v/\Q v H
def B8h:R2:=fun x y H Q=>∃z i c,x=.str z/\y=.int i/\z.length<=sizeLine/\atI z.cps.toList i=some c/\Q (.str ⟨#[c]⟩) H
theorem N3:IxR X (B8f X.K):=by
 intro value slice pins s σ H x y v u Q I rx ry h hs
 obtain⟨p,xs,i,z,rfl,rfl,hq,he,q⟩:=h
 cases rx
 obtain⟨t,rfl⟩:=ry
 obtain⟨its,r,pl,hz⟩:=I.list hq
 obtain⟨j,h1,h2,h3,h4,h5⟩:=A95 he
 obtain⟨w,ew,rw'⟩:=r.get h2
 have hl:=r.length
 have hn:=A7c
 have fin:EP X pins σ Q w s:=⟨z,H,I,rw',q⟩
 by_cases h0:0<=i
 ·have hj:i.toNat=j:=by
   rw[seqIndex_of h0 h5] at h1
   exact Option.some.inj h1
  exact item_listR pl.isList h0 (by lia) (by rw[hj];simpa using ew) fin hs
 ·have hj:(i + (its.toArray.size:Int)).toNat=j:=by
   rw[seqIndex_neg (by lia) h4] at h1
   rw[O4,<-hl]
   exact Option.some.inj h1
  exact subscriptTail_builtinR (x:=w) pl.isList.typeIs slot_list_getitem.lookup
   (wpAny_getItem_list_neg (Q:=fun r s'=>r=w/\EP X pins σ Q r s') pl.isList (by lia) (by rw[O4] <;> lia) (by lia) (by rw[hj];simpa using ew) ⟨rfl,fin⟩) hs
theorem C4v:IxR X (B8g X.K):=by
 intro value slice pins s σ H x y v u Q I rx ry h hs
 obtain⟨p,xs,i,z,rfl,rfl,hq,he,q⟩:=h
 cases rx
 obtain⟨t,rfl⟩:=ry
 obtain⟨its,r,pl,hz⟩:=I.tuple hq
 obtain⟨j,h1,h2,h3,h4,h5⟩:=A95 he
 obtain⟨w,ew,rw'⟩:=r.get h2
 have hl:=r.length
 have hn:=A7c
 have fin:EP X pins σ Q w s:=⟨z,H,I,rw',q⟩
 exact subscriptTail_builtinR (x:=w) pl.typeIs slot_tuple_getitem.lookup
  (getItem_tuple (j:=j) (Q:=fun r s'=>r=w/\EP X pins σ Q r s') pl (by lia) (by lia) (by rw[O4,<-hl];exact h1) (by simpa using ew) ⟨rfl,fin⟩) hs
theorem C4w:IxR X B8h:=by
 intro value slice pins s σ H x y v u Q I rx ry h hs
 obtain⟨z,i,c,rfl,rfl,hz,he,q⟩:=h
 obtain⟨t,rfl⟩:=rx
 obtain⟨t',rfl⟩:=ry
 obtain⟨j,h1,h2,h3,h4,h5⟩:=A95 he
 have hl:z.cps.toList.length=z.length:=by simp [Str.length]
 rw[hl] at h1 h4 h5
 have hn:=A7c
 exact tail_any (typeIs_str s z t) slot_str_getitem.lookup (getItem_str (c:=c) (by
  have e1:decide (i < -(2 ^ 63:Int))=false:=decide_eq_false (by lia)
  have e2:decide (i ≥ 2 ^ 63)=false:=decide_eq_false (by lia)
  rw[e1,e2,Bool.or_false]) (by rw[h1];simpa using h2) ⟨.str ⟨#[c]⟩,H,I.tok _,⟨_,rfl⟩,q⟩) hs
def rIx (K:B3):R2:=fun x y H Q=>B8f K x y H Q\/B8g K x y H Q\/B8h x y H Q
theorem J3:IxR X (rIx X.K):=N3.or (C4v.or C4w)
theorem C4x (its:List Value) (n j:Nat) (u:Value):A6z (·.setIfInBounds j u) { cls:=.type "list",data:=.seq its.toArray n }={ cls:=.type "list",data:=.seq (its.set j u).toArray n }:=by
 simp [A6z]
theorem Inv.lst {pins:List (Addr×Obj)} {σ:St} {H:Hp} {s:Shared} {p:Addr} {xs:List V} (I:Inv X pins σ H s) (h:H p=some (.lst xs)) :
  ∃(its:List Value) (n:Nat),D7 xs its/\s.heap.get? p=some { cls:=.type "list",data:=.seq its.toArray n }/\xs.length<=sizeLine:=by
 obtain⟨z,its,n,r,e⟩:=I.hok p _ h
 exact⟨its,n,r,e,z⟩
theorem Inv.lstUpd {pins:List (Addr×Obj)} {σ:St} {H:Hp} {s:Shared} {p:Addr} {xs ys:List V} {its its':List Value} {n n':Nat} {f:Obj->Obj} (I:Inv X pins σ H s) (h:H p=some (.lst xs))
  (ho:s.heap.get? p=some { cls:=.type "list",data:=.seq its.toArray n }) (hf:f { cls:=.type "list",data:=.seq its.toArray n }={ cls:=.type "list",data:=.seq its'.toArray n' }) (r:D7 ys its') (hz:ys.length<=sizeLine) (t:Nat) :
  Inv X pins σ (upd H p (.lst ys)) { s with heap:=s.heap.update p f,toks:=t }:=by
 have e:(s.heap.update p f).get? p=some { cls:=.type "list",data:=.seq its'.toArray n' }:=by
  rw[Heap.get?_update_self f ho (by rw[hf] <;> rfl),hf]
 refine I.write (x:=p) (e:=p) (by rw[h];trivial) (.inl rfl) (fun b u hb q=>(C25 _ _ (Ne.symm hb)).trans q) ⟨_,e⟩ ?_
 exact⟨hz,its',n',r,e⟩
def B8i:V->V->V->Hp->(Hp->Prop)->Prop:=fun o i v H Q=>∃p xs k j,o=.ref p/\i=.int k/\H p=some (.lst xs)/\ixN xs.length k=some j/\Q (upd H p (.lst (xs.set j v)))
theorem X9:B2v X B8i:=by
 intro pins s σ H o i v ov iv u Q I ro ri rv h
 obtain⟨p,xs,k,j,rfl,rfl,hp,hj,q⟩:=h
 cases ro
 obtain⟨t,rfl⟩:=ri
 obtain⟨its,n,r,ho,hz⟩:=I.lst hp
 obtain⟨h1,h2,h3,h4⟩:=B8d hj
 have hl:=r.length
 have hn:=A7c
 have I':Inv X pins σ (upd H p (.lst (xs.set j v))) { s with heap:=s.heap.update p (A6z (·.setIfInBounds j u)) }:=
  I.lstUpd hp ho (C4x its n j u) (r.set rv j) (by rw[O3];exact hz) s.toks
 by_cases h0:0<=k
 ·have hk:k.toNat=j:=by
   rw[seqIndex_of h0 h4] at h1
   exact Option.some.inj h1
  exact PySem.W.ki_setAt ho h0 (by lia) (by rw[O4,<-hl];exact h4) (by rw[hk];exact⟨_,I',q⟩)
 ·have hk:(k + (its.toArray.size:Int)).toNat=j:=by
   rw[seqIndex_neg (by lia) h3] at h1
   rw[O4,<-hl]
   exact Option.some.inj h1
  exact PySem.W.ki_setBack ho (by lia) (by rw[O4,<-hl];exact h3) (by lia) (by rw[hk];exact⟨_,I',q⟩)
theorem C4y (lo hi:Option Int) (n:Nat):(sliceBounds lo hi none n).1=((HT.sIx n 0 lo:Nat):Int)/\(sliceBounds lo hi none n).2.1=((HT.sIx n n hi:Nat):Int)/\(sliceBounds lo hi none n).2.2=1:=by
 refine⟨?_,?_,rfl⟩
 ·cases lo with
  | none=>simp [sliceBounds,HT.sIx]
  | some i=>
   simp only[sliceBounds,HT.sIx,Option.getD_none,show (1:Int) > 0 by decide,if_true]
   by_cases h:i < 0
   ·simp only[h,if_true] <;> lia
   ·simp only[h,if_false] <;> lia
 ·cases hi with
  | none=>simp [sliceBounds,HT.sIx]
  | some i=>
   simp only[sliceBounds,HT.sIx,Option.getD_none,show (1:Int) > 0 by decide,if_true]
   by_cases h:i < 0
   ·simp only[h,if_true] <;> lia
   ·simp only[h,if_false] <;> lia
theorem C4z (its:List Value) (lo hi:Option Int):slicePick its.toArray lo hi none=((its.drop (HT.sIx its.length 0 lo)).take (HT.sIx its.length its.length hi - HT.sIx its.length 0 lo)).toArray:=by
 obtain⟨h1,h2,h3⟩:=C4y lo hi its.toArray.size
 unfold slicePick
 rw[h1,h2,h3]
 simp only[sliceRange_one,pick_run,O4] <;> rfl
def C40 (K:B3):V->Option Int->Option Int->Hp->VK->Prop:=fun x lo hi H Q=>∃a xs,x=.ref a/\SqL K H a xs/\∀p,H p=none->Q (.ref p) (upd H p (.lst (A4v xs lo hi)))
theorem B3a:SlR X (C40 X.K):=by
 intro pins s σ H x v vl vu lo hi sl Q I rx hs pl pu h
 obtain⟨a,xs,rfl,hx,q⟩:=h
 cases rx
 obtain⟨its,r,ht,hz⟩:=I.list hx
 have hlen:=r.length
 refine⟨"list",_,slot_list_getitem.lookup,ht.isList.typeIs,?_⟩
 refine wpAny_getItem_list_slice ht.isList hs pl pu .none (by simp) ?_ (by rw[O4] <;> lia)
 rw[C4z,<-hlen]
 refine⟨.ref s.heap.objs.size,_,I.laid (t':=s.toks) (o:=.lst (A4v xs lo hi)) (fun b ob q=>P6 _ q) (F3 _) ?_,rfl,q _ (I.hok.fresh (F3 _))⟩
 exact⟨m8 (C4u xs lo hi) hz,_,0,(r.drop (HT.sIx xs.length 0 lo)).take (HT.sIx xs.length xs.length hi - HT.sIx xs.length 0 lo),X2 _ rfl⟩
def A1s:V->Bool
 | .non=>true
 | .bl _=>true
 | .int _=>true
 | .str _=>true
 | _=>false
def eqV:V->V->Bool
 | .non,.non=>true
 | .bl a,.bl b=>a == b
 | .bl a,.int b=>(if a then 1 else 0) == b
 | .int a,.bl b=>a == (if b then 1 else 0)
 | .int a,.int b=>a == b
 | .str a,.str b=>a == b
 | _,_=>false
theorem C41 {A:Around} {s:Shared} {y x:V} {u v:Value} (ry:G3 y u) (rx:G3 x v) (fy:A1s y=true) (fx:A1s x=true):SeqAt.EqAt A s u v (eqV y x):=by
 cases y with
 | non=>
  cases ry
  cases x with
  | non=>cases rx;exact SeqAt.EqAt.same _
  | bl b=>cases rx;exact SeqAt.EqAt.none_bool b
  | int b=>obtain⟨t,rfl⟩:=rx;exact SeqAt.EqAt.none_int b t
  | str b=>obtain⟨t,rfl⟩:=rx;exact SeqAt.EqAt.none_str b t
  | _=>exact absurd (show false=true from fx) Q8
 | bl a=>
  cases ry
  cases x with
  | non=>cases rx;exact SeqAt.EqAt.bool_none a
  | bl b=>cases rx;exact SeqAt.EqAt.bool_bool a b
  | int b=>obtain⟨t,rfl⟩:=rx;exact SeqAt.EqAt.bool_int a b t
  | str b=>obtain⟨t,rfl⟩:=rx;exact SeqAt.EqAt.bool_str a b t
  | _=>exact absurd (show false=true from fx) Q8
 | int a=>
  obtain⟨t',rfl⟩:=ry
  cases x with
  | non=>cases rx;exact SeqAt.EqAt.int_none a t'
  | bl b=>cases rx;exact SeqAt.EqAt.int_bool a t' b
  | int b=>obtain⟨t,rfl⟩:=rx;exact SeqAt.EqAt.int_int a t' b t
  | str b=>obtain⟨t,rfl⟩:=rx;exact SeqAt.EqAt.int_str a t' b t
  | _=>exact absurd (show false=true from fx) Q8
 | str a=>
  obtain⟨t',rfl⟩:=ry
  cases x with
  | non=>cases rx;exact SeqAt.EqAt.str_none a t'
  | bl b=>cases rx;exact SeqAt.EqAt.str_bool a t' b
  | int b=>obtain⟨t,rfl⟩:=rx;exact SeqAt.EqAt.str_int a t' b t
  | str b=>obtain⟨t,rfl⟩:=rx;exact SeqAt.EqAt.str_str a t' b t
  | _=>exact absurd (show false=true from fx) Q8
 | _=>exact absurd (show false=true from fy) Q8
def eqU (x:V) (u:Value):Bool:=match u with
 | .none=>eqV .non x
 | .bool b=>eqV (.bl b) x
 | .int i _=>eqV (.int i) x
 | .str z _=>eqV (.str z) x
 | _=>false
theorem B8j {x y:V} {u:Value} (r:G3 y u) (f:A1s y=true):eqU x u=eqV y x:=by
 cases y with
 | non=>cases r;rfl
 | bl b=>cases r;rfl
 | int i=>obtain⟨t,rfl⟩:=r;rfl
 | str z=>obtain⟨t,rfl⟩:=r;rfl
 | _=>exact absurd (show false=true from f) Q8
theorem B3b {x:V}:∀{xs:List V} {us:List Value},D7 xs us->xs.all A1s=true->us.any (eqU x)=xs.any fun y=>eqV y x
 | _,_,.nil,_=>rfl
 | y::xs,u::us,.cons r t,f=>by
  rw[List.all_cons,U7] at f
  rw[List.any_cons,List.any_cons,B8j r f.1,B3b t f.2]
theorem B3c {A:Around} {s:Shared} {x:V} {v:Value} (rx:G3 x v) (fx:A1s x=true):∀{xs:List V} {us:List Value},D7 xs us->xs.all A1s=true->∀u∈us,SeqAt.EqAt A s u v (eqU x u)
 | _,_,.nil,_=>fun u hu=>by cases hu
 | y::xs,u::us,.cons r t,f=>fun u' hu=>by
  rw[List.all_cons,U7] at f
  rcases N1.mp hu with rfl | hu
  ·rw[B8j r f.1];exact C41 r rx f.1 fx
  ·exact B3c rx fx t f.2 u' hu
def inV (x:V) (xs:List V):Bool:=xs.any fun y=>eqV y x
def rIn (K:B3) (neg:Bool):R2:=fun x y H Q=>∃p xs,y=.ref p/\(SqL K H p xs\/SqT K H p xs)/\A1s x=true/\xs.all A1s=true/\Q (.bl (if neg then !inV x xs else inV x xs)) H
theorem C42:OpR X (compareOp .NotIn) (rIn X.K true):=by
 intro pins s σ H x y v u Q I rx ry h
 obtain⟨p,xs,rfl,hq,fx,fs,q⟩:=h
 cases ry
 rcases hq with hq | hq
 ·obtain⟨its,r,pl,hz⟩:=I.list hq
  refine SeqAt.notIn_listAt (eqU x) pl.isList (fun w hw=>B3c rx fx r fs w (by simpa using hw)) ⟨.bl _,H,I,rfl,?_⟩
  rw[show its.toArray.any (eqU x)=its.any (eqU x) by simp,B3b r fs]
  exact q
 ·obtain⟨its,r,pl,hz⟩:=I.tuple hq
  refine SeqAt.notIn_tupleAt (eqU x) pl (fun w hw=>B3c rx fx r fs w (by simpa using hw)) ⟨.bl _,H,I,rfl,?_⟩
  rw[show its.toArray.any (eqU x)=its.any (eqU x) by simp,B3b r fs]
  exact q
theorem Q5:r8 X (.builtin "len") (fun xs H Q=>∃p ys,xs=[.ref p]/\(SqL X.K H p ys\/SqT X.K H p ys)/\Q (.int ys.length) H):=by
 intro pins s σ H xs us Q I r h
 obtain⟨p,ys,rfl,hq,q⟩:=h
 obtain⟨u,rfl,rx⟩:=v8 r
 cases rx
 have hn:=A7c
 rcases hq with hq | hq
 ·obtain⟨its,r',pl,hz⟩:=I.list hq
  have hlen:=r'.length
  exact Calls.call_len_list pl.isList (by simp only[O4] <;> lia) ⟨.int ys.length,H,I.tok _,⟨s.toks + 1,by rw[O4,hlen]⟩,q⟩
 ·obtain⟨its,r',pl,hz⟩:=I.tuple hq
  have hlen:=r'.length
  exact len_tuple pl (by simp only[O4] <;> lia) ⟨.int ys.length,H,I.tok _,⟨s.toks + 1,by rw[O4,hlen]⟩,q⟩
theorem w5:r8 X (.type "list") (fun xs H Q=>∃p ys,xs=[.ref p]/\(SqL X.K H p ys\/SqT X.K H p ys)/\∀l,H l=none->Q (.ref l) (upd H l (.lst ys))):=by
 intro pins s σ H xs us Q I r h
 obtain⟨p,ys,rfl,hq,q⟩:=h
 obtain⟨u,rfl,rx⟩:=v8 r
 cases rx
 have fin:∀(its:List Value),D7 ys its->ys.length<=sizeLine->∀(h':Heap) (c':Nat),(∀b o',s.heap.get? b=some o'->h'.get? b=some o')->
   h'.get? s.heap.objs.size=some { cls:=.type "list",dict:=none,data:=.seq its.toArray c',slots:=#[] }->EP X pins σ Q (.ref s.heap.objs.size) { s with heap:=h' }:=fun its r' hz h' c' kp e=>
  ⟨.ref s.heap.objs.size,_,I.laid (t':=s.toks) kp (F3 _) (show S6 X.prog X.w _ h' _ (.lst ys) from ⟨hz,its,c',r',e⟩),rfl,q _ (I.hok.fresh (F3 _))⟩
 rcases hq with hq | hq
 ·obtain⟨its,r',pl,hz⟩:=I.list hq
  have hlen:=r'.length
  obtain⟨o,ho,hc,n,hd⟩:=pl.isList
  exact call_list_seq p (.inl rfl) ho hc hd (fun h' c' kp e=>fin its r' hz h' c' kp e) (by simp only[O4] <;> lia)
 ·obtain⟨its,r',pl,hz⟩:=I.tuple hq
  have hlen:=r'.length
  obtain⟨o,ho,hc,n,hd⟩:=pl
  exact call_list_seq p (.inr rfl) ho hc hd (fun h' c' kp e=>fin its r' hz h' c' kp e) (by simp only[O4] <;> lia)
def tyV (K:B3) (T:String) (x:V) (H:Hp):Prop:=match x with
 | .str _=>T = "str"
 | .int _=>T = "int"
 | .ref p=>(T = "list" /\∃xs,SqL K H p xs)\/(T = "tuple" /\∃o,K.lookup p=some o/\o.cls=.type "tuple" /\o.dict=none)\/
   (T = "dict" /\((∃kvs,H p=some (.dK kvs))\/∃kvs,H p=some (.dT kvs)))\/(T = "set" /\∃S n,H p=some (.set S n))
 | _=>False
theorem B8k {pins:List (Addr×Obj)} {σ:St} {H:Hp} {s:Shared} {T:String} {x:V} {v:Value} (I:Inv X pins σ H s) (r:G3 x v) (ty:tyV X.K T x H) :
  s.TypeIs v T/\∀a,v=.ref a->∃ob,s.heap.get? a=some ob/\ob.dict=none:=by
 cases x with
 | str z=>
  obtain⟨t,rfl⟩:=r
  cases (show T = "str" from ty)
  exact⟨typeIs_str s z t,fun _ e=>nomatch e⟩
 | int i=>
  obtain⟨t,rfl⟩:=r
  cases (show T = "int" from ty)
  exact⟨typeIs_int s i t,fun _ e=>nomatch e⟩
 | ref p=>
  cases r
  rcases ty with ⟨rfl,xs,hq⟩ | ⟨rfl,o,hk,hc,hd⟩ | ⟨rfl,hk⟩ | ⟨rfl,S,n,hk⟩
  ·obtain⟨its,_,pl,_⟩:=I.list hq
   refine⟨pl.isList.typeIs,fun a e=>?_⟩
   cases e
   obtain⟨o,n,e,c,hd,_⟩:=pl
   exact⟨o,e,hd⟩
  ·refine⟨⟨o,I.kIn p o hk,hc⟩,fun a e=>?_⟩
   cases e
   exact⟨o,I.kIn _ o hk,hd⟩
  ·have z:∃o,s.heap.get? p=some o/\o.ExactDict:=by
    rcases hk with ⟨kvs,hk⟩ | ⟨kvs,hk⟩
    ·obtain⟨_,_,_,_,o,_,_,e,ex,_⟩:=I.hok p _ hk
     exact⟨o,e,ex⟩
    ·obtain⟨_,_,_,_,o,_,_,e,ex,_⟩:=I.hok p _ hk
     exact⟨o,e,ex⟩
   obtain⟨o,e,ex⟩:=z
   refine⟨⟨o,e,ex.1⟩,fun a e2=>?_⟩
   cases e2
   exact⟨o,e,ex.2.1⟩
  ·obtain⟨o,_,_,_,e,ex,_⟩:=I.hok p _ hk
   refine⟨⟨o,e,ex.1⟩,fun a e2=>?_⟩
   cases e2
   exact⟨o,e,ex.2.1⟩
 | _=>exact False.elim ty
def C43 (K:B3) (T:String) (r:V->List V->Hp->VK->Prop) (to:TE):TE:=fun σ H Q=>to σ H fun x H1=>tyV K T x H1/\r x [] H1 Q
def tBM (K:B3) (T:String) (r:V->List V->Hp->VK->Prop) (to:TE) (t:TA):TE:=fun σ H Q=>to σ H fun x H1=>tyV K T x H1/\t σ H1 fun xs H2=>r x xs H2 Q
variable {o e:Expr} {es:List Expr} {to:TE} {t:TA} {name:Str} {apos cpos:Pos} {T id:String} {r:V->List V->Hp->VK->Prop}
theorem A8q (pa:PlainAttrs T) (slot:Slot T name id) (hty:typeOf (.builtin id)=pure (.type "method_descriptor")) (hm:MtR X id r) (ho:PE X o to)
  (hbase:attributeBase o name X.env (eval o X.env)=eval o X.env:=by rfl) (hline:(apos.endLine == cpos.line)=true:=by rfl):PE X (.Call (.Attribute o name apos) [] [] cpos) (C43 X.K T r to):=by
 intro pins s σ H Q I h
 refine wpAny_Call_method0_late hbase hline (thn (ho pins s σ H _ I h) fun v s1 zz219=>zz219.elim fun x zz220=>zz220.elim fun H1 zz221=>zz221.elim fun I1 zz222=>zz222.elim fun r1 zz223=>zz223.elim fun ty q1=>?_)
 obtain⟨h1,h2⟩:=B8k I1 r1 ty
 exact⟨T,id,pa,slot,hty,h1,h2,Calls.callWith_builtin rfl (PySem.evalArgs_none (hm pins s1 σ H1 x [] v [] Q I1 r1 .nil q1))⟩
theorem Y5 (pa:PlainAttrs T) (slot:Slot T name id) (hty:typeOf (.builtin id)=pure (.type "method_descriptor")) (hm:MtR X id r) (ho:PE X o to) (ha:PA X (e::es) t)
  (hbase:attributeBase o name X.env (eval o X.env)=eval o X.env:=by rfl)
  (hfew:((backTo cpos (starEach (e::es) X.env)).all (fun x=>!x.1)&&(backToKw cpos (keywordEach [] X.env)).all (fun x=>x.1.isSome)
   &&decide ((e::es).length + ([]:List Keyword).length + (if ([]:List Keyword).isEmpty then 0 else 1) < 30))=true:=by rfl)
  (hline:(apos.endLine == cpos.line)=true:=by rfl) (hs:starEach (e::es) X.env=(false,eval e X.env)::starEach es X.env:=by rfl) (hplain:(backTo cpos (starEach es X.env)).any (·.1)=false:=by rfl) :
  PE X (.Call (.Attribute o name apos) (e::es) [] cpos) (tBM X.K T r to t):=by
 intro pins s σ H Q I h
 refine wpAny_Call_method_late hbase hfew hline rfl (thn (ho pins s σ H _ I h) fun v s1 zz224=>zz224.elim fun x zz225=>zz225.elim fun H1 zz226=>zz226.elim fun I1 zz227=>zz227.elim fun r1 zz228=>zz228.elim fun ty q1=>?_)
 obtain⟨h1,h2⟩:=B8k I1 r1 ty
 refine⟨T,id,pa,slot,hty,h1,h2,?_⟩
 have hA:=ha cpos pins s1 σ H1 _ I1 q1
 rw[hs] at hA ⊢
 refine Calls.callWith_builtin (by show (false||(backTo cpos (starEach es X.env)).any (·.1))=false;rw[hplain] <;> rfl) (Calls.evalArgs_plain ?_)
 exact thn hA fun us s2 zz229=>el5 zz229 fun vs H2 I2 r2 q2=>hm pins s2 σ H2 x vs v us Q I2 r1 r2 q2
end
def MtM (X:Cx) (id:String) (r:V->List V->Hp->VK->Prop):Prop:=
 ∀(pins:List (Addr×Obj)) (s:Shared) (σ:St) (H:Hp) (x:V) (xs:List V) (v:Value) (us:List Value) (Q:VK),Inv X pins σ H s->G3 x v->D7 xs us->r x xs H Q->
  wpAny (model X.prog X.w) X.A (call (.builtin id) (v::us)) (EP X pins σ Q) X.xe s
theorem D7.one {x:V} {us:List Value} (h:D7 [x] us):∃u,us=[u]/\G3 x u:=by
 cases h with
 | cons r t=>cases t;exact⟨_,rfl,r⟩
theorem D7.two {x y:V} {us:List Value} (h:D7 [x,y] us):∃u v,us=[u,v]/\G3 x u/\G3 y v:=by
 cases h with
 | cons r t=>
  obtain⟨v,rfl,q⟩:=D7.one t
  exact⟨_,_,rfl,r,q⟩
theorem D7.zero:∀{us:List Value},D7 [] us->us=[]
 | _,.nil=>rfl
theorem D7.rep {xs:List V} {us:List Value} (h:D7 xs us):∀k:Nat,D7 (G5 k xs).flatten (G5 k us).flatten
 | 0=>.nil
 | k + 1=>by
  rw[Y4,Y4,A60,A60]
  exact D7.append h (D7.rep h k)
theorem B8l (its:List Value):∀(k:Nat) (acc:List Value),
  List.foldl (fun x1 x2=>x1++x2) acc.toArray (G5 k its.toArray)=(acc++(G5 k its).flatten).toArray
 | 0,acc=>by simp
 | k + 1,acc=>by
  have e:acc.toArray++its.toArray=(acc++its).toArray:=by simp
  have e2:(acc++its)++(G5 k its).flatten=acc++(G5 (k + 1) its).flatten:=by
   rw[Y4,A60,A1h]
  rw[<-e2,<-B8l its k (acc++its),<-e,Y4,List.foldl_cons]
section
variable {X:Cx} {pins:List (Addr×Obj)} {σ:St} {H:Hp} {s:Shared} {l b:Addr} {xs ys zs:List V}
theorem Inv.lset {its its':List Value} {n:Nat} {f:Array Value->Array Value} {t':Nat} (I:Inv X pins σ H s) (hH:H l=some (.lst xs))
  (e:s.heap.get? l=some { cls:=.type "list",data:=.seq its.toArray n }) (hf:f its.toArray=its'.toArray) (hv:D7 ys its') (hz:ys.length<=sizeLine) :
  Inv X pins σ (upd H l (.lst ys)) { s with heap:=s.heap.update l (A6z f),toks:=t' }:=by
 have q:=PySem.IsL.update e f
 rw[hf] at q
 refine I.write (x:=l) (e:=l) (by rw[hH];exact trivial) (.inl rfl) (fun b' u hb hu=>(C25 s.heap (A6z f) (Ne.symm hb)).trans hu) ⟨_,q⟩ ?_
 exact⟨hz,its',_,hv,q⟩
theorem Inv.lnew {its:List Value} {t':Nat} (I:Inv X pins σ H s) (hv:D7 ys its) (hz:ys.length<=sizeLine) :
  Inv X pins σ (upd H s.heap.objs.size (.lst ys)) { s with heap:=s.heap.push { cls:=.type "list",data:=.seq its.toArray },toks:=t' }:=
 I.laid (fun _ _ q=>P6 _ q) (F3 _) ⟨hz,its,0,hv,X2 _ rfl⟩
theorem Inv.fresh (I:Inv X pins σ H s):H s.heap.objs.size=none:=I.hok.fresh (F3 _)
theorem Inv.lstM (I:Inv X pins σ H s) (hH:H l=some (.lst xs)):xs.length<=sizeLine/\∃(its:List Value) (n:Nat),D7 xs its/\xs.length=its.length/\s.heap.get? l=some { cls:=.type "list",data:=.seq its.toArray n }:=by
 obtain⟨z,its,n,r,e⟩:=I.hok l _ hH
 exact⟨z,its,n,r,r.length,e⟩
theorem C44 {n:Nat} (h:n<=sizeLine):Builtin.List.listTooLong n=false:=by
 unfold Builtin.List.listTooLong
 exact decide_eq_false (by lia)
end
section
variable {X:Cx}
def B8m:V->List V->Hp->VK->Prop:=fun x vs H Q=>∃l xs y,x=.ref l/\vs=[y]/\H l=some (.lst xs)/\xs.length < sizeLine/\Q .non (upd H l (.lst (xs++[y])))
theorem i7:MtM X "list.append" B8m:=by
 intro pins s σ H x vs v us Q I rx rv h
 obtain⟨l,xs,y,rfl,rfl,hH,hz,q⟩:=h
 cases rx
 obtain⟨u,rfl,ru⟩:=rv.one
 obtain⟨z,its,n,r,hl,e⟩:=I.lstM hH
 refine call_meets F.slot_list_append ⟨_,e,rfl⟩ F.entry_list_append (F.args_list_append_2 _ _) (PySem.list_append l its.toArray n u (by rw[O4];lia)) ⟨e,?_⟩
 refine⟨.non,_,I.lset (its':=its++[u]) hH e (by simp) (r.append (.cons ru .nil)) ?_,rfl,q⟩
 rw[M4,B2f]
 lia
def C45:V->List V->Hp->VK->Prop:=fun x vs H Q=>∃l xs,x=.ref l/\vs=[]/\H l=some (.lst xs)/\Q .non (upd H l (.lst []))
theorem A8r:MtM X "list.clear" C45:=by
 intro pins s σ H x vs v us Q I rx rv h
 obtain⟨l,xs,rfl,rfl,hH,q⟩:=h
 cases rx
 have hus:=rv.zero
 subst hus
 obtain⟨z,its,n,r,hl,e⟩:=I.lstM hH
 refine call_meets F.slot_list_clear ⟨_,e,rfl⟩ F.entry_list_clear (F.args_list_clear_1 _) (AutoSeq1.list_clear_list_0 l its.toArray n (by rw[O4];lia)) ⟨e,?_⟩
 exact⟨.non,_,I.lset (its':=[]) (ys:=[]) hH e rfl .nil (M6 _),rfl,q⟩
def C46:R2:=fun x y H Q=>∃l b xs zs,x=.ref l/\y=.ref b/\H l=some (.lst xs)/\H b=some (.lst zs)/\xs.length + zs.length<=sizeLine/\∀p,H p=none->Q (.ref p) (upd H p (.lst (xs++zs)))
theorem A97:OpR X (binaryOp .Add) C46:=by
 intro pins s σ H x y v u Q I rx ry h
 obtain⟨l,b,xs,zs,rfl,rfl,hH,hB,hz,q⟩:=h
 cases rx
 cases ry
 obtain⟨z,its,n,r,hl,e⟩:=I.lstM hH
 obtain⟨z2,its2,n2,r2,hl2,e2⟩:=I.lstM hB
 refine PySem.P.add_list e e2 ?_ (by rw[O4,O4];lia)
 have ea:its.toArray++its2.toArray=(its++its2).toArray:=by simp
 rw[ea]
 exact⟨.ref _,_,I.lnew (t':=s.toks) (r.append r2) (by rw[M4];lia),rfl,q _ I.fresh⟩
def C47:R2:=fun x y H Q=>∃l k xs,x=.ref l/\y=.int k/\H l=some (.lst xs)/\-(2 ^ 63)<=k/\k < 2 ^ 63/\xs.length * k.toNat<=sizeLine/\
 ∀p,H p=none->Q (.ref p) (upd H p (.lst (G5 k.toNat xs).flatten))
theorem C48 {α:Type} (xs:List α) (k:Nat):(G5 k xs).flatten.length=k * xs.length:=by
 induction k with
 | zero=>simp
 | succ k ih=>rw[Y4,A60,M4,ih,Nat.succ_mul,Nat.add_comm]
theorem C49:OpR X (binaryOp .Mult) C47:=by
 intro pins s σ H x y v u Q I rx ry h
 obtain⟨l,k,xs,rfl,rfl,hH,h1,h2,hz,q⟩:=h
 cases rx
 obtain⟨t,rfl⟩:=ry
 obtain⟨z,its,n,r,hl,e⟩:=I.lstM hH
 have hlen:its.toArray.size * k.toNat<=sizeLine:=by rw[O4,<-hl];exact hz
 have hcap:¬ its.toArray.size * k.toNat > (2 ^ 63 - 1) / 8:=by
  have:(sizeLine:Nat)<=(2 ^ 63 - 1) / 8:=by decide
  lia
 have hfit:¬ (!Builtin.List.listFitsIndex k)=true:=by
  rw[fitsIndex_both h1 h2]
  exact Q8
 have hlong:¬ Builtin.List.listTooLong (its.toArray.size * k.toNat)=true:=by
  rw[C44 hlen]
  exact Q8
 have hnew:List.foldl (fun x1 x2=>x1++x2) #[] (G5 (if its.toArray.isEmpty=true then 0 else k.toNat) its.toArray)=(G5 k.toNat its).flatten.toArray:=by
  have f0:∀m:Nat,List.foldl (fun x1 x2=>x1++x2) #[] (G5 m its.toArray)=(G5 m its).flatten.toArray:=fun m=>by
   have:=B8l its m []
   rw[Q9] at this
   exact this
  rw[f0]
  cases its with
  | nil=>simp
  | cons a r'=>rw[if_neg (by simp)]
 refine wpAny_binaryOp_repeat_ref (T:= "list") (U:= "int") (by decide) ⟨_,e,rfl⟩ (fun s'=>typeIs_int s' k t) noFill_list_mul F.fills_int_mul F.slot_int_rmul repeat_list F.slot_int_index.lookup
  (call_meets F.slot_int_rmul (typeIs_int s k t) F.entry_int_rmul (F.args_int_rmul_2 _ _) (int___rmul___int_list k t l its.toArray n)
   ⟨e,rfl,⟨_,e,rfl⟩,call_meets F.slot_list_mul ⟨_,e,rfl⟩ F.entry_list_mul (F.args_list_mul_2 _ _) (AutoListH.list___mul___list_int_3 l its.toArray n k t hfit hcap hlong) ⟨e,?_⟩⟩)
 rw[hnew]
 exact⟨.ref _,_,I.lnew (t':=s.toks) (r.rep k.toNat) (by rw[C48,Nat.mul_comm];exact hz),rfl,q _ I.fresh⟩
end
section
variable {prog:Program} {w:World} {A:Around} {E:Value->Shared->Prop} {s:Shared}
set_option maxRecDepth 100000 in
end
section
variable {X:Cx}
end
end L2
namespace Att
open PySem PySem.W PySem.Calls PyProof.Rows
theorem C5a {P:Params} {h:Heap}:∀(ns:List Int) (vs:List Value),WellAll P h vs (ns.map WData.int)->IntsAre vs ns:=by
 intro ns
 induction ns with
 | nil=>
  intro vs w
  rw[List.map_nil] at w
  cases w
  exact .nil
 | cons n ns ih=>
  intro vs w
  rw[n8] at w
  cases w with
  | cons a b=>
   cases a
   exact .cons _ _ (ih _ b)
theorem C5b {l:OpenLaw} {n:Nat} (hn:l.most=some n) {P:Params} {h:Heap} {args:List WData} {vals:List Value}
  (hpre:l.row.toRowW.claim.pre args=true) (hwl:WellAll P h vals args) :
  ∃a vs ns,vals=[Value.ref a]/\args=[WData.list (ns.map WData.int)]/\h.get? a=some { cls:=.type "list",data:=.seq vs.toArray }/\IntsAre vs ns/\ns.length<=n:=by
 have hsh:WShape.hasAll [] args [.list .int]=true:=(pre_splitW hpre).1
 have hc:l.pre.holds [] { args:=args }=true:=(pre_splitW hpre).2
 obtain⟨d,r,rfl,h1,h2⟩:=hasAllW_cons hsh
 obtain rfl:=hasAllW_nil h2
 obtain⟨xs,rfl,h3⟩:=hasW_list h1
 obtain⟨ns,rfl⟩:=items_int h3
 have hlen:ns.length<=n:=by
  unfold OpenLaw.pre at hc
  have h4:(WTm.not (.lt (.lit (.int (n:Int))) (.len (.arg 0)))).holds [] { args:=[.list (ns.map .int)] }=true:=by
   have h4:=(holds_andW hc).1
   rw[hn] at h4
   exact h4
  have h5:=condW_of h4 (w_not (w_lt w_lit (w_len_list (w_arg rfl))))
  rw[D5] at h5
  refine Nat.le_of_not_lt fun q=>?_
  have q':(n:Int) < ((ns.length:Nat):Int):=by lia
  first
   | (rw[decide_eq_true q'] at h5;exact absurd h5 (by decide))
   | (simp at h5;lia)
 cases hwl with
 | cons w1 w2=>
  cases w2
  cases w1 with
  | list ho hall=>exact⟨_,_,ns,rfl,rfl,ho,C5a ns _ hall,hlen⟩
theorem C5c (l:OpenLaw) (args:List WData):l.row.toRowW.claim.post args (.bool true) args=true:=
 postW_of (r:=l.row.toRowW) (X:=(true == true))
  (show WShape.has [] (.bool true) .bool=true by first | rfl | decide | simp [WShape.has,WShape.arms,WShape.armsAll])
  (show (WTm.eq .res (.lit (.bool true))).value [] { args:=args,res:=some (.bool true),after:=args }=some (.bool (true == true)) from w_eq_bool (w_res rfl) w_lit) rfl
theorem attach_call {l:OpenLaw} {n:Nat} {q:Program} {loose:List Str} {XP:(Str->Option Value)->Heap->Prop} {YP:World->Heap->Prop} {d:DefRec}
  (hn:l.most=some n) (hdf:d.params.defaults=[])
  (call:∀(w:World) (s₀ s₁:Shared) (mg mb:Str->Option Value) (fa:Addr) (o:Obj) (pm cd doc:Value) (a:Addr) (vs:List Value) (ns:List Int),
   Ground q loose [] XP w s₀ mg mb s₁.heap->YP w s₁.heap->
   s₁.heap.get? fa=some o->o.data=.func (docDef d.name d.params d.body d.scope pm cd doc)->s₁.heap.CodeRec cd d.name->mg d.name=some (.ref fa)->
   s₁.heap.get? a=some { cls:=.type "list",data:=.seq vs.toArray }->IntsAre vs ns->ns.length<=n->s₁.gens=#[]->
   codeAny (model l.prog w) callerA (.call (.ref fa) ⟨[.ref a],[]⟩) (fun r s'=>r=.ok (.ret (.bool true))/\OldK s₁.heap s'.heap/\s'.os=s₁.os/\AllBare s'.gens) s₁) :
  WalkO q loose XP YP l.row.toRowW d [] (fun f vs=>PySem.call f vs):=by
 intro w s₀ s₁ mg mb G Y fa o pm cd doc dV kV ho hd hcd hD hmg hg args vals as hpre hlay hrd hwl hlo
 obtain rfl:dV=.none:=Dflts.none hD hdf
 obtain rfl:kV=.none:=Dflts.noKw hD
 obtain⟨a,vs,ns,rfl,rfl,hobj,hints,hlen⟩:=C5b hn hpre hwl
 refine enter_call (codeAny_mono (call w s₀ s₁ mg mb fa o pm cd doc a vs ns G Y ho (fd_plain hd) hcd hmg hobj hints hlen hg) fun r s' hq=>?_)
 obtain⟨rfl,h2,h3,h4⟩:=hq
 exact⟨.inl ⟨.bool true,.bool true,[],rfl,fun _=>rfl,.bool true,C5c l _,fun _=>⟨B2g.nil,fun _ hm=>(nomatch hm)⟩⟩,h2,h3,h4⟩
section
variable {prog:Program} {w:World} {A:Around} {E:Value->Shared->Prop} {s:Shared} {K:Frag}
def D33 (h:Heap) (L d:Addr):List (Addr×Obj):=(P5 h.objs.size).filterMap fun a=>if a=L\/a=d then none else (h.get? a).map fun o=>(a,o)
end
end Att
namespace L2
open PySem PySem.Spec PyProof.Rows
theorem B8n:∀{vs:List Value} {ns:List Int},IntsAre vs ns->D7 (ns.map V.int) vs
 | _,_,.nil=>.nil
 | _,_,.cons n t h=>.cons ⟨t,rfl⟩ (B8n h)
def B3d (H:Hp):Prop:=∀b,H b=none\/∃o xs,H b=some (.frz o (.lst xs))
theorem C5d {P:Program} {w:World} {K:B3} {mg mb:Str->Option Value} {CX:CXT} {k:Nat} {fa a:Addr} {fd:FuncData} {x:Str} {sp:Sp} {s₁:Shared} {vs:List Value} {ns:List Int}
  (KX:K.In s₁.heap) (hns:s₁.heap.Ns mainGlobals mg) (hb:s₁.heap.Ns builtinsNs mb) (hbb:∀x:Str,x≠ "__name__" ->mb x=bootBuiltins x) (hlim:s₁.heap.NoLimit) (hg:s₁.gens=#[])
  (ha:s₁.heap.get? a=some { cls:=.type "list",data:=.seq vs.toArray }) (hi:IntsAre vs ns) (hl:ns.length<=sizeLine) (hr:U2 k callerA)
  (F:∀base:Heap,K.In base->base.Ns mainGlobals mg->D0 P w K mg base CX k fa fd [x] sp) (hbind:∀(s:Shared) (u:Value),BindsTo s fd ⟨[u],[]⟩ [(x,u)])
  (hsp:∀H:Hp,B3d H->SqL K H a (ns.map V.int)->sp [.ref a] H (fun v _=>v=.bl true) fun _ _ _=>False)
  (hCX:∀H e s',CX [] H s₁ (fun _ _ _=>False) e s'->False) :
  codeAny (model P w) callerA (.call (.ref fa) ⟨[.ref a],[]⟩) (fun r s'=>r=.ok (.ret (.bool true))/\OldK s₁.heap s'.heap/\s'.os=s₁.os/\AllBare s'.gens) s₁:=by
 have rv:=B8n hi
 have lenV:=hi.length
 have core:∀H:Hp,B3d H->SqL K H a (ns.map V.int)->HOk P w H s₁.heap->(∀b,H b≠none->b=a)->(H a≠none->K.lookup a=none)->
   codeAny (model P w) callerA (.call (.ref fa) ⟨[.ref a],[]⟩) (fun r s'=>r=.ok (.ret (.bool true))/\OldK s₁.heap s'.heap/\s'.os=s₁.os/\AllBare s'.gens) s₁:=by
  intro H hO hS hok hA hK
  have base_of:∀{b:Addr} {o:Obj},s₁.heap.get? b=some o->H b=none->(A1l s₁.heap H).get? b=some o:=fun e n=>C3j e n
  have noA:∀{b:Addr} {o:Obj} {es:Array DictEntry} {ep:Nat},s₁.heap.get? b=some o->o.data=.dict es ep->H b=none:=fun {b o es ep} e d=>by
   cases q:H b with
   | none=>rfl
   | some u=>
    have e':b=a:=hA b (by rw[q];simp)
    subst e'
    rw[ha] at e;cases e
    have d':Data.seq vs.toArray _=Data.dict es ep:=d
    cases d'
  have nsK:∀{b:Addr} {m:Str->Option Value},s₁.heap.Ns b m->(A1l s₁.heap H).Ns b m:=fun {b m} ⟨o,es,ep,e,d,r⟩=>⟨o,es,ep,base_of e (noA e d),d,r⟩
  have hKb:K.In (A1l s₁.heap H):=fun b o e=>base_of (KX b o e) (by
   cases q:H b with
   | none=>rfl
   | some u=>
    have e':b=a:=hA b (by rw[q];simp)
    subst e'
    rw[hK (by rw[q];simp)] at e;cases e)
  have hM:Mod K mg (A1l s₁.heap H):=⟨hKb,nsK hns,⟨mb,nsK hb,hbb⟩,let ⟨mc,h1,h2⟩:=hlim;⟨mc,nsK h1,h2⟩⟩
  have e0:A94 P w K mg (A1l s₁.heap H) callerA [] s₁ H:=⟨rfl,hM,fun b o e=>C3k e,Nat.le_of_eq (C3i _ _),trivial,fun b hb=>absurd (show b∈([]:List Addr) from hb) (by simp),hok,.of_eq hg⟩
  refine codeAny_mono ((F _ hKb (nsK hns)).run callerA [] s₁ H ⟨[.ref a],[]⟩ [.ref a] [.ref a] _ _ hr e0 (hbind s₁ (.ref a)) (.cons rfl .nil) (hsp H hO hS)) fun r s' h=>?_
  cases r with
  | error e=>exact (hCX H e s' h).elim
  | ok fl=>
   cases fl with
   | next=>exact False.elim h
   | brk=>exact False.elim h
   | cont=>exact False.elim h
   | ret u=>
    obtain⟨v,H',os,bare,un,hok',r',q⟩:=h
    have q':v=.bl true:=q
    subst q'
    obtain rfl:u=Value.bool true:=r'
    refine⟨rfl,OldK.of_keep fun b o e=>?_,os,bare⟩
    cases q:H b with
    | none=>exact un.keep b o e q (by intro z;exact absurd (show b∈([]:List Addr) from z) (by simp)) (by simp)
    | some u=>
     rcases hO b with z | ⟨ob,xs,z⟩
     ·rw[q] at z;cases z
     ·have z2:=un.frzs b ob _ z
      obtain⟨e1,_⟩:=hok b _ z
      obtain⟨e2,_⟩:=hok' b _ z2
      rw[e] at e1;cases e1
      exact e2
 cases hk:K.lookup a with
 | some o=>
  have e:=KX a o hk
  rw[ha] at e
  cases e
  refine core (fun _=>none) (fun _=>.inl rfl) (.inr ⟨_,vs.toArray,_,hk,rfl,rfl,rfl,by rw[O4,lenV];exact hl,by simpa using rv⟩) (fun b u z=>by have z':(none:Option HO)=some u:=z;cases z') (fun b z=>absurd rfl z) fun z=>absurd rfl z
 | none=>
  refine core (fun b=>if b=a then some (.frz { cls:=.type "list",data:=.seq vs.toArray } (.lst (ns.map V.int))) else none) (fun b=>?_) (.inl (.inr ⟨{ cls:=.type "list",data:=.seq vs.toArray },if_pos rfl⟩)) (fun b u z=>?_) (fun b z=>?_) fun _=>hk
  ·by_cases hb:b=a
   ·exact .inr ⟨_,_,if_pos hb⟩
   ·exact .inl (if_neg hb)
  ·by_cases hb:b=a
   ·have z':=(if_pos hb).symm.trans z
    cases z'
    subst hb
    exact⟨ha,by rw[D5];exact hl,vs,_,rv,ha⟩
   ·have z':=(if_neg hb).symm.trans z
    cases z'
  ·by_cases hb:b=a
   ·exact hb
   ·exact absurd (if_neg hb) z
theorem walk_of {l:PySem.W.OpenLaw} {n k:Nat} {q:Program} {loose:List Str} {XP:(Str->Option Value)->Heap->Prop} {YP:World->Heap->Prop} {d:DefRec} {K:Params->B3} {CX:World->CXT} {sp:World->Sp} {x:Str}
  (hn:l.most=some n) (hn2:n<=sizeLine) (hdf:d.params.defaults=[]) (hr:U2 k callerA)
  (hY:∀(w:World) (h:Heap),YP w h->(K w.params).In h)
  (F:∀(w:World) (mg:Str->Option Value) (fa:Addr) (h:Heap),(K w.params).In h->h.Ns mainGlobals mg->mg d.name=some (.ref fa)->
   ∃fd:FuncData,(∀(s:Shared) (u:Value),BindsTo s fd ⟨[u],[]⟩ [(x,u)])/\
    ∀base:Heap,(K w.params).In base->base.Ns mainGlobals mg->D0 l.prog w (K w.params) mg base (CX w) k fa fd [x] (sp w))
  (hsp:∀(w:World) (H:Hp) (a:Addr) (ns:List Int),ns.length<=n->B3d H->SqL (K w.params) H a (ns.map V.int)->sp w [.ref a] H (fun v _=>v=.bl true) fun _ _ _=>False)
  (hCX:∀(w:World) (H:Hp) (s:Shared) (e:Value) (s':Shared),CX w [] H s (fun _ _ _=>False) e s'->False) :
  PySem.W.WalkO q loose XP YP l.row.toRowW d [] (fun f vs=>PySem.call f vs):=by
 refine Att.attach_call hn hdf fun w s₀ s₁ mg mb fa o pm cd doc a vs ns G Y ho hd hcd hmg hobj hints hlen hg=>?_
 have KX:=hY w _ Y
 obtain⟨fd,hb,hF⟩:=F w mg fa _ KX G.T.g hmg
 exact C5d KX G.T.g G.T.b G.T.builtins G.T.nolimit hg hobj hints (m8 hlen hn2) hr hF hb (fun H hO hS=>hsp w H a ns hlen hO hS) fun H e s'=>hCX w H s₁ e s'
def A4w (s:Stmt):Arguments:=match s with
 | .FunctionDef _ a _ _ _ _ _ _ _ _=>a
 | _=>{ posonlyargs:=[],args:=[],vararg:=none,kwonlyargs:=[],kw_defaults:=[],kwarg:=none,defaults:=[] }
def A0y (s:Stmt):List Stmt:=match s with
 | .FunctionDef _ _ b _ _ _ _ _ _ _=>b
 | _=>[]
def C2 (s:Stmt):Scope:=match s with
 | .FunctionDef _ _ _ _ _ _ sc _ _ _=>sc
 | _=>{ kind:=.function,names:=[],isGenerator:=false,isCoroutine:=false }
abbrev CX0:CXT:=fun _ _ _ _ _ _=>False
abbrev E0:XK:=fun _ _ _=>False
theorem B5 {X:Cx}:B28 CX0 X E0:=fun _ _ _ _ _ _ _ h=>h.elim
structure Fun (K:B3) (x qual:Str) (st:Stmt) (f:Addr) (fd:FuncData):Prop where
 ex:∃(oc:Value) (od:Option Addr) (kV doc pm:Value) (an:Option Addr) (cdv ct:Value) (osl:Array (Option Value)),
  fd=A4n x qual (A4w st) (A0y st) (C2 st) .none kV doc pm an cdv ct/\K.lookup f=some ⟨oc,od,.func fd,osl⟩/\B66 K cdv qual=true
 kp:B64 K (.ref f)=true
section
variable {P:Program} {w:World} {K:B3} {mg:Str->Option Value} {base:Heap}
theorem Fun.ok {x qual:Str} {st:Stmt} {f:Addr} {fd:FuncData} {N ps:List Str} {k:Nat} {sp:Sp} (F:Fun K x qual st f fd) (S:E1 N ps (C2 st)) (len:∀vs H Q E,sp vs H Q E->vs.length=ps.length)
  (hbody:∀(cdv:Value) (A:Around) (outer:List Env) (s:Shared) (H:Hp) (vs:List V) (Q:VK) (E:XK),U2 k (A.deeper (envOfC qual (C2 st) s.heap.objs.size f cdv))->sp vs H Q E->
   ∃t,PSs (X8 CX0 P w K mg base N qual (C2 st) f cdv A outer s H E).nox (A0y st) t/\t { nx:=fun _ H'=>Q .non H',rt:=Q } (start N vs) H):D0 P w K mg base CX0 (k + 1) f fd ps sp:=by
 obtain⟨oc,od,kV,doc,pm,an,cdv,ct,osl,rfl,lk,hcd⟩:=F.ex
 refine C4q lk hcd S len fun A outer s H vs Q E hr hsp=>?_
 obtain⟨t,h,q⟩:=hbody cdv A outer s H vs Q E hr hsp
 exact⟨t,h.nox,q⟩
theorem Fun.binds {x qual:Str} {st:Stmt} {f:Addr} {fd:FuncData} {ps:List Str} (F:Fun K x qual st f fd)
  (h:∀(kV doc pm:Value) (an:Option Addr) (cdv ct:Value) (us:List Value),us.length=ps.length->bindArgs (A4n x qual (A4w st) (A0y st) (C2 st) .none kV doc pm an cdv ct) ⟨us,[]⟩=pure (ps.zip us)):A7d K fd ps []:=by
 obtain⟨oc,od,kV,doc,pm,an,cdv,ct,osl,rfl,lk,hcd⟩:=F.ex
 exact .all (h kV doc pm an cdv ct)
theorem C5e {x qual:Str} {st:Stmt} {f:Addr} {oc:Value} {od an:Option Addr} {osl:Array (Option Value)} {kV doc pm cdv ct:Value} (l:K.lookup f=some ⟨oc,od,.func (A4n x qual (A4w st) (A0y st) (C2 st) .none kV doc pm an cdv ct),osl⟩)
  (c:B66 K cdv qual=true) (k:B64 K (.ref f)=true):Fun K x qual st f (A4n x qual (A4w st) (A0y st) (C2 st) .none kV doc pm an cdv ct):=⟨⟨oc,od,kV,doc,pm,an,cdv,ct,osl,rfl,l,c⟩,k⟩
end
theorem A7e {n:Nat} (h:n<=1000):n < sizeLine:=Nat.lt_of_le_of_lt h (by decide)
section
variable {X:Cx}
theorem pv (i:Nat) {x:Str} {pos:Pos} (hN:X.N[i]?=some x:=by rfl) (hv:Vis X.env.scope x:=by first | exact A8 rfl | exact f8 (A8 rfl) | exact f8 (f8 rfl)) (hd:(x == ("__debug__" : Str))=false:=by decide)
  (hcd:(x == ("__classdict__" : Str))=false:=by decide):PE X (.Name x pos) (X4 i):=C3m hN hv hd hcd
end
theorem G6 {A B:Prop} (h:B):if false=true then A else B:=by
 rw[if_neg Q8]
 exact h
theorem J0 {A B:Prop} (h:A):if true=true then A else B:=by
 rw[if_pos rfl]
 exact h
theorem A7f {c A B:Prop} [Decidable c] (h1:c->A) (h2:¬ c->B):if c then A else B:=by
 by_cases h:c
 ·rw[if_pos h]
  exact h1 h
 ·rw[if_neg h]
  exact h2 h
def Same (H H':Hp):Prop:=∀b o,H b=some o->H' b=some o
theorem Same.refl (H:Hp):Same H H:=fun _ _ h=>h
end L2
set_option maxHeartbeats 4000000
namespace L2
open PySem PySem.Spec PyProof.Rows
def N4 (cells:List (Str×Addr)):List (Str×NameKind)->List (Str×Addr)->List (Str×Addr)
 | [],cs=>cs
 | (n,k)::r,cs=>N4 cells r (if k == .free then (n,(cells.lookup n).getD 0)::cs else cs)
theorem A98 {scope:Scope} {env:Env} (h:∀y∈scope.names,y.2=.free->∃c,env.cells.lookup y.1=some c):closureFor scope env=pure (N4 env.cells scope.names []):=by
 have key:∀(l:List (Str×NameKind)) (cs:List (Str×Addr)),(∀y∈l,y.2=.free->∃c,env.cells.lookup y.1=some c)->
   (forIn l cs fun (x:Str×NameKind) (r:List (Str×Addr))=>if (x.2 == NameKind.free)=true then do let a <-cellOf env x.1;pure (ForInStep.yield ((x.1,a)::r)) else pure (ForInStep.yield r):Sem (List (Str×Addr)))=pure (N4 env.cells l cs):=by
  intro l
  induction l with
  | nil=>intro cs _;rfl
  | cons y r ih=>
   intro cs hl
   obtain⟨n,k⟩:=y
   rw[List.forIn_cons]
   by_cases hk:k=.free
   ·subst hk
    obtain⟨c,hc⟩:=hl (n,.free) C0 rfl
    have hc':env.cells.lookup n=some c:=hc
    have e1:cellOf env n=pure c:=by unfold cellOf;rw[hc']
    simp only[beq_self_eq_true,if_true,e1,pure_bind]
    rw[ih _ fun z hz=>hl z (B6 _ hz)]
    show _=pure (N4 env.cells r (if (NameKind.free == NameKind.free)=true then (n,(env.cells.lookup n).getD 0)::cs else cs))
    rw[hc']
    rfl
   ·have hb:(k == NameKind.free)=false:=by simpa using hk
    simp only[hb,A9q,if_false,pure_bind]
    rw[ih _ fun z hz=>hl z (B6 _ hz)]
    show _=pure (N4 env.cells r (if (k == NameKind.free)=true then (n,(env.cells.lookup n).getD 0)::cs else cs))
    rw[hb]
    rfl
 have k2:=key scope.names [] h
 have e:closureFor scope env=((forIn scope.names [] fun (x:Str×NameKind) (r:List (Str×Addr))=>if (x.2 == NameKind.free)=true then do let a <-cellOf env x.1;pure (ForInStep.yield ((x.1,a)::r)) else pure (ForInStep.yield r):Sem (List (Str×Addr))) >>= fun cs=>pure cs):=rfl
 rw[e,k2]
 rfl
theorem A99 {cells:List (Str×Addr)}:∀{l:List (Str×NameKind)} {cs:List (Str×Addr)},(∀y∈l,y.2=.free->∃c,cells.lookup y.1=some c)->(∀x c,cs.lookup x=some c->cells.lookup x=some c)->
  ∀x c,(N4 cells l cs).lookup x=some c->cells.lookup x=some c
 | [],_,_,h,x,c,e=>h x c e
 | (n,k)::r,cs,hl,h,x,c,e=>by
  unfold N4 at e
  refine A99 (l:=r) (fun z hz=>hl z (B6 _ hz)) (fun y d q=>?_) x c e
  split at q
  ·rename_i hk
   obtain⟨c0,hc0⟩:=hl (n,k) C0 (by simpa using hk)
   have hc0':cells.lookup n=some c0:=hc0
   rw[hc0'] at q
   rw[Z7] at q
   split at q
   ·rename_i hb
    have:=eq_of_beq hb
    subst this
    rw[hc0']
    exact q
   ·exact h y d q
  ·exact h y d q
theorem B8o {cells:List (Str×Addr)} {x:Str}:∀{l:List (Str×NameKind)} {cs:List (Str×Addr)},(∃c,cs.lookup x=some c)->∃c,(N4 cells l cs).lookup x=some c
 | [],_,h=>h
 | (n,k)::r,cs,h=>by
  unfold N4
  refine B8o (l:=r) ?_
  split
  ·rw[Z7]
   split
   ·exact⟨_,rfl⟩
   ·exact h
  ·exact h
theorem A4x {cells:List (Str×Addr)} {x:Str}:∀{l:List (Str×NameKind)} {cs:List (Str×Addr)},(x,NameKind.free)∈l->∃c,(N4 cells l cs).lookup x=some c
 | (n,k)::r,cs,h=>by
  unfold N4
  rcases N1.mp h with e | h
  ·injection e with e1 e2
   subst e1 e2
   refine B8o (l:=r) ?_
   simp only[beq_self_eq_true,if_true]
   rw[Z7]
   simp
  ·exact A4x (l:=r) h
structure CA where
 s:Shared
 H:Hp
 C:Addr
 fp:List Addr
abbrev L8 (X:Cx) (scope:Scope) (N':List Str) (a:CA):Cx where
 prog:=X.prog
 w:=X.w
 K:=X.K
 mg:=X.mg
 base:=X.base
 A:=X.A
 N:=N'
 s₀:=a.s
 H₀:=a.H
 env:=compEnvC scope (N4 X.env.cells scope.names []) a.C X.env
 outer:=X.stack
 stack:=X.stack
 ex:=a.fp
 fn:=fun _=>false
 calm:=X.calm
 pn:=[]
 xe:=fun _ _=>False
structure N5 (N N':List Str) (osc scope:Scope) (j:Nat) (x:Str):Prop where
 nd:N'.Nodup
 at_:N'[j]?=some x
 sub:∀(i:Nat) y,i≠j->N'[i]?=some y->N[i]?=some y
 len:N'.length<=N.length + 1
 kind:scope.kind=.function
 cell:∀y∈scope.names,y.2≠.cell
 names:∀y∈scope.names,y.2=.local->scope.names.lookup y.1=some .local
 only:∀y∈scope.names,y.2=.local->y.1=x\/y.1∉N'
 loc:scope.names.lookup x=some .local
 okind:osc.kind=.function
 free:∀y∈scope.names,y.2=.free->osc.names.lookup y.1=some .cell
def B8p (N:List Str) (osc scope:Scope) (x:Str):Bool:=
 decide (N++[x]).Nodup&&decide (scope.kind=.function)&&decide (osc.kind=.function)&&(scope.names.lookup x == some .local)&&
  scope.names.all fun y=>match y.2 with
   | .cell=>false
   | .local=>scope.names.lookup y.1 == some .local&&(y.1 == x||!((N++[x]).contains y.1))
   | .free=>osc.names.lookup y.1 == some .cell
   | _=>true
theorem N5.new {N:List Str} {osc scope:Scope} {x:Str} (h:B8p N osc scope x=true):N5 N (N++[x]) osc scope N.length x:=by
 unfold B8p at h
 simp only[U7,decide_eq_true_eq,B68,beq_iff_eq] at h
 obtain⟨⟨⟨⟨h1,h2⟩,h3⟩,h4⟩,h5⟩:=h
 refine⟨h1,by simp,fun i y ne e=>?_,by simp,h2,fun y hy e=>?_,fun y hy e=>?_,fun y hy e=>?_,h4,h3,fun y hy e=>?_⟩
 ·by_cases hi:i < N.length
  ·rw[l6 hi] at e;exact e
  ·rw[f7 (by lia)] at e
   cases q:i - N.length with
   | zero=>exact absurd (by lia) ne
   | succ k=>rw[q] at e;simp at e
 ·have:=h5 y hy;rw[e] at this;cases this
 ·have:=h5 y hy
  rw[e] at this
  simp only[U7,beq_iff_eq] at this
  exact this.1
 ·have:=h5 y hy
  rw[e] at this
  simp only[U7,Bool.or_eq_true,beq_iff_eq,B69,B7a,decide_eq_false_iff_not] at this
  exact this.2
 ·have:=h5 y hy
  rw[e] at this
  simp only[beq_iff_eq] at this
  exact this
def O7 (n j:Nat) (σ:St):St:=((σ++[none]).take n).set j none
theorem B0a {n j i:Nat} {σ:St} {v:V} (h:(O7 n j σ)[i]?=some (some v)):i≠j/\σ[i]?=some (some v):=by
 unfold O7 at h
 by_cases e:i=j
 ·subst e
  rw[n9] at h
  simp only[if_true] at h
  split at h <;> cases h
 ·refine⟨e,?_⟩
  rw[U6 (Ne.symm e)] at h
  have h2:(σ++[none])[i]?=some (some v):=by
   by_cases hi:i < n
   ·rw[List.getElem?_take_of_lt hi] at h;exact h
   ·rw[f9 (by rw[e9];lia)] at h;cases h
  by_cases hi:i < σ.length
  ·rw[l6 hi] at h2;exact h2
  ·rw[f7 (by lia)] at h2
   cases q:i - σ.length with
   | zero=>rw[q] at h2;cases h2
   | succ k=>rw[q] at h2;cases h2
theorem B8q {n j:Nat} {σ:St} (h:n<=σ.length + 1):(O7 n j σ).length=n:=by
 unfold O7
 rw[O3,e9,M4]
 simp;lia
theorem A2s {env:Env}:∀{names:List (Str×NameKind)} {x:Str},((names.map fun (n,k)=>if (k == NameKind.free&&env.scope.kind == .function&&env.kindOf n == some .cell) then (n,NameKind.cell) else (n,k)).lookup x=some .cell\/
  (names.map fun (n,k)=>if (k == NameKind.free&&env.scope.kind == .function&&env.kindOf n == some .cell) then (n,NameKind.cell) else (n,k)).lookup x=some .free)->(∀y∈names,y.2≠.cell)->(x,NameKind.free)∈names
 | [],_,h,_=>by rcases h with h | h <;> cases h
 | (n,k)::r,x,h,hc=>by
  rw[n8] at h
  dsimp only at h
  by_cases hk:(k == NameKind.free&&env.scope.kind == .function&&env.kindOf n == some .cell)=true
  ·rw[if_pos hk] at h
   simp only[Z7] at h
   cases hx:x == n with
   | true=>
    have e:=eq_of_beq hx
    subst e
    have k':k=.free:=by
     rw[U7,U7] at hk
     simpa using hk.1.1
    subst k'
    exact C0
   | false=>
    simp only[hx] at h
    exact B6 _ (A2s h fun y hy=>hc y (B6 _ hy))
  ·rw[if_neg hk] at h
   simp only[Z7] at h
   cases hx:x == n with
   | true=>
    have e:=eq_of_beq hx
    subst e
    simp only[hx] at h
    rcases h with h | h
    ·exact absurd (Option.some.inj h) (hc (x,k) C0)
    ·have:=Option.some.inj h
     subst this
     exact C0
   | false=>
    simp only[hx] at h
    exact B6 _ (A2s h fun y hy=>hc y (B6 _ hy))
theorem A2t {env:Env}:∀{names:List (Str×NameKind)} {x:Str},(names.map fun (n,k)=>if (k == NameKind.free&&env.scope.kind == .function&&env.kindOf n == some .cell) then (n,NameKind.cell) else (n,k)).lookup x=some .local->(x,NameKind.local)∈names
 | [],_,h=>by cases h
 | (n,k)::r,x,h=>by
  rw[n8] at h
  dsimp only at h
  by_cases hk:(k == NameKind.free&&env.scope.kind == .function&&env.kindOf n == some .cell)=true
  ·rw[if_pos hk] at h
   simp only[Z7] at h
   cases hx:x == n with
   | true=>simp only[hx] at h;cases h
   | false=>
    simp only[hx] at h
    exact B6 _ (A2t h)
  ·rw[if_neg hk] at h
   simp only[Z7] at h
   cases hx:x == n with
   | true=>
    have e:=eq_of_beq hx
    subst e
    simp only[hx] at h
    have:=Option.some.inj h
    subst this
    exact C0
   | false=>
    simp only[hx] at h
    exact B6 _ (A2t h)
section
variable {X:Cx} {pins:List (Addr×Obj)} {σ:St} {H:Hp} {s:Shared}
structure Own (X:Cx) (pins:List (Addr×Obj)) (H:Hp) (C:Addr):Prop where
 no:H C=none
 ne:C≠X.env.locals
 ab:X.s₀.heap.objs.size<=C
 ce:∀x c,X.env.cells.lookup x=some c->c≠C
 pi:∀p∈X.pn++pins,p.1≠C
theorem Inv.own {C:Addr} {H':Hp} (I:Inv X pins σ H s) (h:s.heap.objs.size<=C) (hn:H' C=none):Own X pins H' C:=by
 refine⟨hn,B2c (S1 I.lt h),m8 I.sz h,fun x c e z=>?_,fun p hp z=>?_⟩
 ·obtain⟨v,q⟩:=I.cell x c e
  exact absurd (S1 q.lt (by rw[z];exact h)) (V9 _)
 ·exact absurd (S1 (G9 (I.pin p hp).1) (by rw[z];exact h)) (V9 _)
theorem Inv.own_turn {C:Addr} {h':Heap} (I:Inv X pins σ H s) (o:Own X pins H C) (hs:Heap.SameBut C s.heap h'):Inv X pins σ H { s with heap:=h' }:=
 I.turned (t':=s.toks) (fun b ob hb e=>(hs.2 b hb).trans e) o.no o.ne (.inr o.ab) o.ce o.pi
theorem Inv.track {D:Addr} {ys:List V} {its:List Value} {n:Nat} (I:Inv X pins σ H s) (o:Own X pins H D) (e:s.heap.get? D=some { cls:=.type "list",data:=.seq its.toArray n }) (r:D7 ys its) (hz:ys.length<=sizeLine) :
  Inv X pins σ (upd H D (.lst ys)) s:=by
 have nD:∀b u,H b=some u->b≠D:=fun b u q z=>by rw[z,o.no] at q;cases q
 have hok:HOk X.prog X.w (upd H D (.lst ys)) s.heap:=fun b u q=>by
  by_cases hb:b=D
  ·subst hb
   rw[E4] at q
   cases q
   exact⟨hz,its,n,r,e⟩
  ·rw[C1 hb] at q
   exact (I.hok b u q).stay (fun _ _ _ z=>z) (fun c z=>by rw[C1 (nD c _ z)];exact z) fun c xs z=>by rw[C1 (nD c _ z)];exact z
 have:=I.step (H':=upd H D (.lst ys)) (h':=s.heap) (g':=s.gens) (t':=s.toks) (d':=s.drawn) (ch:=[D]) (fun b hb=>by
   have e':b=D:=by simpa using hb
   subst e'
   exact⟨.inr o.ab,o.ne,o.ce,o.pi⟩) (fun b ob _ _ _ q _=>q) (fun b ob _ _ _ q _=>⟨ob.slots,q⟩) (fun b ob hc q z=>by rw[C1 (by simpa using hc)];exact z) (fun b ob _ q=>⟨ob,q⟩)
  (fun b xs q=>by rw[C1 (nD b _ q)];exact q) (fun b ob u q=>by rw[C1 (nD b _ q)];exact q) (fun b ps q=>⟨#[],by rw[C1 (nD b _ q),q];simp⟩) (fun m z=>z) hok I.bare
 exact this
end
section
variable {prog:Program} {w:World} {A:Around} {R:Result->Shared->Prop} {s:Shared}
theorem B3e {elt target iter:Expr} {ifs:List Expr} {scope:Scope} {pos:Pos} {it acc:Value} {env:Env} (I:Nat->Shared->Prop)
  (turn:∀n s,I n s->∀E:Value->Shared->Prop,wpAny (model prog w) A (pyNext it) (fun r s₁=>match r with
   | none=>R (.ok .next) s₁
   | some v=>wpAny (model prog w) A (letOwnedTupleGo target it v) (fun _ s₁'=>wpAny (model prog w) A (assign target env v) (fun _ s₂=>
     wpAny (model prog w) A (forIn ifs true fun c r=>if r=true then do let ok <-isTrue c env (eval c env);pure (ForInStep.yield ok) else pure (ForInStep.yield r)) (fun ok s₃=>
      if ok=true then wpAny (model prog w) A (eval elt env) (fun x s₄=>
       wpAny (model prog w) A (call (.builtin "list.append") [acc,x]) (fun _ s₅=>∃m,m < n/\I m s₅) E s₄) E s₃
      else ∃m,m < n/\I m s₃) E s₂) E s₁') E s₁) E s)
  (n:Nat) (h:I n s) :
  codeAny (model prog w) A (.compLoop (.ListComp elt [⟨target,iter,ifs,0⟩] scope pos) 0 it acc env) R s:=by
 refine codeAny_loop rfl I (fun n s hI=>?_) n h
 show wpAny _ A ((compTurn (.ListComp elt [⟨target,iter,ifs,0⟩] scope pos) 0 it acc env).onRaise (fun x=>do noteFrame x env;theTreesLotGoes x)) _ _ s
 refine wpAny_noted ?_
 rw[compTurn_list]
 refine wpAny_bind (wpAny_standAt (wpAny_bind (wpAny_mono (turn n s hI _) (fun r s₁ h₁=>?_) fun _ _ h'=>h')))
 cases r with
 | none=>exact wpAny_pure h₁
 | some v=>
  refine wpAny_bind (wpAny_mono h₁ (fun _ s₁' h₁'=>?_) fun _ _ h'=>h')
  refine wpAny_bind (wpAny_mono h₁' (fun _ s₂ h₂=>wpAny_bind (wpAny_mono h₂ (fun ok s₃ h₃=>?_) fun _ _ h'=>h')) fun _ _ h'=>h')
  cases ok with
  | false=>exact wpAny_pure ⟨rfl,h₃⟩
  | true=>
   exact wpAny_bind (wpAny_bind (wpAny_mono h₃ (fun x s₄ h₄=>wpAny_bind (wpAny_mono h₄ (fun _ s₅ h₅=>wpAny_pure (wpAny_pure ⟨rfl,h₅⟩)) fun _ _ h'=>h')) fun _ _ h'=>h'))
end
def PTs (X:Cx) (ifs:List Expr) (t:TT):Prop:=
 ∀(pins:List (Addr×Obj)) (s:Shared) (σ:St) (H:Hp) (Q:Bool->Hp->Prop),Inv X pins σ H s->t σ H Q->
  wpAny (model X.prog X.w) X.A (forIn ifs true fun c r=>if r=true then do let ok <-isTrue c X.env (eval c X.env);pure (ForInStep.yield ok) else pure (ForInStep.yield r)) (TP X pins σ Q) X.xe s
def A2u:TT:=fun _ H Q=>Q true H
theorem A2v {X:Cx}:PTs X [] A2u:=fun _ _ _ H _ I h=>wpAny_tests_nil ⟨H,I,h⟩
theorem B3f {X:Cx} {c:Expr} {t:TT} (h:PT X c t):PTs X [c] t:=fun pins s σ H Q I q=>wpAny_tests_one (h pins s σ H Q I q)
def A8s (σ:St) (n j:Nat) (tt:CA->TT) (te:CA->TE) (J:It) (H1:Hp) (Q:List V->Hp->Prop):Prop:=
 ∃W:Nat->Nat->List V->Hp->Prop,(∃m,W 0 m [] H1)/\∀i m ys H,W i m ys H->ys.length<=sizeLine/\
  ((J.stop i H/\Q ys H)\/(J.go i H/\∃N:List V->Hp->Prop,(∀ys' H',N ys' H'->∃m',m' < m/\W (i + 1) m' ys' H')/\
   ∀x H',J.yld i H x H'->∀a:CA,tt a ((O7 n j σ).set j (some x)) H' fun b H2=>if b=true then te a ((O7 n j σ).set j (some x)) H2 fun y H3=>N (ys++[y]) H3 else N ys H2))
def A1t (wi:TI) (n j:Nat) (tt:CA->TT) (te:CA->TE):TE:=fun σ H Q=>wi σ H fun J H1=>A8s σ n j tt te J H1 fun ys H2=>∀p,H2 p=none->Q (.ref p) (upd H2 p (.lst ys))
section
variable {X:Cx} {pins:List (Addr×Obj)} {σ:St} {H:Hp} {s:Shared}
theorem B8r {elt iter:Expr} {x:Str} {px pos:Pos} {ifs:List Expr} {scope:Scope} {N':List Str} {j:Nat} {tt:CA->TT} {te:CA->TE} {it:Addr} {fp:List Addr} {tn:Nat->Heap->Prop} {J:It} {Q:List V->Hp->Prop}
  {RR:Value->Addr->Result->Shared->Prop} {E:Value->Shared->Prop}
  (S:N5 X.N N' X.env.scope scope j x) (hc:X.calm=true)
  (ht:∀a:CA,PTs (L8 X scope N' a) ifs (tt a)) (he:∀a:CA,PE (L8 X scope N' a) elt (te a))
  (I:Inv X pins σ H s) (T:A1p X.prog X.w X.K (.Name x px) J fp it tn) (st:tn 0 s.heap) (f2:∀b∈fp,U0 X pins H b) (h:A8s σ N'.length j tt te J H Q)
  (hRR:∀(D C:Addr) (ys:List V) (H':Hp) (s':Shared) (m:Str->Option Value),s'.heap.Ns C m->Own X pins (upd H' D (.lst ys)) C->Inv X pins σ (upd H' D (.lst ys)) s'->H' D=none->Q ys H'->RR (.ref D) C (.ok .next) s') :
  wpAny (model X.prog X.w) X.A (newList []) (fun acc s₃=>wpAny (model X.prog X.w) X.A (newFunctionEnv scope X.env.globals (N4 X.env.cells scope.names []) [] X.env.qual none .none (some X.env)) (fun cenv s₄=>
   codeAny (model X.prog X.w) X.A (.compStart (.ListComp elt [⟨.Name x px,iter,ifs,0⟩] scope pos) 0 (.ref it) acc { cenv with scope:=relabel scope X.env }) (RR acc cenv.locals) s₄) E s₃) E s:=by
 refine wpAny_newObj_type (wpAny_newFunctionEnv S.cell (by intro y hy;simp at hy) (fun h₁ hns₁ hsb₁=>?_) S.kind)
 dsimp only at hns₁ hsb₁ ⊢
 generalize hH2:s.heap.push { cls:=.type "list",dict:=none,data:=.seq ([]:List Value).toArray }=H2 at hns₁ hsb₁ ⊢
 have hC:H2.objs.size=s.heap.objs.size + 1:=by rw[<-hH2,A8d]
 have hDC:s.heap.objs.size≠H2.objs.size:=by rw[hC];exact M5 (B2h _)
 have hCle:s.heap.objs.size<=H2.objs.size:=by rw[hC];exact A1i _
 have below:∀b,b < s.heap.objs.size->b≠H2.objs.size/\b≠s.heap.objs.size:=fun b hb=>⟨by rw[hC];exact M5 (A9r hb),M5 hb⟩
 have old:∀b o,s.heap.get? b=some o->h₁.get? b=some o:=fun b o e=>hsb₁.extBut b o (below b (G9 e)).1 (P6 _ (hH2▸P6 _ e))
 have hacc:h₁.get? s.heap.objs.size=some { cls:=.type "list",data:=.seq ([]:List Value).toArray }:=hsb₁.extBut _ _ hDC (P6 _ (hH2▸X2 _ rfl))
 have fplt:∀b∈fp,b < s.heap.objs.size:=fun b hb=>let ⟨_,e,_⟩:=T.obj 0 _ st b hb;G9 e
 have hcells:∀y∈scope.names,y.2=.free->∃c,X.env.cells.lookup y.1=some c:=fun y hy e=>I.ok.has y.1 (.inl (S.free y hy e))
 have sub:∀y c,(N4 X.env.cells scope.names []).lookup y=some c->X.env.cells.lookup y=some c:=A99 hcells (fun y c e=>by cases e)
 let a:CA:=⟨s,H,H2.objs.size,fp⟩
 have ok:(L8 X scope N' a).Ok:=by
  refine⟨I.ok.mod,S.kind,I.ok.glob,I.ok.blt,hCle,fun y z c e1 e2=>I.ok.inj y z c (sub y c e1) (sub z c e2),fun y hy=>?_,fun y c z=>?_,I.ok.hd,I.ok.frames,.inl rfl,fun b hb=>⟨(below b (fplt b hb)).1,fun y c e=>(f2 b hb).2.2.2.2.1 y c (sub y c e)⟩,I.bs,
   m8 I.ok.bsz I.sz,fun b o e hb=>?_,fun b hb z=>?_,I.stack,I.stkFree⟩
  ·exact A4x (A2s hy S.cell)
  ·cases z
  ·rcases (f2 b hb).2.2.2.1 with z | z
   ·exact I.ok.noex b o e z
   ·exact absurd (S1 (G9 (I.ok.bs b o e).1) z) (V9 _)
  ·rcases N1.mp (I.stkSub b z) with e | e
   ·exact (f2 b hb).2.1 e
   ·exact (f2 b hb).2.2.1 e
 have look:∀(h':Heap) (m':Str->Option Value),(∀y c,X.env.cells.lookup y=some c->∀v,s.heap.IsCell c v->h'.IsCell c v)->∀(i:Nat) (y:Str) (v:V),N'[i]?=some y->(O7 N'.length j σ)[i]?=some (some v)->
   Vis (relabel scope X.env) y->∃u,G3 v u/\A9w (compEnvC scope (N4 X.env.cells scope.names []) H2.objs.size X.env) h' m' y u:=by
  intro h' m' kc i y v e1 e2 e3
  obtain⟨ne,e4⟩:=B0a e2
  have e5:=S.sub i y ne e1
  have hy:(y,NameKind.free)∈scope.names:=by
   rcases e3 with e3 | e3 | e3
   ·rcases S.only _ (A2t e3) rfl with z | z
    ·exact absurd (A4r S.nd e1 (by rw[S.at_];exact congrArg some z.symm)) ne
    ·exact absurd (O2 e1) z
   ·exact A2s (.inl e3) S.cell
   ·exact A2s (.inr e3) S.cell
  have kcell:X.env.scope.names.lookup y=some .cell:=S.free _ hy rfl
  obtain⟨m0,hn0,hl0⟩:=I.loc
  obtain⟨u,r,l⟩:=hl0 i y v e5 e4 (.inr (.inl kcell))
  refine⟨u,r,.inr ⟨?_,?_⟩⟩
  ·rcases e3 with e3 | e3 | e3
   ·rcases S.only _ (A2t e3) rfl with z | z
    ·exact absurd (A4r S.nd e1 (by rw[S.at_];exact congrArg some z.symm)) ne
    ·exact absurd (O2 e1) z
   ·exact .inl e3
   ·exact .inr e3
  ·rcases l with ⟨k,_⟩ | ⟨k,c,e,z⟩
   ·have k':X.env.scope.names.lookup y=some .local:=k
    rw[kcell] at k';cases k'
   ·obtain⟨c',e'⟩:=A4x (cells:=X.env.cells) (cs:=[]) hy
    have e'':=sub y c' e'
    rw[e] at e''
    cases e''
    exact⟨c,e',kc y c e _ z⟩
 have cellOld:∀y c,X.env.cells.lookup y=some c->∀v,s.heap.IsCell c v->h₁.IsCell c v:=fun y c _ v zz232=>el2 zz232 fun o ho hd=>⟨o,old c o ho,hd⟩
 have fr0:∀b,s.heap.objs.size<=b->H b=none:=fun b hb=>I.hok.fresh hb
 have noPn:∀p,p∉(L8 X scope N' a).pn++([]:List (Addr×Obj)):=fun p hp=>by simp at hp
 have I0:Inv (L8 X scope N' a) [] (O7 N'.length j σ) H { s with heap:=h₁,toks:=s.toks + ([]:List (Str×Value)).length }:=by
  refine⟨ok,rfl,I.bare,Un.kept old,⟨_,hns₁,look h₁ _ cellOld⟩,fun y c e=>?_,fr0 _ hCle,fun y c e=>I.freeC y c (sub y c e),fun p hp=>absurd hp (noPn p),I.hok.kept old,B8q (by rw[I.len];exact S.len)⟩
  obtain⟨v,z⟩:=I.cell y c (sub y c e)
  exact⟨v,cellOld y c (sub y c e) v z⟩
 obtain⟨W,⟨m0,w0⟩,turn⟩:=h
 have loop:∀s₃:Shared,s₃={ s with heap:=h₁,toks:=s.toks + ([]:List (Str×Value)).length }->
   codeAny (model X.prog X.w) X.A (.compLoop (.ListComp elt [⟨.Name x px,iter,ifs,0⟩] scope pos) 0 (.ref it) (.ref s.heap.objs.size) (compEnvC scope (N4 X.env.cells scope.names []) H2.objs.size X.env)) (RR (.ref s.heap.objs.size) H2.objs.size) s₃:=by
  rintro s₃ rfl
  refine B3e (fun k s'=>∃(i:Nat) (ys:List V) (its:List Value) (n:Nat) (H':Hp),Inv (L8 X scope N' a) [] (O7 N'.length j σ) H' s'/\s'.heap.get? s.heap.objs.size=some { cls:=.type "list",data:=.seq its.toArray n }/\D7 ys its/\
   H' s.heap.objs.size=none/\tn i s'.heap/\(∀b∈fp,H' b=none)/\W i k ys H') ?_ m0
   ⟨0,[],[],0,H,I0,hacc,.nil,fr0 _ (F3 _),T.keep _ _ _ st fun b hb o e=>old b o e,fun b hb=>(f2 b hb).1,w0⟩
  rintro k s' ⟨i,ys,its,n,H',I',hD,rv,nD',st',fr',w'⟩ E'
  obtain⟨hz,hw⟩:=turn i k ys H' w'
  have ownD:Own (L8 X scope N' a) [] H' s.heap.objs.size:=⟨nD',hDC,F3 _,fun y c e z=>by
   obtain⟨v,q⟩:=I.cell y c (sub y c e)
   exact absurd q.lt (by rw[z];exact V9 _),fun p hp=>absurd hp (noPn p)⟩
  have fpok:∀(pl:List (Addr×Obj)) (H'':Hp),(∀b∈fp,H'' b=none)->(∀p∈pl,p.1∉fp)->∀b∈fp,U0 (L8 X scope N' a) pl H'' b:=fun pl H'' hn hpl b hb=>
   ⟨hn b hb,(below b (fplt b hb)).1,fun z=>by
    rcases N1.mp (I.stkSub b z) with e | e
    ·exact (f2 b hb).2.1 e
    ·exact (f2 b hb).2.2.1 e,.inl hb,fun y c e=>(f2 b hb).2.2.2.2.1 y c (sub y c e),fun p hp z=>by
    have hp':p∈pl:=by simpa using hp
    exact hpl p hp' (z▸hb)⟩
  have nDfp:s.heap.objs.size∉fp:=fun z=>absurd (fplt _ z) (V9 _)
  have pinD:∀p∈([(s.heap.objs.size,{ cls:=.type "list",data:=.seq its.toArray n })]:List (Addr×Obj)),s'.heap.get? p.1=some p.2/\H' p.1=none/\p.1≠(L8 X scope N' a).env.locals/\p.1∉(L8 X scope N' a).fs/\∀v,p.2.data≠.cell v:=fun p hp=>by
   have e:p=(s.heap.objs.size,{ cls:=.type "list",data:=.seq its.toArray n }):=by simpa using hp
   subst e
   refine⟨hD,nD',hDC,fun z=>?_,fun v z=>by cases z⟩
   rcases N1.mp (I.stkSub _ z) with e | e
   ·exact absurd I.lt (by rw[<-e];exact V9 _)
   ·exact I.nofs (F3 _) e
  have Ip:=I'.pins_of pinD
  have hpl:∀p∈([(s.heap.objs.size,{ cls:=.type "list",data:=.seq its.toArray n })]:List (Addr×Obj)),p.1∉fp:=fun p hp=>by
   have e:p=(s.heap.objs.size,{ cls:=.type "list",data:=.seq its.toArray n }):=by simpa using hp
   subst e
   exact nDfp
  rcases hw with ⟨stop,q⟩ | ⟨go,N,hN,step⟩
  ·refine thn (T.done (L8 X scope N' a) rfl rfl rfl hc i _ s' _ H' E' Ip (fpok _ H' fr' hpl) st' stop) fun r s4 zz233=>zz233.elim fun hr I4=>?_
   subst hr
   have hD4:=(I4.pin (s.heap.objs.size,{ cls:=.type "list",data:=.seq its.toArray n }) (by simp)).1
   have J4:Inv X pins σ H' s4:=I.call' (ch:=fp) I4.os I4.base I4.hok I4.bare fun b hb=>⟨(f2 b hb).2.2.2.1,(f2 b hb).2.1,(f2 b hb).2.2.2.2.1,(f2 b hb).2.2.2.2.2⟩
   obtain⟨m4,hn4,_⟩:=I4.loc
   have hC4:H' H2.objs.size=none:=I4.free
   exact hRR _ _ ys H' s4 m4 hn4 (I.own hCle (by rw[C1 (Ne.symm hDC)];exact hC4)) (J4.track (I.own (F3 _) nD') hD4 rv hz) nD' q
  ·refine thn (T.item (L8 X scope N' a) rfl rfl rfl hc i _ s' _ H' E' Ip (fpok _ H' fr' hpl) st' go) fun r s5 zz234=>el2 zz234 fun u hr h5=>?_
   subst hr
   refine thn h5 fun _ s6 zz235=>zz235.elim fun xv zz236=>zz236.elim fun H6 zz237=>zz237.elim fun I6 zz238=>zz238.elim fun r6 zz239=>zz239.elim fun y6 zz240=>zz240.elim fun st6 fr6=>?_
   have I6':=I6.pinned (fpok _ H6 fr6 hpl) (T.obj _ _ st6)
   refine wpAny_assign_Name (A2p I6' S.nd S.at_ (.inl (lookup_relabel_local S.loc)) r6 (fun s7 I7=>?_) (.inr (lookup_relabel_local S.loc)))
   have wk:∀(i:Nat) v,(O7 N'.length j σ)[i]?=some (some v)->((O7 N'.length j σ).set j (some xv))[i]?=some (some v):=fun i v e=>by
    rw[U6 (Ne.symm (B0a e).1)];exact e
   refine wpAny_mono (ht a _ s7 _ H6 _ I7 (step xv H6 y6 a)) (fun ok s8 zz241=>el2 zz241 fun H8 I8 q8=>?_) fun _ _ z=>z.elim
   have tnk:∀{H9:Hp} {s9:Shared} {σ9:St},Inv (L8 X scope N' a) ([(s.heap.objs.size,{ cls:=.type "list",data:=.seq its.toArray n })]++A4t fp s6.heap) σ9 H9 s9->tn (i + 1) s9.heap/\(∀b∈fp,H9 b=none)/\s9.heap.get? s.heap.objs.size=some { cls:=.type "list",data:=.seq its.toArray n }/\H9 s.heap.objs.size=none:=fun {H9 s9 σ9} I9=>by
    refine⟨T.keep _ _ _ st6 fun b hb o e=>(I9.pin (b,o) (S3 _ (S3 _ (A2r hb e)))).1,fun b hb=>?_,?_⟩
    ·obtain⟨o,e,d⟩:=T.obj _ _ st6 b hb
     exact (I9.pin (b,o) (S3 _ (S3 _ (A2r hb e)))).2.1
    ·have z:=I9.pin (s.heap.objs.size,{ cls:=.type "list",data:=.seq its.toArray n }) (S3 _ (A8c _ (by simp)))
     exact⟨z.1,z.2.1⟩
   cases ok with
   | false=>
    obtain⟨m',hm,w8⟩:∃m',m' < k/\W (i + 1) m' ys H8:=hN _ _ (by simpa using q8)
    obtain⟨t1,t2,t3,t4⟩:=tnk I8
    exact⟨m',hm,i + 1,ys,its,n,H8,(I8.pins_of (pins':=[]) fun p hp=>nomatch hp).weak (by rw[O3]) wk,t3,rv,t4,t1,t2,w8⟩
   | true=>
    have q8':=q8
    simp only[if_true] at q8'
    refine wpAny_mono (he a _ s8 _ H8 _ I8 q8') (fun u9 s9 zz242=>el5 zz242 fun v9 H9 I9 r9 q9=>?_) fun _ _ z=>z.elim
    obtain⟨m',hm,w9⟩:=hN _ _ q9
    obtain⟨t1,t2,t3,t4⟩:=tnk I9
    have hl:=rv.length
    refine append_at (hsz:=by show its.toArray.size<=sizeLine;rw[O4,<-hl];exact hz) t3 fun h' hs' hD'=>?_
    have J9:=((I9.pins_of (pins':=[]) fun p hp=>nomatch hp).weak (σ':=O7 N'.length j σ) (by rw[O3]) wk).own_turn (C:=s.heap.objs.size) ⟨t4,ownD.ne,ownD.ab,ownD.ce,ownD.pi⟩ hs'
    refine⟨m',hm,i + 1,ys++[v9],its++[u9],n + 1,H9,J9,?_,D7.append rv (.cons r9 .nil),t4,T.keep _ _ _ t1 fun b hb o e=>(hs'.2 b fun z=>nDfp (z▸hb)).trans e,t2,w9⟩
    rw[List.push_toArray] at hD'
    exact hD'
 exact codeAny_compStart_list (loop _ rfl) (T.self _ 0 _ _ _ (T.keep _ _ _ st fun b hb o e=>old b o e) (loop _ rfl))
theorem Y6 {elt iter:Expr} {x:Str} {px pos:Pos} {ifs:List Expr} {scope:Scope} {N':List Str} {j:Nat} {wi:TI} {tt:CA->TT} {te:CA->TE} {osc:Scope} {N:List Str}
  (S:N5 N N' osc scope j x) (hc:X.calm=true) (hi:PI X (.Name x px) iter wi) (ht:∀a:CA,PTs (L8 X scope N' a) ifs (tt a)) (he:∀a:CA,PE (L8 X scope N' a) elt (te a))
  (ho:X.env.scope=osc:=by rfl) (hN:X.N=N:=by rfl) (hs:∀x,foldedSetIterable iter X.env x=pure x:=by intro _;rfl):PE X (.ListComp elt [⟨.Name x px,iter,ifs,0⟩] scope pos) (A1t wi N'.length j tt te):=by
 subst ho hN
 intro pins s σ H Q I h
 rw[eval_ListComp]
 have hcells:∀y∈scope.names,y.2=.free->∃c,X.env.cells.lookup y.1=some c:=fun y hy e=>I.ok.has y.1 (.inl (S.free y hy e))
 refine wpAny_comprehension_free (use:=none) rfl hs (A98 hcells) S.kind S.names (wpAny_mono (hi pins s σ H _ I h) (fun xv s₁ h₁=>wpAny_mono h₁ (fun itv s₂ h₂=>?_) fun _ _ e=>e) fun _ _ e=>e)
 obtain⟨it,fp,tn,J,H2,rfl,I2,T,st2,f2,q2⟩:=h₂
 refine B8r (RR:=fun acc C=>compPost (model X.prog X.w) X.A X.xe none (EP X pins σ Q) acc C) S hc ht he I2 T st2 f2 q2 ?_
 intro D C ys H' s' m hn own I' hD q
 refine⟨m,hn,fun h' hs'=>⟨.ref D,_,I'.own_turn own hs',rfl,q D hD⟩⟩
theorem A4y {elt iter:Expr} {x y:Str} {px pos py spos:Pos} {ifs:List Expr} {scope:Scope} {N':List Str} {j i:Nat} {wi:TI} {tt:CA->TT} {te:CA->TE} {osc:Scope} {N:List Str}
  (nd:X.N.Nodup) (hi':X.N[i]?=some y) (hy:Loc X.env.scope y)
  (S:N5 N N' osc scope j x) (hc:X.calm=true) (hi:PI X (.Name x px) iter wi) (ht:∀a:CA,PTs (L8 X scope N' a) ifs (tt a)) (he:∀a:CA,PE (L8 X scope N' a) elt (te a))
  (hsw:swapsWith (.ListComp elt [⟨.Name x px,iter,ifs,0⟩] scope pos) (some (.Name y py)) spos.line X.env=pure true:=by rfl)
  (hf:X.fn y=true\/X.env.scope.names.lookup y=some .local:=by first | exact .inl rfl | exact .inr rfl | assumption)
  (ho:X.env.scope=osc:=by rfl) (hN:X.N=N:=by rfl) (hs:∀x,foldedSetIterable iter X.env x=pure x:=by intro _;rfl) :
  PS X (.Assign [.Name y py] (.ListComp elt [⟨.Name x px,iter,ifs,0⟩] scope pos) spos) (fun D σ H=>A1t wi N'.length j tt te σ H fun v H1=>D.nx (σ.set i (some v)) H1):=by
 subst ho hN
 intro pins s σ H D I h
 have hcells:∀y∈scope.names,y.2=.free->∃c,X.env.cells.lookup y.1=some c:=fun y hy e=>I.ok.has y.1 (.inl (S.free y hy e))
 rw[exec_Assign_Name_used _ _ _ _ hsw]
 refine wpAny_bind (wpAny_standAt (wpAny_bind ?_))
 show wpAny _ X.A (do let _ <-comprehension (.ListComp elt [⟨.Name x px,iter,ifs,0⟩] scope pos) scope X.env _ (newList []) false (eval iter X.env) (some (assign (.Name y py) X.env))) _ _ s
 refine wpAny_bind (wpAny_mono (wpAny_comprehension_free (use:=some (assign (.Name y py) X.env)) (Q:=fun _ s'=>SP X pins D .next s') rfl hs (A98 hcells) S.kind S.names
  (wpAny_mono (hi pins s σ H _ I h) (fun xv s₁ h₁=>wpAny_mono h₁ (fun itv s₂ h₂=>?_) fun _ _ e=>e) fun _ _ e=>e)) (fun _ s' hq=>wpAny_pure (wpAny_pure hq)) fun _ _ e=>e)
 obtain⟨it,fp,tn,J,H2,rfl,I2,T,st2,f2,q2⟩:=h₂
 refine B8r (RR:=fun acc C=>compPost (model X.prog X.w) X.A X.xe (some (assign (.Name y py) X.env)) (fun _ s'=>SP X pins D .next s') acc C) S hc ht he I2 T st2 f2 q2 ?_
 intro Da C ys H' s' m hn own I' hD q
 show wpAny _ X.A (assign (.Name y py) X.env (.ref Da)) _ _ _
 refine wpAny_assign_Name (B2u (v:=V.ref Da) I' nd hi' hy rfl (fun s2 I2' hsb=>?_) hf)
 obtain⟨b,hs2,hb⟩:=hsb
 have hCb:C≠b:=by
  rcases hb with rfl | hb
  ·exact own.ne
  ·exact fun z=>own.ce _ _ hb z.symm
 refine⟨m,hn.sameBut hs2 hCb,fun h' hs'=>⟨_,_,I2'.own_turn own hs',q Da hD⟩⟩
end
theorem C5f {lo:Int} {n nn j:Nat} {σ:St} {tt:CA->TT} {te:CA->TE} {H1:Hp} {Q:List V->Hp->Prop} (Pv:Nat->List V->Hp->Prop) (hz:n < sizeLine) (h0:Pv 0 [] H1) (hl:∀i ys H,i<=n->Pv i ys H->ys.length<=i)
  (hs:∀i ys H,i < n->Pv i ys H->∀a:CA,tt a ((O7 nn j σ).set j (some (.int (lo + i)))) H fun b H2=>if b=true then te a ((O7 nn j σ).set j (some (.int (lo + i)))) H2 fun y H3=>Pv (i + 1) (ys++[y]) H3 else Pv (i + 1) ys H2)
  (hd:∀ys H,Pv n ys H->Q ys H):A8s σ nn j tt te (Itr lo n) H1 Q:=by
 refine⟨fun i m ys H=>m=n - i/\i<=n/\Pv i ys H,⟨n,by simp,M6 _,h0⟩,?_⟩
 rintro i m ys H ⟨rfl,hi,p⟩
 have hy:=hl i ys H hi p
 refine⟨by lia,?_⟩
 by_cases hlt:i < n
 ·refine .inr ⟨hlt,Pv (i + 1),fun ys' H' p'=>⟨n - (i + 1),by lia,rfl,hlt,p'⟩,fun x H' y=>?_⟩
  obtain⟨e,e2⟩:=y
  subst e e2
  exact hs i ys _ hlt p
 ·have e:i=n:=by lia
  subst e
  exact .inl ⟨F3 _,hd ys H p⟩
theorem A7g {K:B3} {a0:Addr} {xs:List V} {nn j:Nat} {σ:St} {tt:CA->TT} {te:CA->TE} {H1:Hp} {Q:List V->Hp->Prop} (Pv:Nat->List V->Hp->Prop) (hz:xs.length < sizeLine) (h0:Pv 0 [] H1)
  (hl:∀i ys H,i<=xs.length->Pv i ys H->ys.length<=i/\SqL K H a0 xs)
  (hs:∀i x ys H,xs[i]?=some x->Pv i ys H->∀a:CA,tt a ((O7 nn j σ).set j (some x)) H fun b H2=>if b=true then te a ((O7 nn j σ).set j (some x)) H2 fun y H3=>Pv (i + 1) (ys++[y]) H3 else Pv (i + 1) ys H2)
  (hd:∀ys H,Pv xs.length ys H->Q ys H):A8s σ nn j tt te (Itl K a0) H1 Q:=by
 refine⟨fun i m ys H=>m=xs.length - i/\i<=xs.length/\Pv i ys H,⟨xs.length,by simp,M6 _,h0⟩,?_⟩
 rintro i m ys H ⟨rfl,hi,p⟩
 obtain⟨hy,q⟩:=hl i ys H hi p
 refine⟨by lia,?_⟩
 by_cases hlt:i < xs.length
 ·refine .inr ⟨⟨xs,xs[i],q,by simp [hlt]⟩,Pv (i + 1),fun ys' H' p'=>⟨xs.length - (i + 1),by lia,rfl,hlt,p'⟩,fun x H' y=>?_⟩
  obtain⟨e,y⟩:=y
  subst e
  exact hs i x ys _ (y xs q) p
 ·have e:i=xs.length:=by lia
  subst e
  exact .inl ⟨⟨xs,q,F3 _⟩,hd ys H p⟩
section
variable {X:Cx}
def B3g (_ j:Int):Prop:=0 < j/\j < 100000000000000000000000000000000000000000000000000000000000000
theorem B3h:OpR X (binaryOp .FloorDiv) (rI B3g fun i j=>.int (i / j)):=opI fun i j _ _ _ _ _ hc q=>by
 have h1:(0:Int) < j:=hc.1
 have h2:j < 2 ^ 250:=Int.lt_trans hc.2 (by decide)
 refine floordiv_int (by lia) (by rw[Int.fdiv_eq_ediv_of_nonneg i (by lia)];exact q) (.inl (PyProof.noPylong_of_log2 ?_))
 have h3:j.natAbs < 2 ^ 250:=by
  have:((j.natAbs:Nat):Int) < ((2 ^ 250:Nat):Int):=by
   rw[Int.natAbs_of_nonneg (Int.le_of_lt h1)]
   exact h2
  exact Int.ofNat_lt.mp this
 have h4:j.natAbs≠0:=by lia
 exact Nat.lt_trans ((Nat.log2_lt h4).mpr h3) (by decide)
theorem B3i:∀{bs:List Bool} {us:List Value},D7 (bs.map V.bl) us->LSm.BoolsAre us bs
 | [],_,.nil=>.nil
 | b::bs,_,.cons r t=>by
  cases (show _=Value.bool b from r)
  exact .cons b (B3i t)
theorem B0b (hc:X.calm=true):r8 X (.builtin "all") (fun xs H Q=>∃(p:Addr) (bs:List Bool),xs=[.ref p]/\SqL X.K H p (bs.map V.bl)/\Q (.bl (bs.all id)) H):=by
 intro pins s σ H xs us Q I r h
 obtain⟨p,bs,rfl,hq,q⟩:=h
 obtain⟨u,rfl,rx⟩:=v8 r
 cases rx
 obtain⟨its,rv,pl,hz⟩:=I.list hq
 have hb:=B3i rv
 have hl:=pl.isList
 have hlt:p < s.heap.objs.size:=by obtain⟨_,e,_⟩:=hl;exact G9 e
 refine call_all_walk (wpAny_pyIter_list hl ?_)
 refine⟨s.heap.objs.size,[s.heap.objs.size,p],[s.heap.objs.size],its.toArray.size,_,_,fun i=>(bs[i]?).getD true,rfl,Walks.list (A:=X.A.in1) (I.ok.hd hc) _ p (M5 hlt) its.toArray,
  ⟨⟨_,X2 _ rfl,rfl,rfl⟩,hl.push _⟩,fun i v s' Q' E' hP hQ=>?_,fun h' tk hk=>?_⟩
 ·obtain⟨b,e,rfl⟩:=hb.get i v (by simpa using hP)
  simp only[e,Option.getD_some] at hQ
  exact wpAny_truthy_bool hQ
 ·have e:((P5 its.toArray.size).all fun i=>(bs[i]?).getD true)=bs.all id:=by
   rw[O4,hb.length];exact LSm.range_all bs
  rw[e]
  exact⟨.bl _,H,I.kept (t':=tk) (LSm.kept_iter hk),rfl,q⟩
end
mutual
inductive i8 (K:B3) (H:Hp):V->PyData->Prop
 | non:i8 K H .non .none
 | bl (b):i8 K H (.bl b) (.bool b)
 | int (i):i8 K H (.int i) (.int i)
 | str (x):i8 K H (.str x) (.str x)
 | lst {a xs ds}:SqL K H a xs->w6 K H xs ds->i8 K H (.ref a) (.list ds)
 | tup {a xs ds}:SqT K H a xs->w6 K H xs ds->i8 K H (.ref a) (.tuple ds)
inductive w6 (K:B3) (H:Hp):List V->List PyData->Prop
 | nil:w6 K H [] []
 | cons {x xs d ds}:i8 K H x d->w6 K H xs ds->w6 K H (x::xs) (d::ds)
end
section
variable {X:Cx} {pins:List (Addr×Obj)} {σ:St} {H:Hp} {s:Shared}
mutual
theorem i8.reads (I:Inv X pins σ H s):∀{x:V} {d:PyData} {u:Value},i8 X.K H x d->G3 x u->∃as,Reads s.heap u d as
 | _,_,_,.non,r=>by cases r;exact⟨_,.none⟩
 | _,_,_,.bl b,r=>by cases r;exact⟨_,.bool b⟩
 | _,_,_,.int i,r=>by obtain⟨t,rfl⟩:=r;exact⟨_,.int i t⟩
 | _,_,_,.str x,r=>by obtain⟨t,rfl⟩:=r;exact⟨_,.str x t⟩
 | _,_,_,.lst hq hs,r=>by
  cases r
  obtain⟨its,rv,pl,hz⟩:=I.list hq
  obtain⟨as,ra⟩:=w6.reads I hs rv
  obtain⟨o,e,c,n,d⟩:=pl.isList
  exact⟨_,.list e c d (by simpa using ra)⟩
 | _,_,_,.tup hq hs,r=>by
  cases r
  obtain⟨its,rv,pl,hz⟩:=I.tuple hq
  obtain⟨as,ra⟩:=w6.reads I hs rv
  obtain⟨o,e,c,n,d⟩:=pl
  exact⟨_,.tuple e c d (by simpa using ra)⟩
theorem w6.reads (I:Inv X pins σ H s):∀{xs:List V} {ds:List PyData} {us:List Value},w6 X.K H xs ds->D7 xs us->∃as,ReadsAll s.heap us ds as
 | _,_,_,.nil,.nil=>⟨_,.nil⟩
 | _,_,_,.cons h t,.cons r rs=>by
  obtain⟨as,ra⟩:=i8.reads I h r
  obtain⟨bs,rb⟩:=w6.reads I t rs
  exact⟨_,.cons ra rb⟩
end
end
section
variable {X:Cx}
def B3j (K:B3) (neg:Bool):R2:=fun x y H Q=>∃da db,i8 K H x da/\i8 K H y db/\da.canLay0=true/\db.canLay0=true/\min da.depth db.depth<=64/\Q (.bl (if neg then !PyData.eqv da db else PyData.eqv da db)) H
theorem P2 (hu:X.A.units + 64 < cLine):OpR X (compareOp .Eq) (B3j X.K false):=by
 intro pins s σ H x y v u Q I rx ry h
 obtain⟨da,db,d1,d2,c1,c2,hd,q⟩:=h
 obtain⟨as,ra⟩:=d1.reads I rx
 obtain⟨bs,rb⟩:=d2.reads I ry
 exact SeqAt.compareEq_reads ra rb c1 c2 (by lia) ⟨.bl _,H,I,rfl,q⟩
theorem Y7 (hu:X.A.units + 64 < cLine):OpR X (compareOp .NotEq) (B3j X.K true):=by
 intro pins s σ H x y v u Q I rx ry h
 obtain⟨da,db,d1,d2,c1,c2,hd,q⟩:=h
 obtain⟨as,ra⟩:=d1.reads I rx
 obtain⟨bs,rb⟩:=d2.reads I ry
 exact SeqAt.compareNe_reads ra rb c1 c2 (by lia) ⟨.bl _,H,I,rfl,q⟩
theorem B8s:B7x X (fun o i H Q=>∃p xs j v,o=.ref p/\i=.int j/\0<=j/\SqL X.K H p xs/\atI xs j=some v/\Q v H):=by
 intro pins s σ H o i ov iv Q I r1 r2 h
 obtain⟨p,xs,j,v,rfl,rfl,h0,hq,he,q⟩:=h
 cases r1
 obtain⟨t,rfl⟩:=r2
 obtain⟨its,r,pl,hz⟩:=I.list hq
 obtain⟨k,h1,h2,h3,h4,h5⟩:=A95 he
 obtain⟨w,ew,rw'⟩:=r.get h2
 have hl:=r.length
 have hn:=A7c
 have hj:j.toNat=k:=by
  rw[seqIndex_of h0 h5] at h1
  exact Option.some.inj h1
 exact wpAny_getItem_list pl.isList h0 (by lia) (by rw[hj];simpa using ew) ⟨v,H,I,rw',q⟩
theorem i9 {st:Stmt} {t:TS} (h:PS X st t):PS X st (fun D σ H=>∃M:St->Hp->Prop,t { D with nx:=M } σ H/\∀σ' H',M σ' H'->D.nx σ' H'):=by
 intro pins s σ H D I q
 obtain⟨M,q1,q2⟩:=q
 refine thn (h pins s σ H _ I q1) fun f s' z=>?_
 cases f with
 | next=>obtain⟨σ',H',I',m⟩:=z;exact⟨σ',H',I',q2 _ _ m⟩
 | brk=>exact z
 | cont=>exact z
 | ret v=>exact z
end
theorem W1:bootBuiltins "list" = some (.type "list"):=by decide +kernel
theorem C5g:bootBuiltins "abs" = some (.builtin "abs"):=by decide +kernel
theorem j0:bootBuiltins "min" = some (.builtin "min"):=by decide +kernel
theorem B3k:bootBuiltins "max" = some (.builtin "max"):=by decide +kernel
theorem A0a:bootBuiltins "isinstance" = some (.builtin "isinstance"):=by decide +kernel
theorem A8t:bootBuiltins "int" = some (.type "int"):=by decide +kernel
theorem B8t:bootBuiltins "bool" = some (.type "bool"):=by decide +kernel
theorem B0c:bootBuiltins "all" = some (.builtin "all"):=by decide +kernel
theorem B8u:bootBuiltins "tuple" = some (.type "tuple"):=by decide +kernel
theorem Q6:bootBuiltins "len" = some (.builtin "len"):=by decide +kernel
theorem B3l:bootBuiltins "any" = some (.builtin "any"):=by decide +kernel
theorem C5h:bootBuiltins "zip" = some (.type "zip"):=by decide +kernel
theorem C5i:bootBuiltins "enumerate" = some (.type "enumerate"):=by decide +kernel
section
variable {es:List Expr} {env:Env}
theorem F4 {c j p}:starEach (.Constant c j p::es) env=(false,eval (.Constant c j p) env)::starEach es env:=by rfl
theorem A0 {c p}:starEach (.Name c p::es) env=(false,eval (.Name c p) env)::starEach es env:=by rfl
theorem F5 {a o b p}:starEach (.BinOp a o b p::es) env=(false,eval (.BinOp a o b p) env)::starEach es env:=by rfl
theorem B8v {o b p}:starEach (.UnaryOp o b p::es) env=(false,eval (.UnaryOp o b p) env)::starEach es env:=by rfl
theorem A7h {a o b p}:starEach (.Compare a o b p::es) env=(false,eval (.Compare a o b p) env)::starEach es env:=by rfl
theorem E5 {a o b p}:starEach (.Call a o b p::es) env=(false,eval (.Call a o b p) env)::starEach es env:=by rfl
theorem B0 {a o p}:starEach (.Subscript a o p::es) env=(false,eval (.Subscript a o p) env)::starEach es env:=by rfl
theorem B3m {a p}:starEach (.List a p::es) env=(false,eval (.List a p) env)::starEach es env:=by rfl
theorem A1u {a k p}:starEach (.Tuple a k p::es) env=(false,eval (.Tuple a k p) env)::starEach es env:=by rfl
theorem W2 {a b c p}:starEach (.ListComp a b c p::es) env=(false,eval (.ListComp a b c p) env)::starEach es env:=by rfl
theorem A3 {pos:Pos}:(backTo pos (starEach [] env)).any (·.1)=false:=by rfl
theorem A2 {pos:Pos} {e:Expr} (hs:starEach (e::es) env=(false,eval e env)::starEach es env) (h:(backTo pos (starEach es env)).any (·.1)=false):(backTo pos (starEach (e::es) env)).any (·.1)=false:=by
 rw[hs]
 exact h
end
section
variable {X:Cx} {pos:Pos}
def B8w (i j k:Nat) (ta:TA):TS:=fun D σ H=>ta σ H fun vs H1=>∃v w z,vs=[v,w,z]/\D.nx (((σ.set i (some v)).set j (some w)).set k (some z)) H1
theorem C5j {i0 i1 i2:Nat} {x y z:Str} {a b c:Expr} {ta:TA} {px py pz pt:Pos} {kt k2 pt2} (hc:X.calm=true) (hN:X.N.Nodup) (hi:X.N[i0]?=some x) (hj:X.N[i1]?=some y) (hk:X.N[i2]?=some z) (hij:i0≠i1) (hik:i0≠i2) (hjk:i1≠i2)
  (hx:X.env.scope.names.lookup x=some .local) (hy:X.env.scope.names.lookup y=some .local) (hz:X.env.scope.names.lookup z=some .local) (ha:PA X [a,b,c] ta)
  (hw:swappedStores [.Tuple [.Name x px,.Name y py,.Name z pz] kt pt] (.Tuple [a,b,c] k2 pt2) X.env=pure (some [x,y,z]))
  (hs:swapsWithSole [.Tuple [.Name x px,.Name y py,.Name z pz] kt pt] (.Tuple [a,b,c] k2 pt2) pos.line X.env=pure false:=by rfl) :
  PS X (.Assign [.Tuple [.Name x px,.Name y py,.Name z pz] kt pt] (.Tuple [a,b,c] k2 pt2) pos) (B8w i0 i1 i2 ta):=by
 intro pins s σ H D I h
 rw[exec_Assign_arm]
 refine wpAny_bind (wpAny_standAt ?_)
 rw[hs]
 refine wpAny_bind (wpAny_pure ?_)
 rw[if_neg (by decide)]
 refine wpAny_bind (Tuple_ (thn (ha _ pins s σ H _ I h) fun us s1 zz243=>el5 zz243 fun vs H1 I1 r1 q1=>?_))
 obtain⟨v,w,t,e1,q1⟩:=q1
 subst e1
 obtain⟨u1,u2,u3,rfl,rv,rw',rt⟩:∃u1 u2 u3,us=[u1,u2,u3]/\G3 v u1/\G3 w u2/\G3 t u3:=by
  cases r1 with
  | cons p q=>
   cases q with
   | cons p' q'=>
    cases q' with
    | cons p'' q''=>
     cases q''
     exact⟨_,_,_,rfl,p,p',p''⟩
 refine wpAny_newObj_type ?_ (by show 3<=sizeLine;decide)
 have I2:Inv X pins σ H1 { s1 with heap:=s1.heap.push { cls:=.type "tuple",data:=.seq [u1,u2,u3].toArray } }:=I1.kept (t':=s1.toks) fun b o e=>P6 _ e
 rw[hw]
 refine wpAny_bind (wpAny_pure ?_)
 show wpAny (model X.prog X.w) X.A (do rule "assign.swapped-stores";let items <-unpackItems (.ref s1.heap.objs.size) 3 none;assignInOrder [fun v=>bindName X.env z v,fun v=>bindName X.env y v,fun v=>bindName X.env x v] items.reverse;pure Flow.next) _ _ _
 refine wpAny_bind (wpAny_rule (wpAny_bind (unpackItems_tuple (items:=#[u1,u2,u3]) (I.ok.hd hc) (IsTup.new s1.heap _) fun h' hx'=>?_)))
 have I3:=I2.kept (h':=h') (t':=s1.toks) fun b o e=>hx' b o (M5 (G9 e)) e
 show wpAny _ _ (assignInOrder [fun v=>bindName X.env z v,fun v=>bindName X.env y v,fun v=>bindName X.env x v] [u3,u2,u1] >>= fun _=>pure Flow.next) _ _ _
 refine wpAny_bind (assignInOrder_cons (wpAny_bindName (A2p I3 hN hk (.inl hz) rt (fun s2 I4=>?_) (.inr hz))))
 refine assignInOrder_cons (wpAny_bindName (A2p I4 hN hj (.inl hy) rw' (fun s3 I5=>?_) (.inr hy)))
 refine assignInOrder_cons (wpAny_bindName (A2p I5 hN hi (.inl hx) rv (fun s4 I6=>assignInOrder_nil (wpAny_pure ?_)) (.inr hx)))
 have e:((σ.set i2 (some t)).set i1 (some w)).set i0 (some v)=((σ.set i0 (some v)).set i1 (some w)).set i2 (some t):=by
  rw[List.set_comm _ _ (Ne.symm hij),List.set_comm (l:=σ) _ _ (Ne.symm hik),List.set_comm _ _ (Ne.symm hjk)]
 rw[e] at I6
 exact⟨_,H1,I6,q1⟩
end
section
variable {X:Cx}
theorem C5k:OpR X (compareOp .IsNot) (fun x y H Q=>∃b c:Bool,x=.bl b/\y=.bl c/\Q (.bl (!(b == c))) H):=by
 intro pins s σ H x y v u Q I rx ry h
 obtain⟨b,c,rfl,rfl,q⟩:=h
 cases rx
 cases ry
 have e:(Value.bool b == Value.bool c)=(b == c):=by cases b <;> cases c <;> rfl
 exact wpAny_pure ⟨.bl _,H,I,rfl,by rw[e];exact q⟩
end
section
variable {X:Cx} {pins:List (Addr×Obj)} {σ:St} {H:Hp} {s:Shared} {h':Heap}
theorem Inv.turned2 {t':Nat} {e it:Addr} (I:Inv X pins σ H s) (k:∀b o,b≠e->b≠it->s.heap.get? b=some o->h'.get? b=some o) (fe:U0 X pins H e) (fi:U0 X pins H it):Inv X pins σ H { s with heap:=h',toks:=t' }:=by
 obtain⟨e0,e1,e2,e3,e4,e5⟩:=fe
 obtain⟨f0,f1,f2,f3,f4,f5⟩:=fi
 have nit:∀b u,H b=some u->b≠it:=fun b u e z=>by rw[z,f0] at e;cases e
 have nie:∀b u,H b=some u->b≠e:=fun b u q z=>by rw[z,e0] at q;cases q
 have kc:∀b o,b∉[e,it]->s.heap.get? b=some o->h'.get? b=some o:=fun b o hc q=>k b o (fun z=>hc (by simp [z])) (fun z=>hc (by simp [z])) q
 refine I.step (g':=s.gens) (d':=s.drawn) (ch:=[e,it]) (fun b hb=>?_) (fun b o _ _ hc e _=>kc b o hc e) (fun b o _ _ hc e _=>⟨o.slots,kc b o hc e⟩) (fun _ _ _ _ n=>n)
  (fun b o hc e=>⟨o,kc b o hc e⟩) (fun _ _ e=>e) (fun _ _ _ e=>e) (fun b ps e=>⟨#[],by rw[e];simp⟩) (fun m hm=>?_) (fun b u q=>?_) I.bare
 ·rcases N1.mp hb with z | z
  ·subst z;exact⟨e3,e1,e4,e5⟩
  ·have z':b=it:=by simpa using z
   subst z'
   exact⟨f3,f1,f4,f5⟩
 ·obtain⟨o,es,ep,ho,r⟩:=hm
  exact⟨o,es,ep,k _ o (Ne.symm e1) (Ne.symm f1) ho,r⟩
 ·refine (I.hok b u q).stay (fun c v hc z=>k c v ?_ ?_ z) (fun _ z=>z) fun _ _ z=>z
  ·rcases hc with z | z
   ·rw[z];exact nie b u q
   ·exact nie c _ z
  ·rcases hc with z | z
   ·rw[z];exact nit b u q
   ·exact nit c _ z
end
def Ite (K:B3) (a:Addr):It:=
 ⟨fun i H=>∃xs x,SqL K H a xs/\xs[i]?=some x,fun i H x H'=>∃p v,x=.ref p/\H p=none/\H'=upd H p (.tup [.int ((i:Nat):Int),v])/\∀xs,SqL K H a xs->xs[i]?=some v,fun i H=>∃xs,SqL K H a xs/\xs.length<=i⟩
theorem C5l {P:Program} {w:World} {K:B3} {elts:List Expr} {x1} {tpos:Pos} (a e it:Addr) (hne:e≠it):A1p P w K (.Tuple elts x1 tpos) (Ite K a) [e,it] e (fun i h=>(∃old,IsEnum h e it ((i:Nat):Int) old)/\h.IsListIter it a i) where
 mem:=by simp
 obj:=fun i h st b hb=>by
  obtain⟨⟨old,h1⟩,h2⟩:=st
  rcases N1.mp hb with z | z
  ·subst z
   exact⟨_,h1,fun v z=>by
    have z':Data.fields _=Data.cell v:=z
    cases z'⟩
  ·have z':b=it:=by simpa using z
   subst z'
   obtain⟨o,e,c,d⟩:=h2
   exact⟨o,e,fun v z=>by rw[d] at z;cases z⟩
 keep:=fun i h h' st k=>by
  obtain⟨⟨old,h1⟩,h2⟩:=st
  exact⟨⟨old,k e (by simp) _ h1⟩,h2.at fun o q=>k it (by simp) o q⟩
 item:=by
  intro X hP hw hK hc i pins s σ H E I hf st hg
  subst hP hw hK
  obtain⟨⟨old,st1⟩,st2⟩:=st
  obtain⟨xs,x,hq,hx⟩:=hg
  obtain⟨its,rv,p,hz⟩:=I.list hq
  obtain⟨u,hu,ru⟩:=rv.get hx
  have fe:=hf e (by simp)
  have fi:=hf it (by simp)
  have le:e < s.heap.objs.size:=G9 st1
  have li:it < s.heap.objs.size:=by obtain⟨_,q,_⟩:=id st2;exact G9 q
  refine wpAny_pyNext_enum_item st1 st2 p.isList (x:=u) (by simpa using hu) hne fun h' ho hit' hT hsz hk=>?_
  refine⟨_,rfl,wpAny_letOwnedTupleGo_enum ho fun h2 he2 hs2=>?_⟩
  replace hs2:Heap.SameBut e h' h2:=hs2
  have hn:H s.heap.objs.size=none:=I.hok.fresh (F3 _)
  have I1:Inv X pins σ (upd H s.heap.objs.size (.tup [.int ((i:Nat):Int),x])) { s with heap:=s.heap.push { cls:=.type "tuple",data:=.seq #[.int i s.toks,u] },toks:=s.toks }:=
   I.laid (fun b o q=>P6 _ q) (F3 _) ⟨by show 2<=sizeLine;decide,[.int i s.toks,u],.cons ⟨_,rfl⟩ (.cons ru .nil),⟨_,X2 _ rfl,rfl,_,rfl⟩⟩
  have ge:∀b,b < s.heap.objs.size->U0 X pins H b->U0 X pins (upd H s.heap.objs.size (.tup [.int ((i:Nat):Int),x])) b:=fun b hb f=>⟨by rw[C1 (M5 hb)];exact f.1,f.2⟩
  have I2:=I1.turned2 (h':=h2) (t':=s.toks + 1) (e:=e) (it:=it) (fun b o n1 n2 q=>by
   rw[hs2.2 b n1]
   rcases Heap.get?_push_cases q with ⟨z,z2⟩ | q
   ·subst z z2
    exact hT
   ·exact hk b o n1 n2 q) (ge e le fe) (ge it li fi)
  refine⟨.ref s.heap.objs.size,_,I2,rfl,⟨_,x,rfl,hn,rfl,fun ys hy=>by rw[I.list_inj hy hq];exact hx⟩,⟨⟨u,he2⟩,hit'.at fun o q=>(hs2.2 it hne.symm).trans q⟩,fun b hb=>?_⟩
  rcases N1.mp hb with z | z
  ·subst z;exact (ge b le fe).1
  ·have z':b=it:=by simpa using z
   subst z'
   exact (ge b li fi).1
 done:=by
  intro X hP hw hK hc i pins s σ H E I hf st hg
  subst hP hw hK
  obtain⟨⟨old,st1⟩,st2⟩:=st
  obtain⟨xs,hq,hx⟩:=hg
  obtain⟨its,rv,p,hz⟩:=I.list hq
  have hl:=rv.length
  exact wpAny_pyNext_enum_end (I.ok.hd hc) st1 st2 p.isList (by simp;lia) fun h' eb=>⟨rfl,I.turned2 (t':=s.toks) (fun b o n1 n2 q=>eb b o n2 q) (hf e (by simp)) (hf it (by simp))⟩
 self:=fun _ _ _ _ _ st h=>by
  obtain⟨⟨old,st1⟩,_⟩:=st
  exact wpAny_pyIter_enum st1 h
section
variable {X:Cx}
def B3n (K:B3) (ta:TA):TI:=fun σ H R=>ta σ H fun vs H1=>∃a,vs=[.ref a]/\(∃xs,SqL K H1 a xs)/\R (Ite K a) H1
theorem B0d {elts:List Expr} {x1} {tpos:Pos} {a:Expr} {ta:TA} {p pos:Pos} (hg:Gl X "enumerate") (hm:X.mg "enumerate" = none) (ha:PA X [a] ta) (hs:starEach [a] X.env=[(false,eval a X.env)]:=by rfl):PI X (.Tuple elts x1 tpos) (.Call (.Name "enumerate" p) [a] [] pos) (B3n X.K ta):=by
 intro pins s σ H R I h
 refine Call_ (A1n I hg hm C5i (PyProof.Rows.callWith_type1 (thn (ha pos pins s σ H _ I h) fun us s1 zz244=>el5 zz244 fun vs H1 I1 r1 q1=>?_) hs rfl))
 obtain⟨a',e,⟨xs,hq⟩,q⟩:=q1
 subst e
 obtain⟨u,rfl,rx⟩:=v8 r1
 cases rx
 obtain⟨its,rv,pl,hz⟩:=I1.list hq
 refine call_enumerate_list pl.isList fun h' he hit hsz hk=>?_
 refine wpAny_pyIter_enum (s:={ s1 with heap:=h' }) he ?_
 have I2:Inv X pins σ H1 { s1 with heap:=h' }:=I1.kept (t':=s1.toks) hk
 refine⟨_,[s1.heap.objs.size + 1,s1.heap.objs.size],_,_,H1,rfl,I2,C5l a' _ _ (B2c (B2h _)),⟨⟨.none,he⟩,hit⟩,fun b hb=>?_,q⟩
 rcases N1.mp hb with z | z
 ·subst z;exact I1.fpOk (A1i _) (I1.hok.fresh (A1i _))
 ·have z':b=s1.heap.objs.size:=by simpa using z
  subst z'
  exact I1.fpOk (F3 _) (I1.hok.fresh (F3 _))
theorem C5m {st:Stmt}:PS X st (fun _ _ _=>False):=fun _ _ _ _ _ _ h=>h.elim
end
structure A2w (N N':List Str) (osc scope:Scope) (x y:Str):Prop where
 eqN:N'=N++[x,y]
 nd:N'.Nodup
 kind:scope.kind=.function
 cell:∀z∈scope.names,z.2≠.cell
 names:∀z∈scope.names,z.2=.local->scope.names.lookup z.1=some .local
 only:∀z∈scope.names,z.2=.local->z.1=x\/z.1=y\/z.1∉N'
 locx:scope.names.lookup x=some .local
 locy:scope.names.lookup y=some .local
 free:∀z∈scope.names,z.2=.free->osc.names.lookup z.1=some .cell
def B8x (N:List Str) (osc scope:Scope) (x y:Str):Bool:=
 decide (N++[x,y]).Nodup&&decide (scope.kind=.function)&&(scope.names.lookup x == some .local)&&(scope.names.lookup y == some .local)&&
  scope.names.all fun z=>match z.2 with
   | .cell=>false
   | .local=>scope.names.lookup z.1 == some .local&&(z.1 == x||(z.1 == y||!((N++[x,y]).contains z.1)))
   | .free=>osc.names.lookup z.1 == some .cell
   | _=>true
theorem A2w.new {N:List Str} {osc scope:Scope} {x y:Str} (h:B8x N osc scope x y=true):A2w N (N++[x,y]) osc scope x y:=by
 unfold B8x at h
 simp only[U7,decide_eq_true_eq,B68,beq_iff_eq] at h
 obtain⟨⟨⟨⟨h1,h2⟩,h3⟩,h4⟩,h5⟩:=h
 refine⟨rfl,h1,h2,fun y hy e=>?_,fun y hy e=>?_,fun y hy e=>?_,h3,h4,fun y hy e=>?_⟩
 ·have:=h5 y hy;rw[e] at this;cases this
 ·have:=h5 y hy
  rw[e] at this
  simp only[U7,beq_iff_eq] at this
  exact this.1
 ·have:=h5 y hy
  rw[e] at this
  simp only[U7,Bool.or_eq_true,beq_iff_eq,B69,B7a,decide_eq_false_iff_not] at this
  exact this.2
 ·have:=h5 y hy
  rw[e] at this
  simp only[beq_iff_eq] at this
  exact this
def j1 (σ:St):St:=σ++[none,none]
theorem B8y {i:Nat} {σ:St} {v:V} (h:(j1 σ)[i]?=some (some v)):i < σ.length/\σ[i]?=some (some v):=by
 unfold j1 at h
 by_cases hi:i < σ.length
 ·rw[l6 hi] at h;exact⟨hi,h⟩
 ·rw[f7 (by lia)] at h
  match q:i - σ.length with
  | 0=>rw[q] at h;cases h
  | 1=>rw[q] at h;cases h
  | n + 2=>rw[q] at h;simp at h
def B8z (K:B3) (σ:St) (tt:CA->TT) (te:CA->TE) (J:It) (H1:Hp) (Q:List V->Hp->Prop):Prop:=
 ∃W:Nat->Nat->List V->Hp->Prop,(∃m,W 0 m [] H1)/\∀i m ys H,W i m ys H->ys.length<=sizeLine/\
  ((J.stop i H/\Q ys H)\/(J.go i H/\∃N:List V->Hp->Prop,(∀ys' H',N ys' H'->∃m',m' < m/\W (i + 1) m' ys' H')/\
   ∀x H',J.yld i H x H'->∀a:CA,∃p v1 v2,x=.ref p/\SqT K H' p [v1,v2]/\tt a (σ++[some v1,some v2]) H' fun b H2=>if b=true then te a (σ++[some v1,some v2]) H2 fun y H3=>N (ys++[y]) H3 else N ys H2))
def B3o (K:B3) (wi:TI) (tt:CA->TT) (te:CA->TE):TE:=fun σ H Q=>wi σ H fun J H1=>B8z K σ tt te J H1 fun ys H2=>∀p,H2 p=none->Q (.ref p) (upd H2 p (.lst ys))
section
variable {X:Cx} {pins:List (Addr×Obj)} {σ:St} {H:Hp} {s:Shared}
theorem C5n {N':List Str} {scope:Scope} {x y:Str} {px py pt:Pos} {kt} (S:A2w X.N N' X.env.scope scope x y) (hc:X.calm=true) (a:CA) :
  PG (L8 X scope N' a) (.Tuple [.Name x px,.Name y py] kt pt) (A67 X.K 2 (X5 (R6 X.N.length) (X5 (R6 (X.N.length + 1)) A4s))):=by
 have qx:N'[X.N.length]?=some x:=by rw[S.eqN,f7 (F3 _)];simp
 have qy:N'[X.N.length + 1]?=some y:=by rw[S.eqN,f7 (A1i _)];simp
 exact A0w (X:=L8 X scope N' a) (n:=2) hc (N2 (J2 S.nd qx (.inl (lookup_relabel_local S.locx)) (.inr (lookup_relabel_local S.locx))) (N2 (J2 S.nd qy (.inl (lookup_relabel_local S.locy)) (.inr (lookup_relabel_local S.locy))) p8))
theorem C5o {elt iter:Expr} {x y2:Str} {px py pt pos:Pos} {kt} {ifs:List Expr} {scope:Scope} {N':List Str} {tt:CA->TT} {te:CA->TE} {it:Addr} {fp:List Addr} {tn:Nat->Heap->Prop} {J:It} {Q:List V->Hp->Prop}
  {RR:Value->Addr->Result->Shared->Prop} {E:Value->Shared->Prop}
  (S:A2w X.N N' X.env.scope scope x y2) (hc:X.calm=true)
  (ht:∀a:CA,PTs (L8 X scope N' a) ifs (tt a)) (he:∀a:CA,PE (L8 X scope N' a) elt (te a))
  (I:Inv X pins σ H s) (T:A1p X.prog X.w X.K (.Tuple [.Name x px,.Name y2 py] kt pt) J fp it tn) (st:tn 0 s.heap) (f2:∀b∈fp,U0 X pins H b) (h:B8z X.K σ tt te J H Q)
  (hRR:∀(D C:Addr) (ys:List V) (H':Hp) (s':Shared) (m:Str->Option Value),s'.heap.Ns C m->Own X pins (upd H' D (.lst ys)) C->Inv X pins σ (upd H' D (.lst ys)) s'->H' D=none->Q ys H'->RR (.ref D) C (.ok .next) s') :
  wpAny (model X.prog X.w) X.A (newList []) (fun acc s₃=>wpAny (model X.prog X.w) X.A (newFunctionEnv scope X.env.globals (N4 X.env.cells scope.names []) [] X.env.qual none .none (some X.env)) (fun cenv s₄=>
   codeAny (model X.prog X.w) X.A (.compStart (.ListComp elt [⟨.Tuple [.Name x px,.Name y2 py] kt pt,iter,ifs,0⟩] scope pos) 0 (.ref it) acc { cenv with scope:=relabel scope X.env }) (RR acc cenv.locals) s₄) E s₃) E s:=by
 refine wpAny_newObj_type (wpAny_newFunctionEnv S.cell (by intro y hy;simp at hy) (fun h₁ hns₁ hsb₁=>?_) S.kind)
 dsimp only at hns₁ hsb₁ ⊢
 generalize hH2:s.heap.push { cls:=.type "list",dict:=none,data:=.seq ([]:List Value).toArray }=H2 at hns₁ hsb₁ ⊢
 have hC:H2.objs.size=s.heap.objs.size + 1:=by rw[<-hH2,A8d]
 have hDC:s.heap.objs.size≠H2.objs.size:=by rw[hC];exact M5 (B2h _)
 have hCle:s.heap.objs.size<=H2.objs.size:=by rw[hC];exact A1i _
 have below:∀b,b < s.heap.objs.size->b≠H2.objs.size/\b≠s.heap.objs.size:=fun b hb=>⟨by rw[hC];exact M5 (A9r hb),M5 hb⟩
 have old:∀b o,s.heap.get? b=some o->h₁.get? b=some o:=fun b o e=>hsb₁.extBut b o (below b (G9 e)).1 (P6 _ (hH2▸P6 _ e))
 have hacc:h₁.get? s.heap.objs.size=some { cls:=.type "list",data:=.seq ([]:List Value).toArray }:=hsb₁.extBut _ _ hDC (P6 _ (hH2▸X2 _ rfl))
 have fplt:∀b∈fp,b < s.heap.objs.size:=fun b hb=>let ⟨_,e,_⟩:=T.obj 0 _ st b hb;G9 e
 have hcells:∀y∈scope.names,y.2=.free->∃c,X.env.cells.lookup y.1=some c:=fun y hy e=>I.ok.has y.1 (.inl (S.free y hy e))
 have sub:∀y c,(N4 X.env.cells scope.names []).lookup y=some c->X.env.cells.lookup y=some c:=A99 hcells (fun y c e=>by cases e)
 let a:CA:=⟨s,H,H2.objs.size,fp⟩
 have ok:(L8 X scope N' a).Ok:=by
  refine⟨I.ok.mod,S.kind,I.ok.glob,I.ok.blt,hCle,fun y z c e1 e2=>I.ok.inj y z c (sub y c e1) (sub z c e2),fun y hy=>?_,fun y c z=>?_,I.ok.hd,I.ok.frames,.inl rfl,fun b hb=>⟨(below b (fplt b hb)).1,fun y c e=>(f2 b hb).2.2.2.2.1 y c (sub y c e)⟩,I.bs,
   m8 I.ok.bsz I.sz,fun b o e hb=>?_,fun b hb z=>?_,I.stack,I.stkFree⟩
  ·exact A4x (A2s hy S.cell)
  ·cases z
  ·rcases (f2 b hb).2.2.2.1 with z | z
   ·exact I.ok.noex b o e z
   ·exact absurd (S1 (G9 (I.ok.bs b o e).1) z) (V9 _)
  ·rcases N1.mp (I.stkSub b z) with e | e
   ·exact (f2 b hb).2.1 e
   ·exact (f2 b hb).2.2.1 e
 have look:∀(h':Heap) (m':Str->Option Value),(∀y c,X.env.cells.lookup y=some c->∀v,s.heap.IsCell c v->h'.IsCell c v)->∀(i:Nat) (y:Str) (v:V),N'[i]?=some y->(j1 σ)[i]?=some (some v)->
   Vis (relabel scope X.env) y->∃u,G3 v u/\A9w (compEnvC scope (N4 X.env.cells scope.names []) H2.objs.size X.env) h' m' y u:=by
  intro h' m' kc i y v e1 e2 e3
  obtain⟨hlt,e4⟩:=B8y e2
  rw[I.len] at hlt
  have e5:X.N[i]?=some y:=by
   rw[S.eqN,l6 hlt] at e1
   exact e1
  have nx:y≠x:=fun z=>by
   have q:N'[X.N.length]?=some x:=by rw[S.eqN,f7 (F3 _)];simp
   exact absurd (A4r S.nd e1 (by rw[z];exact q)) (M5 hlt)
  have ny:y≠y2:=fun z=>by
   have q:N'[X.N.length + 1]?=some y2:=by rw[S.eqN,f7 (A1i _)];simp
   exact absurd (A4r S.nd e1 (by rw[z];exact q)) (M5 (A9r hlt))
  have hy:(y,NameKind.free)∈scope.names:=by
   rcases e3 with e3 | e3 | e3
   ·rcases S.only _ (A2t e3) rfl with z | z | z
    ·exact absurd z nx
    ·exact absurd z ny
    ·exact absurd (O2 e1) z
   ·exact A2s (.inl e3) S.cell
   ·exact A2s (.inr e3) S.cell
  have kcell:X.env.scope.names.lookup y=some .cell:=S.free _ hy rfl
  obtain⟨m0,hn0,hl0⟩:=I.loc
  obtain⟨u,r,l⟩:=hl0 i y v e5 e4 (.inr (.inl kcell))
  refine⟨u,r,.inr ⟨?_,?_⟩⟩
  ·rcases e3 with e3 | e3 | e3
   ·rcases S.only _ (A2t e3) rfl with z | z | z
    ·exact absurd z nx
    ·exact absurd z ny
    ·exact absurd (O2 e1) z
   ·exact .inl e3
   ·exact .inr e3
  ·rcases l with ⟨k,_⟩ | ⟨k,c,e,z⟩
   ·have k':X.env.scope.names.lookup y=some .local:=k
    rw[kcell] at k';cases k'
   ·obtain⟨c',e'⟩:=A4x (cells:=X.env.cells) (cs:=[]) hy
    have e'':=sub y c' e'
    rw[e] at e''
    cases e''
    exact⟨c,e',kc y c e _ z⟩
 have cellOld:∀y c,X.env.cells.lookup y=some c->∀v,s.heap.IsCell c v->h₁.IsCell c v:=fun y c _ v zz245=>el2 zz245 fun o ho hd=>⟨o,old c o ho,hd⟩
 have fr0:∀b,s.heap.objs.size<=b->H b=none:=fun b hb=>I.hok.fresh hb
 have noPn:∀p,p∉(L8 X scope N' a).pn++([]:List (Addr×Obj)):=fun p hp=>by simp at hp
 have I0:Inv (L8 X scope N' a) [] (j1 σ) H { s with heap:=h₁,toks:=s.toks + ([]:List (Str×Value)).length }:=by
  refine⟨ok,rfl,I.bare,Un.kept old,⟨_,hns₁,look h₁ _ cellOld⟩,fun y c e=>?_,fr0 _ hCle,fun y c e=>I.freeC y c (sub y c e),fun p hp=>absurd hp (noPn p),I.hok.kept old,by rw[S.eqN];unfold j1;rw[M4,M4,I.len];rfl⟩
  obtain⟨v,z⟩:=I.cell y c (sub y c e)
  exact⟨v,cellOld y c (sub y c e) v z⟩
 obtain⟨W,⟨m0,w0⟩,turn⟩:=h
 have loop:∀s₃:Shared,s₃={ s with heap:=h₁,toks:=s.toks + ([]:List (Str×Value)).length }->
   codeAny (model X.prog X.w) X.A (.compLoop (.ListComp elt [⟨.Tuple [.Name x px,.Name y2 py] kt pt,iter,ifs,0⟩] scope pos) 0 (.ref it) (.ref s.heap.objs.size) (compEnvC scope (N4 X.env.cells scope.names []) H2.objs.size X.env)) (RR (.ref s.heap.objs.size) H2.objs.size) s₃:=by
  rintro s₃ rfl
  refine B3e (fun k s'=>∃(i:Nat) (ys:List V) (its:List Value) (n:Nat) (H':Hp),Inv (L8 X scope N' a) [] (j1 σ) H' s'/\s'.heap.get? s.heap.objs.size=some { cls:=.type "list",data:=.seq its.toArray n }/\D7 ys its/\
   H' s.heap.objs.size=none/\tn i s'.heap/\(∀b∈fp,H' b=none)/\W i k ys H') ?_ m0
   ⟨0,[],[],0,H,I0,hacc,.nil,fr0 _ (F3 _),T.keep _ _ _ st fun b hb o e=>old b o e,fun b hb=>(f2 b hb).1,w0⟩
  rintro k s' ⟨i,ys,its,n,H',I',hD,rv,nD',st',fr',w'⟩ E'
  obtain⟨hz,hw⟩:=turn i k ys H' w'
  have ownD:Own (L8 X scope N' a) [] H' s.heap.objs.size:=⟨nD',hDC,F3 _,fun y c e z=>by
   obtain⟨v,q⟩:=I.cell y c (sub y c e)
   exact absurd q.lt (by rw[z];exact V9 _),fun p hp=>absurd hp (noPn p)⟩
  have fpok:∀(pl:List (Addr×Obj)) (H'':Hp),(∀b∈fp,H'' b=none)->(∀p∈pl,p.1∉fp)->∀b∈fp,U0 (L8 X scope N' a) pl H'' b:=fun pl H'' hn hpl b hb=>
   ⟨hn b hb,(below b (fplt b hb)).1,fun z=>by
    rcases N1.mp (I.stkSub b z) with e | e
    ·exact (f2 b hb).2.1 e
    ·exact (f2 b hb).2.2.1 e,.inl hb,fun y c e=>(f2 b hb).2.2.2.2.1 y c (sub y c e),fun p hp z=>by
    have hp':p∈pl:=by simpa using hp
    exact hpl p hp' (z▸hb)⟩
  have nDfp:s.heap.objs.size∉fp:=fun z=>absurd (fplt _ z) (V9 _)
  have pinD:∀p∈([(s.heap.objs.size,{ cls:=.type "list",data:=.seq its.toArray n })]:List (Addr×Obj)),s'.heap.get? p.1=some p.2/\H' p.1=none/\p.1≠(L8 X scope N' a).env.locals/\p.1∉(L8 X scope N' a).fs/\∀v,p.2.data≠.cell v:=fun p hp=>by
   have e:p=(s.heap.objs.size,{ cls:=.type "list",data:=.seq its.toArray n }):=by simpa using hp
   subst e
   refine⟨hD,nD',hDC,fun z=>?_,fun v z=>by cases z⟩
   rcases N1.mp (I.stkSub _ z) with e | e
   ·exact absurd I.lt (by rw[<-e];exact V9 _)
   ·exact I.nofs (F3 _) e
  have Ip:=I'.pins_of pinD
  have hpl:∀p∈([(s.heap.objs.size,{ cls:=.type "list",data:=.seq its.toArray n })]:List (Addr×Obj)),p.1∉fp:=fun p hp=>by
   have e:p=(s.heap.objs.size,{ cls:=.type "list",data:=.seq its.toArray n }):=by simpa using hp
   subst e
   exact nDfp
  rcases hw with ⟨stop,q⟩ | ⟨go,N,hN,step⟩
  ·refine thn (T.done (L8 X scope N' a) rfl rfl rfl hc i _ s' _ H' E' Ip (fpok _ H' fr' hpl) st' stop) fun r s4 zz246=>zz246.elim fun hr I4=>?_
   subst hr
   have hD4:=(I4.pin (s.heap.objs.size,{ cls:=.type "list",data:=.seq its.toArray n }) (by simp)).1
   have J4:Inv X pins σ H' s4:=I.call' (ch:=fp) I4.os I4.base I4.hok I4.bare fun b hb=>⟨(f2 b hb).2.2.2.1,(f2 b hb).2.1,(f2 b hb).2.2.2.2.1,(f2 b hb).2.2.2.2.2⟩
   obtain⟨m4,hn4,_⟩:=I4.loc
   have hC4:H' H2.objs.size=none:=I4.free
   exact hRR _ _ ys H' s4 m4 hn4 (I.own hCle (by rw[C1 (Ne.symm hDC)];exact hC4)) (J4.track (I.own (F3 _) nD') hD4 rv hz) nD' q
  ·refine thn (T.item (L8 X scope N' a) rfl rfl rfl hc i _ s' _ H' E' Ip (fpok _ H' fr' hpl) st' go) fun r s5 zz247=>el2 zz247 fun u hr h5=>?_
   subst hr
   refine thn h5 fun _ s6 zz248=>zz248.elim fun xv zz249=>zz249.elim fun H6 zz250=>zz250.elim fun I6 zz251=>zz251.elim fun r6 zz252=>zz252.elim fun y6 zz253=>zz253.elim fun st6 fr6=>?_
   have I6':=I6.pinned (fpok _ H6 fr6 hpl) (T.obj _ _ st6)
   obtain⟨pa,v1,v2,exv,hsq,step6⟩:=step xv H6 y6 a
   have hgt:A67 X.K 2 (X5 (R6 X.N.length) (X5 (R6 (X.N.length + 1)) A4s)) xv (j1 σ) H6 (fun σ7 H7=>σ7=((j1 σ).set X.N.length (some v1)).set (X.N.length + 1) (some v2)/\H6=H7):=⟨pa,[v1,v2],exv,hsq,rfl,v1,[v2],rfl,v2,[],rfl,rfl,rfl,rfl⟩
   refine wpAny_mono (C5n S hc a _ s6 _ H6 xv u _ I6' r6 hgt) (fun _ s7 zz254=>el5 zz254 fun σ7 H7 I7 e7 e7'=>?_) fun _ _ z=>z.elim
   subst e7 e7'
   have wk:∀(i:Nat) v,(j1 σ)[i]?=some (some v)->(((j1 σ).set X.N.length (some v1)).set (X.N.length + 1) (some v2))[i]?=some (some v):=fun i v e=>by
    have hlt:=(B8y e).1
    rw[I.len] at hlt
    rw[U6 (by lia),U6 (by lia)];exact e
   have e8:((j1 σ).set X.N.length (some v1)).set (X.N.length + 1) (some v2)=σ++[some v1,some v2]:=by
    unfold j1
    rw[<-I.len,B7b _ _ (F3 _),B7b _ _ (by lia)]
    simp
   rw[<-e8] at step6
   refine wpAny_mono (ht a _ s7 _ H6 _ I7 step6) (fun ok s8 zz255=>el2 zz255 fun H8 I8 q8=>?_) fun _ _ z=>z.elim
   have tnk:∀{H9:Hp} {s9:Shared} {σ9:St},Inv (L8 X scope N' a) ([(s.heap.objs.size,{ cls:=.type "list",data:=.seq its.toArray n })]++A4t fp s6.heap) σ9 H9 s9->tn (i + 1) s9.heap/\(∀b∈fp,H9 b=none)/\s9.heap.get? s.heap.objs.size=some { cls:=.type "list",data:=.seq its.toArray n }/\H9 s.heap.objs.size=none:=fun {H9 s9 σ9} I9=>by
    refine⟨T.keep _ _ _ st6 fun b hb o e=>(I9.pin (b,o) (S3 _ (S3 _ (A2r hb e)))).1,fun b hb=>?_,?_⟩
    ·obtain⟨o,e,d⟩:=T.obj _ _ st6 b hb
     exact (I9.pin (b,o) (S3 _ (S3 _ (A2r hb e)))).2.1
    ·have z:=I9.pin (s.heap.objs.size,{ cls:=.type "list",data:=.seq its.toArray n }) (S3 _ (A8c _ (by simp)))
     exact⟨z.1,z.2.1⟩
   cases ok with
   | false=>
    obtain⟨m',hm,w8⟩:∃m',m' < k/\W (i + 1) m' ys H8:=hN _ _ (by simpa using q8)
    obtain⟨t1,t2,t3,t4⟩:=tnk I8
    exact⟨m',hm,i + 1,ys,its,n,H8,(I8.pins_of (pins':=[]) fun p hp=>nomatch hp).weak (by rw[O3,O3]) wk,t3,rv,t4,t1,t2,w8⟩
   | true=>
    have q8':=q8
    simp only[if_true] at q8'
    refine wpAny_mono (he a _ s8 _ H8 _ I8 q8') (fun u9 s9 zz256=>el5 zz256 fun v9 H9 I9 r9 q9=>?_) fun _ _ z=>z.elim
    obtain⟨m',hm,w9⟩:=hN _ _ q9
    obtain⟨t1,t2,t3,t4⟩:=tnk I9
    have hl:=rv.length
    refine append_at (hsz:=by show its.toArray.size<=sizeLine;rw[O4,<-hl];exact hz) t3 fun h' hs' hD'=>?_
    have J9:=((I9.pins_of (pins':=[]) fun p hp=>nomatch hp).weak (σ':=j1 σ) (by rw[O3,O3]) wk).own_turn (C:=s.heap.objs.size) ⟨t4,ownD.ne,ownD.ab,ownD.ce,ownD.pi⟩ hs'
    refine⟨m',hm,i + 1,ys++[v9],its++[u9],n + 1,H9,J9,?_,D7.append rv (.cons r9 .nil),t4,T.keep _ _ _ t1 fun b hb o e=>(hs'.2 b fun z=>nDfp (z▸hb)).trans e,t2,w9⟩
    rw[List.push_toArray] at hD'
    exact hD'
 exact codeAny_compStart_list (loop _ rfl) (T.self _ 0 _ _ _ (T.keep _ _ _ st fun b hb o e=>old b o e) (loop _ rfl))
theorem B3p {elt iter:Expr} {x y:Str} {px py pt pos:Pos} {kt} {ifs:List Expr} {scope:Scope} {N':List Str} {wi:TI} {tt:CA->TT} {te:CA->TE} {osc:Scope} {N:List Str}
  (S:A2w N N' osc scope x y) (hc:X.calm=true) (hi:PI X (.Tuple [.Name x px,.Name y py] kt pt) iter wi) (ht:∀a:CA,PTs (L8 X scope N' a) ifs (tt a)) (he:∀a:CA,PE (L8 X scope N' a) elt (te a))
  (ho:X.env.scope=osc:=by rfl) (hN:X.N=N:=by rfl) (hs:∀x,foldedSetIterable iter X.env x=pure x:=by intro _;rfl):PE X (.ListComp elt [⟨.Tuple [.Name x px,.Name y py] kt pt,iter,ifs,0⟩] scope pos) (B3o X.K wi tt te):=by
 subst ho hN
 intro pins s σ H Q I h
 rw[eval_ListComp]
 have hcells:∀y∈scope.names,y.2=.free->∃c,X.env.cells.lookup y.1=some c:=fun y hy e=>I.ok.has y.1 (.inl (S.free y hy e))
 refine wpAny_comprehension_free (use:=none) rfl hs (A98 hcells) S.kind S.names (wpAny_mono (hi pins s σ H _ I h) (fun xv s₁ h₁=>wpAny_mono h₁ (fun itv s₂ h₂=>?_) fun _ _ e=>e) fun _ _ e=>e)
 obtain⟨it,fp,tn,J,H2,rfl,I2,T,st2,f2,q2⟩:=h₂
 refine C5o (RR:=fun acc C=>compPost (model X.prog X.w) X.A X.xe none (EP X pins σ Q) acc C) S hc ht he I2 T st2 f2 q2 ?_
 intro D C ys H' s' m hn own I' hD q
 refine⟨m,hn,fun h' hs'=>⟨.ref D,_,I'.own_turn own hs',rfl,q D hD⟩⟩
end
section
variable {X:Cx}
theorem B3q (hc:X.calm=true):r8 X (.builtin "any") (fun xs H Q=>∃(p:Addr) (bs:List Bool),xs=[.ref p]/\SqL X.K H p (bs.map V.bl)/\Q (.bl (bs.any id)) H):=by
 intro pins s σ H xs us Q I r h
 obtain⟨p,bs,rfl,hq,q⟩:=h
 obtain⟨u,rfl,rx⟩:=v8 r
 cases rx
 obtain⟨its,rv,pl,hz⟩:=I.list hq
 have hb:=B3i rv
 have hl:=pl.isList
 have hlt:p < s.heap.objs.size:=by obtain⟨_,e,_⟩:=hl;exact G9 e
 refine call_any_walk (wpAny_pyIter_list hl ?_)
 refine⟨s.heap.objs.size,[s.heap.objs.size,p],[s.heap.objs.size],its.toArray.size,_,_,fun i=>(bs[i]?).getD false,rfl,Walks.list (A:=X.A.in1) (I.ok.hd hc) _ p (M5 hlt) its.toArray,
  ⟨⟨_,X2 _ rfl,rfl,rfl⟩,hl.push _⟩,fun i v s' Q' E' hP hQ=>?_,fun h' tk hk=>?_⟩
 ·obtain⟨b,e,rfl⟩:=hb.get i v (by simpa using hP)
  simp only[e,Option.getD_some] at hQ
  exact wpAny_truthy_bool hQ
 ·have e:((P5 its.toArray.size).any fun i=>(bs[i]?).getD false)=bs.any id:=by
   rw[O4,hb.length,B2d,List.any_eq_true,List.any_eq_true]
   constructor
   ·rintro ⟨i,hi,hv⟩
    rw[l5] at hi
    rw[K3 hi] at hv
    exact⟨bs[i],List.getElem_mem hi,hv⟩
   ·rintro ⟨b,hb1,hb2⟩
    obtain⟨i,hi,rfl⟩:=A0t.mp hb1
    exact⟨i,l5.mpr hi,by rw[K3 hi];exact hb2⟩
  rw[e]
  exact⟨.bl _,H,I.kept (t':=tk) (LSm.kept_iter hk),rfl,q⟩
def B80 (K:B3):V->List V->Hp->VK->Prop:=fun x vs H Q=>∃(l:Addr) (ns:List Int) (k:Int),x=.ref l/\vs=[.int k]/\SqL K H l (ns.map V.int)/\k∈ns/\ns.length<=100000/\Q (.int (ns.idxOf k:Nat)) H
theorem B81:MtM X "list.index" (B80 X.K):=by
 intro pins s σ H x vs v us Q I rx rv h
 obtain⟨l,ns,k,rfl,rfl,hq,hk,hn,q⟩:=h
 cases rx
 obtain⟨u,rfl,t,rfl⟩:=v8 rv
 obtain⟨its,r,pl,hz⟩:=I.list hq
 have hi:=C4t r
 obtain⟨⟨cls,dd,data,sl⟩,ho,hc,n,hd⟩:=pl.isList
 simp only at hc hd
 subst hc hd
 have hlen:=hi.length
 have hj:ns.idxOf k < ns.length:=B2i.mpr hk
 refine call_meets C26 ⟨_,ho,rfl⟩ PySem.F.entry_list_index (PySem.F.args_list_index_2 _ _)
  (SeqAt.list_indexAt l its.toArray n dd sl (.int k t) (isInt k) (ns.idxOf k) (by simpa [hlen] using hj) (by lia) ?_ ?_) ⟨ho,fun y hy=>(eq_isInt k t hi y (by simpa using hy)).at _ _,⟨.int _,H,I.tok _,⟨_,rfl⟩,q⟩⟩
 ·show isInt k its[ns.idxOf k]=true
  rw[isInt_at k hi _ (by lia) hj]
  simpa using C27 hj
 ·intro j hjs hlt
  show isInt k its[j]=false
  rw[isInt_at k hi j (by simpa using hjs) (by lia)]
  exact ne_of_lt_idxOf hlt _
end
inductive A8u (K:B3) (H:Hp):V->Value->Prop where
 | o {x:V} {t:Value}:g8 K H x t->A8u K H x t
 | f {a:Addr} {o:Obj} {kvs:List (List Key×V)}:H a=some (.frz o (.dT kvs))->A8u K H (.ref a) (.type "dict")
section
variable {X:Cx}
theorem A0b:r8 X (.builtin "isinstance") (fun xs H Q=>∃x cv c t b,xs=[x,cv]/\G3 cv c/\A8u X.K H x t/\A6y X.K t c=some b/\Q (.bl b) H):=by
 intro pins s σ H xs us Q I r h
 obtain⟨x,cv,c,t,b,rfl,rc,ty,k,q⟩:=h
 obtain⟨u,w',rfl,r1,r2⟩:=B24 r
 have e:w'=c:=by
  cases cv with
  | non=>exact r2.trans rc.symm
  | bl y=>exact r2.trans rc.symm
  | ref y=>exact r2.trans rc.symm
  | ty y=>exact r2.trans rc.symm
  | int y=>
   obtain⟨t1,rfl⟩:=rc
   exfalso
   unfold A6y B7c at k
   cases ty with
   | o ty=>cases ty <;> simp at k
   | f e=>simp at k
  | str y=>
   obtain⟨t1,rfl⟩:=rc
   exfalso
   unfold A6y B7c at k
   cases ty with
   | o ty=>cases ty <;> simp at k
   | f e=>simp at k
  | byt y=>
   obtain⟨t1,rfl⟩:=rc
   exfalso
   unfold A6y B7c at k
   cases ty with
   | o ty=>cases ty <;> simp at k
   | f e=>simp at k
  | flt y=>
   obtain⟨t1,rfl⟩:=rc
   exfalso
   unfold A6y B7c at k
   cases ty with
   | o ty=>cases ty <;> simp at k
   | f e=>simp at k
 subst e
 cases ty with
 | o ty=>exact C4l I r1 ty k fun tk=>⟨.bl b,H,I.tok tk,rfl,q⟩
 | @f a o kvs ea=>
  cases (show u=Value.ref a from r1)
  obtain⟨_,_,_,xs,_,o',es,ep,h1,h2,_⟩:=(show S6 X.prog X.w H s.heap a (.frz o (.dT kvs)) from I.hok a _ ea)
  exact A0r PySem.W.kitx_dict I.kIn ⟨o',h1,h2.1⟩ k (fun z=>nomatch z) fun tk=>⟨.bl b,H,I.tok tk,rfl,q⟩
def C5p (K:B3) (te:TE) (ts:TO):TE:=fun σ H Q=>te σ H fun x H1=>ts σ H1 fun st H2=>st=some (-1)/\∃a xs,x=.ref a/\SqL K H2 a xs/\∀p,H2 p=none->Q (.ref p) (upd H2 p (.lst xs.reverse))
theorem D7.rev:∀{xs:List V} {us:List Value},D7 xs us->D7 xs.reverse us.reverse
 | _,_,.nil=>.nil
 | _::xs,_::us,.cons r t=>by
  rw[B7d,B7d]
  exact (D7.rev t).append (.cons r .nil)
theorem C5q {e st:Expr} {te:TE} {ts:TO} {pos p2:Pos} (he:PE X e te) (hs:PO X (some st) ts):PE X (.Subscript e (.Slice none none (some st) p2) pos) (C5p X.K te ts):=by
 intro pins s σ H Q I h
 refine Subscript_ (thn (he pins s σ H _ I h) fun v s1 zz269=>el5 zz269 fun x H1 I1 r1 q1=>?_)
 refine wpAny_Slice ?_
 rw[evalPart_none]
 refine wpAny_pure ?_
 refine wpAny_pure ?_
 refine thn (hs pins s1 σ H1 _ I1 q1) fun vs s3 zz270=>el5 zz270 fun k H3 I3 pk q3=>?_
 obtain⟨rfl,a,xs,rfl,hx,q⟩:=q3
 cases r1
 have I4:Inv X pins σ H3 { s3 with heap:=s3.heap.push { cls:=.type "slice",data:=.fields #[.none,.none,vs] } }:=I3.kept (t':=s3.toks) fun b ob q=>P6 _ q
 obtain⟨its,r,ht,hz⟩:=I4.list hx
 have hlen:=r.length
 show wpAny (model X.prog X.w) X.A (subscriptTail e (.Slice none none (some st) p2) (.ref a) (.ref s3.heap.objs.size)) (EP X pins σ Q) X.xe { s3 with heap:=s3.heap.push { cls:=.type "slice",data:=.fields #[.none,.none,vs] } }
 refine tail_any (T:= "list") (ops:=[.ref a,.ref s3.heap.objs.size]) ht.isList.typeIs slot_list_getitem.lookup ?_ (by with_unfolding_all rfl)
 refine wpAny_getItem_list_slice ht.isList (Heap.IsSliceOf.new ..) .none .none pk (by decide) ?_ (by rw[O4] <;> lia)
 rw[PySem.W.krv_pick]
 refine⟨.ref _,_,I4.laid (t':=s3.toks) (o:=.lst xs.reverse) (fun b ob q=>P6 _ q) (F3 _) ?_,rfl,q _ (I4.hok.fresh (F3 _))⟩
 exact⟨by rw[A0u];lia,_,0,r.rev,X2 _ rfl⟩
end
theorem C5r:typeLookup (.type "list_reverseiterator") "__len__" = pure none:=by
 rw[typeLookup_type,builtinLookup_eq_fast];kernel_rfl
theorem C5s:typeLookup (.type "list_reverseiterator") "__length_hint__" = pure (some (.builtin "list_reverseiterator.__length_hint__")):=by
 rw[typeLookup_type,builtinLookup_eq_fast];kernel_rfl
section
variable {prog:Program} {w:World} {A:Around} {E:Value->Shared->Prop} {s:Shared}
theorem C5t {r l:Addr} {i:Int} {Q:Bool->Shared->Prop} (hr:s.heap.IsRevIter r l i) (h:∀tk,Q false { s with toks:=tk }):wpAny (model prog w) A (Builtin.List.listLengthHint (.ref r)) Q E s:=by
 have hT:=hr.typeIs
 unfold Builtin.List.listLengthHint
 refine wpAny_bind (wpAny_specialOf hT C5r ?_)
 show wpAny _ A (specialOf (Value.ref r) (Str.ofString "__length_hint__") >>= _) _ _ _
 refine wpAny_bind (wpAny_specialOf hT C5s ?_)
 generalize hid:("list_reverseiterator.__length_hint__" : String)=id0
 wp_delta
 rw[show splitId id0=some ("list_reverseiterator", "__length_hint__") from by subst hid;decide +kernel]
 subst hid
 refine wpAny_bind (wpAny_isInstance (b:=true) hT (by rw[isSubtype_type];kernel_rfl) ?_)
 exact wpAny_pure (h s.toks)
theorem C5u {r l:Addr} {items:Array Value} {Q:Value->Shared->Prop} (hh:A.handled=none) (hr:s.heap.IsRevIter r l ((items.size:Int) - 1)) (hl:s.heap.IsList l items) (hne:l≠r) (hz:items.size<=sizeLine)
  (hQ:∀(h':Heap) (tk:Nat) (acc:Array Value) (c:Nat),(∀b o,b≠r->s.heap.get? b=some o->h'.get? b=some o)->h'.get? s.heap.objs.size=some { cls:=.type "list",dict:=none,data:=.seq acc c,slots:=#[] }->
   ItemsOf (fun i v=>items[items.size - 1 - i]?=some v) acc items.size->Q (.ref s.heap.objs.size) { s with heap:=h',toks:=tk }):wpAny (model prog w) A (call (.type "list") [.ref r]) Q E s:=by
 have rlt:r < s.heap.objs.size:=by obtain⟨_,q,_⟩:=hr;exact G9 q
 have llt:l < s.heap.objs.size:=by obtain⟨_,q,_⟩:=hl;exact G9 q
 refine callType_codes (Q₁:=fun obj t=>obj=.ref s.heap.objs.size/\t={ s with heap:=s.heap.push { cls:=.type "list",data:=.seq #[] } }) F.called_list (F.typeCall_list_1 _) F.entry_list_init (code_list_new _ ⟨rfl,rfl⟩) fun obj t ht=>?_
 obtain⟨rfl,rfl⟩:=ht
 have hS:(s.heap.push { cls:=.type "list",data:=.seq #[] }).get? s.heap.objs.size=some { cls:=.type "list",data:=.seq #[] }:=X2 _ rfl
 refine⟨⟨_,hS,rfl⟩,F.args_list_init_2 _ _,?_⟩
 generalize hh2:s.heap.push { cls:=.type "list",data:=.seq #[] }=h2 at hS
 have old:∀b o,s.heap.get? b=some o->h2.get? b=some o:=fun b o e=>hh2▸P6 _ e
 have hSr:s.heap.objs.size≠r:=B2c rlt
 have hSl:s.heap.objs.size≠l:=B2c llt
 show wpAny _ _ (do let was <-Builtin.List.listItems (.ref s.heap.objs.size);Builtin.List.listUpdate (.ref s.heap.objs.size) (fun _=>#[]);letGo was.toList.reverse;Builtin.List.listExtendWith (.ref s.heap.objs.size) (.ref r) .none) _ _ _
 refine wpAny_bind ?_
 unfold Builtin.List.listItems
 refine wpAny_bind (wpAny_seqItems hS rfl (wpAny_pure ?_))
 show wpAny _ _ (updateSeq s.heap.objs.size (fun _=>#[]) >>= fun _=>letGo (#[]:Array Value).toList.reverse >>= fun _=>Builtin.List.listExtendWith (.ref s.heap.objs.size) (.ref r) .none) _ _ _
 refine wpAny_bind (wpAny_updateSeq hS rfl ?_)
 have hS3:=Heap.get?_update_self (A6z (fun _=>(#[]:Array Value))) hS rfl
 refine wpAny_bind (wpAny_letGo ?_)
 have oth:∀b o,b≠s.heap.objs.size->h2.get? b=some o->(h2.update s.heap.objs.size (A6z (fun _=>(#[]:Array Value)))).get? b=some o:=fun b o n e=>(C25 _ _ (Ne.symm n)).trans e
 generalize h2.update s.heap.objs.size (A6z (fun _=>(#[]:Array Value)))=h3 at hS3 oth
 have old3:∀b o,s.heap.get? b=some o->h3.get? b=some o:=fun b o e=>oth b o (M5 (G9 e)) (old b o e)
 have hr3:h3.IsRevIter r l ((items.size:Int) - 1):=hr.at fun o e=>old3 r o e
 have hl3:h3.IsList l items:=hl.at fun o e=>old3 l o e
 have W:=(Walks.listRev (prog:=prog) (w:=w) (A:=A.in1.in1) hh r l hne items).toS
 unfold Builtin.List.listExtendWith
 refine wpAny_bind (wpAny_typeOf (T:= "list_reverseiterator") (s:={ s with heap:=h3 }) hr3.typeIs ?_)
 have z1:Builtin.List.listSameRef (.ref s.heap.objs.size) (.ref r)=false:=by simp [Builtin.List.listSameRef,hSr]
 rw[if_neg (by rw[z1];decide)]
 refine wpAny_bind (wpAny_pyIter_revIter (s:={ s with heap:=h3 }) hr3 ?_)
 refine wpAny_bind (wpAny_holding (C5t (s:={ s with heap:=h3 }) hr3 fun tk=>?_))
 rw[if_neg (by decide)]
 have nf:s.heap.objs.size∉[r,l]:=fun q=>by
  rcases N1.mp q with e | e
  ·exact hSr e
  ·exact hSl (by simpa using e)
 have st0:0<=items.size/\h3.IsRevIter r l ((items.size:Int) - 1 - ((0:Nat):Int))/\h3.IsList l items:=⟨M6 _,by simpa using hr3,hl3⟩
 refine wpAny_pure ⟨plainId_quiet F.plain_extend_loop _,codeAny_extend_loopS W hz _ nf _ items.size 0 _ _ _ rfl (M6 _) st0 hS3 (ItemsOf.nil _) fun s' acc c hm hS' hacc=>?_⟩
 rw[Moved.eq_with hm]
 refine⟨rfl,hQ s'.heap s'.toks acc c (fun b o n e=>hm.heap b o (fun q=>?_) (old3 b o e)) hS' hacc⟩
 rcases N1.mp q with z | z
 ·exact M5 (G9 e) z
 ·exact n (by simpa using z)
end
theorem B82:bootBuiltins "reversed" = some (.type "reversed"):=by decide +kernel
theorem C5v {items:Array Value} {acc:Array Value} (h:ItemsOf (fun i v=>items[items.size - 1 - i]?=some v) acc items.size):acc.toList=items.toList.reverse:=by
 have hl:acc.size=items.size:=h.1
 apply B7e
 intro i
 by_cases c:i < items.size
 ·have ha:i < acc.size:=by lia
  have e:=h.2 i acc[i] (Array.getElem?_eq_getElem ha)
  rw[List.getElem?_reverse (by rw[A9p];exact c),A9p,Array.getElem?_toList,Array.getElem?_toList,Array.getElem?_eq_getElem ha]
  exact e.symm
 ·rw[f9 (by rw[A9p];lia),f9 (by rw[A0u,A9p];lia)]
section
variable {X:Cx}
theorem C5w {e:Expr} {te:TA} {p1 p2 p3 p4:Pos} (hg1:Gl X "list") (hm1:X.mg "list" = none) (hg2:Gl X "reversed") (hm2:X.mg "reversed" = none) (hc:X.calm=true) (he:PA X [e] te) (hs:starEach [e] X.env=[(false,eval e X.env)]:=by rfl)
  (hs2:starEach [.Call (.Name "reversed" p2) [e] [] p3] X.env=[(false,eval (.Call (.Name "reversed" p2) [e] [] p3) X.env)]:=by rfl):PE X (.Call (.Name "list" p1) [.Call (.Name "reversed" p2) [e] [] p3] [] p4)
   (fun σ H Q=>te σ H fun vs H1=>∃a xs,vs=[.ref a]/\SqL X.K H1 a xs/\∀p,H1 p=none->Q (.ref p) (upd H1 p (.lst xs.reverse))):=by
 intro pins s σ H Q I h
 refine Call_ (A1n I hg1 hm1 W1 (PyProof.Rows.callWith_type1 ?_ hs2 rfl))
 rw[hs2]
 show wpAny _ _ (spliced [(false,eval (.Call (.Name "reversed" p2) [e] [] p3) X.env)]) _ _ s
 refine Calls.spliced_cons ?_
 refine Call_ (A1n I hg2 hm2 B82 (PyProof.Rows.callWith_type1 (thn (he p3 pins s σ H _ I h) fun us s1 zz271=>el5 zz271 fun vs H1 I1 r1 q1=>?_) hs rfl))
 obtain⟨a,xs,rfl,hq,q⟩:=q1
 obtain⟨u,rfl,rx⟩:=v8 r1
 cases rx
 obtain⟨its,rv,pl,hz⟩:=I1.list hq
 have alt:a < s1.heap.objs.size:=by obtain⟨_,z,_⟩:=pl.isList;exact G9 z
 refine call_reversed_list pl.isList (Calls.spliced_nil ?_)
 have hr:(s1.heap.push (revObj a ((its.toArray.size:Int) - 1))).IsRevIter s1.heap.objs.size a ((its.toArray.size:Int) - 1):=⟨_,X2 _ rfl,rfl,rfl⟩
 have hl2:(s1.heap.push (revObj a ((its.toArray.size:Int) - 1))).IsList a its.toArray:=pl.isList.push _
 have hsz:(s1.heap.push (revObj a ((its.toArray.size:Int) - 1))).objs.size=s1.heap.objs.size + 1:=A8d ..
 refine C5u (s:={ s1 with heap:=s1.heap.push (revObj a ((its.toArray.size:Int) - 1)) }) (I1.ok.hd hc) hr hl2 (M5 alt) (by rw[O4,<-rv.length];exact hz) fun h' tk acc c hk hS hacc=>?_
 have eq:=C5v hacc
 refine⟨.ref _,_,I1.laid (t':=tk) (o:=.lst xs.reverse) (fun b o z=>hk b o (M5 (G9 z)) (P6 _ z)) (by show s1.heap.objs.size<=_;rw[hsz];exact A1i _) (show S6 X.prog X.w _ h' _ (.lst xs.reverse) from ⟨by rw[A0u];exact hz,acc.toList,c,?_,by simpa using hS⟩),rfl,q _ (I1.hok.fresh (by show s1.heap.objs.size<=_;rw[hsz];exact A1i _))⟩
 rw[eq]
 exact D7.rev rv
def Itv (K:B3) (a:Addr) (n:Nat):It:=
 ⟨fun i H=>∃xs x,SqL K H a xs/\xs.length=n/\xs.reverse[i]?=some x,fun i H x H'=>H'=H/\∀xs,SqL K H a xs->xs.reverse[i]?=some x,fun i _=>n<=i⟩
theorem C5x {P:Program} {w:World} {K:B3} {tg:Expr} (a it:Addr) (n:Nat):A1p P w K tg (Itv K a n) [it] it (fun i h=>i<=n/\h.IsRevIter it a ((n:Int) - 1 - ((i:Nat):Int))) where
 mem:=by simp
 obj:=fun i h st b hb=>by
  have e:b=it:=by simpa using hb
  subst e
  obtain⟨_,o,e,c,d⟩:=st
  exact⟨o,e,fun v z=>by rw[d] at z;cases z⟩
 keep:=fun i h h' st k=>⟨st.1,st.2.at fun o e=>k it (by simp) o e⟩
 item:=by
  intro X hP hw hK hc i pins s σ H E I hf st hg
  subst hP hw hK
  obtain⟨xs,x,hq,hn,hx⟩:=hg
  obtain⟨its,rv,p,hz⟩:=I.list hq
  have hil:i < n:=by
   have:=(m9.mp hx).1
   rw[A0u,hn] at this
   exact this
  have hx':xs[n - 1 - i]?=some x:=by rw[List.getElem?_reverse (by lia),hn] at hx;exact hx
  obtain⟨u,hu,ru⟩:=rv.get hx'
  obtain⟨f0,f1,f2,f3,f4,f5⟩:=hf it (by simp)
  have ei:(n:Int) - 1 - ((i:Nat):Int)=((n - 1 - i:Nat):Int):=by lia
  refine wpAny_pyNext_rev_item (i:=n - 1 - i) (by rw[<-ei];exact st.2) p.isList (x:=u) (by simpa using hu) fun h' st' sb=>?_
  have I1:Inv X pins σ H { s with heap:=h' }:=I.turned (t':=s.toks) (fun b o hb e=>(sb.2 b hb).trans e) f0 f1 f3 f4 f5
  obtain⟨o,e,c,d⟩:=id st'
  have ej:((n - 1 - i:Nat):Int) - 1=(n:Int) - 1 - ((i + 1:Nat):Int):=by lia
  exact⟨u,rfl,B2x (s:={ s with heap:=h' }) e c d (by decide) ⟨x,H,I1,ru,⟨rfl,fun ys hy=>by rw[I.list_inj hy hq];exact hx⟩,⟨hil,by rw[<-ej];exact st'⟩,fun b hb=>(hf b hb).1⟩⟩
 done:=by
  intro X hP hw hK hc i pins s σ H E I hf st hg
  subst hP hw hK
  obtain⟨f0,f1,f2,f3,f4,f5⟩:=hf it (by simp)
  have e:i=n:=Nat.le_antisymm st.1 hg
  have em:(n:Int) - 1 - ((i:Nat):Int)=-1:=by lia
  exact wpAny_pyNext_rev_end (I.ok.hd hc) (by rw[<-em];exact st.2) fun h' eb=>⟨rfl,I.turned (t':=s.toks) (fun b o hb e=>eb b o hb e) f0 f1 f3 f4 f5⟩
 self:=fun _ _ _ _ _ st h=>wpAny_pyIter_revIter st.2 h
def B83 (K:B3) (ta:TA):TI:=fun σ H R=>ta σ H fun vs H1=>∃a xs,vs=[.ref a]/\SqL K H1 a xs/\R (Itv K a xs.length) H1
theorem C5y {tg a:Expr} {ta:TA} {p pos:Pos} (hg:Gl X "reversed") (hm:X.mg "reversed" = none) (ha:PA X [a] ta) (hs:starEach [a] X.env=[(false,eval a X.env)]:=by rfl):PI X tg (.Call (.Name "reversed" p) [a] [] pos) (B83 X.K ta):=by
 intro pins s σ H R I h
 refine Call_ (A1n I hg hm B82 (PyProof.Rows.callWith_type1 (thn (ha pos pins s σ H _ I h) fun us s1 zz272=>el5 zz272 fun vs H1 I1 r1 q1=>?_) hs rfl))
 obtain⟨a',xs,rfl,hq,q⟩:=q1
 obtain⟨u,rfl,rx⟩:=v8 r1
 cases rx
 obtain⟨its,rv,pl,hz⟩:=I1.list hq
 have en:((its.toArray.size:Nat):Int) - 1=((xs.length:Nat):Int) - 1:=by rw[O4,<-rv.length]
 refine call_reversed_list pl.isList ?_
 rw[en]
 have hr:(s1.heap.push (revObj a' ((xs.length:Int) - 1))).IsRevIter s1.heap.objs.size a' ((xs.length:Int) - 1):=⟨_,X2 _ rfl,rfl,rfl⟩
 refine wpAny_pyIter_revIter (s:={ s1 with heap:=s1.heap.push (revObj a' ((xs.length:Int) - 1)) }) hr ?_
 refine⟨_,[s1.heap.objs.size],_,_,H1,rfl,I1.kept (t':=s1.toks) fun b o e=>P6 _ e,C5x a' _ xs.length,⟨M6 _,by simpa using hr⟩,fun b hb=>?_,q⟩
 have e:b=s1.heap.objs.size:=by simpa using hb
 subst e
 exact I1.fpOk (F3 _) (I1.hok.fresh (F3 _))
end
section
variable {X:Cx} {pins:List (Addr×Obj)} {σ:St} {H:Hp} {s:Shared}
end
section
variable {prog:Program} {w:World} {A:Around} {E:Value->Shared->Prop} {s:Shared}
end
section
variable {prog:Program} {w:World} {A:Around} {R:Result->Shared->Prop} {I:Addr} {fp wr:List Addr} {n:Nat} {P:Nat->Value->Prop} {St:Nat->Heap->Prop}
end
section
variable {X:Cx}
end
section
variable {X:Cx} {pins:List (Addr×Obj)} {σ:St} {H:Hp} {s:Shared} {h':Heap}
theorem Inv.turnedN {t':Nat} {L:List Addr} (I:Inv X pins σ H s) (k:∀b o,b∉L->s.heap.get? b=some o->h'.get? b=some o) (f:∀b∈L,U0 X pins H b):Inv X pins σ H { s with heap:=h',toks:=t' }:=by
 have nL:∀b u,H b=some u->b∉L:=fun b u e z=>by rw[(f b z).1] at e;cases e
 refine I.step (g':=s.gens) (d':=s.drawn) (ch:=L) (fun b hb=>?_) (fun b o _ _ hc e _=>k b o hc e) (fun b o _ _ hc e _=>⟨o.slots,k b o hc e⟩) (fun _ _ _ _ n=>n)
  (fun b o hc e=>⟨o,k b o hc e⟩) (fun _ _ e=>e) (fun _ _ _ e=>e) (fun b ps e=>⟨#[],by rw[e];simp⟩) (fun m hm=>?_) (fun b u q=>?_) I.bare
 ·obtain⟨e0,e1,e2,e3,e4,e5⟩:=f b hb
  exact⟨e3,e1,e4,e5⟩
 ·obtain⟨o,es,ep,ho,r⟩:=hm
  refine⟨o,es,ep,k _ o (fun z=>?_) ho,r⟩
  obtain⟨e0,e1,e2,e3,e4,e5⟩:=f _ z
  exact e1 rfl
 ·refine (I.hok b u q).stay (fun c v hc z=>k c v ?_ z) (fun _ z=>z) fun _ _ z=>z
  rcases hc with z | z
  ·rw[z];exact nL b u q
  ·exact nL c _ z
end
def Itz (K:B3) (a b:Addr):It:=
 ⟨fun i H=>∃xs ys x y,SqL K H a xs/\SqL K H b ys/\xs[i]?=some x/\ys[i]?=some y,fun i H x H'=>∃p u v,x=.ref p/\H p=none/\H'=upd H p (.tup [u,v])/\∀xs ys,SqL K H a xs->SqL K H b ys->xs[i]?=some u/\ys[i]?=some v,fun i H=>∃xs ys,SqL K H a xs/\SqL K H b ys/\(xs.length<=i\/ys.length<=i)⟩
theorem C5z {P:Program} {w:World} {K:B3} {elts:List Expr} {x1} {tpos:Pos} (l1 l2 z TI TO i1 i2:Addr) (D:ZipApart z TI TO i1 i2 l1 l2) :
  A1p P w K (.Tuple elts x1 tpos) (Itz K l1 l2) [z,TI,TO,i1,i2] z (fun i h=>IsZip h z TI TO .none/\IsPair h TI (.ref i1) (.ref i2)/\(∃a b,IsPair h TO a b)/\h.IsListIter i1 l1 i/\h.IsListIter i2 l2 i) where
 mem:=by simp
 obj:=fun i h st b hb=>by
  obtain⟨hz,hTI,⟨a,b',hTO⟩,⟨o1,e1,_,d1⟩,⟨o2,e2,_,d2⟩⟩:=st
  simp at hb
  rcases hb with rfl | rfl | rfl | rfl | rfl
  ·exact⟨_,hz,fun v z=>by cases (show Data.fields _=Data.cell v from z)⟩
  ·exact⟨_,hTI,fun v z=>by cases (show Data.seq _ _=Data.cell v from z)⟩
  ·exact⟨_,hTO,fun v z=>by cases (show Data.seq _ _=Data.cell v from z)⟩
  ·exact⟨o1,e1,fun v z=>by rw[d1] at z;cases z⟩
  ·exact⟨o2,e2,fun v z=>by rw[d2] at z;cases z⟩
 keep:=fun i h h' st k=>by
  obtain⟨hz,hTI,⟨a,b,hTO⟩,h1,h2⟩:=st
  exact⟨k z (by simp) _ hz,k TI (by simp) _ hTI,⟨a,b,k TO (by simp) _ hTO⟩,h1.at fun o q=>k i1 (by simp) o q,h2.at fun o q=>k i2 (by simp) o q⟩
 item:=by
  intro X hP hw hK hc i pins s σ H E I hf st hg
  subst hP hw hK
  obtain⟨hz,hTI,⟨a0,b0,hTO⟩,h1,h2⟩:=st
  obtain⟨xs,ys,x,y,hq1,hq2,hx,hy⟩:=hg
  obtain⟨its1,rv1,p1,_⟩:=I.list hq1
  obtain⟨its2,rv2,p2,_⟩:=I.list hq2
  obtain⟨u,hu,ru⟩:=rv1.get hx
  obtain⟨v,hv,rw'⟩:=rv2.get hy
  have lt:∀b∈[z,TI,TO,i1,i2],b < s.heap.objs.size:=fun b hb=>by
   simp at hb
   rcases hb with rfl | rfl | rfl | rfl | rfl
   ·exact G9 hz
   ·exact G9 hTI
   ·exact G9 hTO
   ·obtain⟨_,q,_⟩:=id h1;exact G9 q
   ·obtain⟨_,q,_⟩:=id h2;exact G9 q
  refine wpAny_pyNext_zip_item D hz hTI hTO h1 h2 p1.isList p2.isList (x:=u) (y:=v) (by simpa using hu) (by simpa using hv) fun h' a1 a2 a3 a4 a5 a6 hk=>?_
  refine⟨_,rfl,wpAny_letOwnedTupleGo_zip a1 fun h2' hz2 hs2=>?_⟩
  replace hs2:Heap.SameBut z h' h2':=hs2
  have hn:H s.heap.objs.size=none:=I.hok.fresh (F3 _)
  have I1:Inv X pins σ (upd H s.heap.objs.size (.tup [x,y])) { s with heap:=s.heap.push { cls:=.type "tuple",data:=.seq #[u,v] },toks:=s.toks }:=
   I.laid (fun b o q=>P6 _ q) (F3 _) ⟨by show 2<=sizeLine;decide,[u,v],.cons ru (.cons rw' .nil),⟨_,X2 _ rfl,rfl,_,rfl⟩⟩
  have ge:∀b,b < s.heap.objs.size->U0 X pins H b->U0 X pins (upd H s.heap.objs.size (.tup [x,y])) b:=fun b hb f=>⟨by rw[C1 (M5 hb)];exact f.1,f.2⟩
  have I2:=I1.turnedN (h':=h2') (t':=s.toks) (L:=[z,TI,TO,i1,i2]) (fun b o nb q=>by
   simp at nb
   obtain⟨n1,n2,n3,n4,n5⟩:=nb
   rw[hs2.2 b n1]
   rcases Heap.get?_push_cases q with ⟨e1,e2⟩ | q
   ·subst e1 e2
    exact a5
   ·exact hk b o n1 n3 n4 n5 q) (fun b hb=>ge b (lt b hb) (hf b hb))
  refine⟨.ref s.heap.objs.size,_,I2,rfl,⟨_,x,y,rfl,hn,rfl,fun xs' ys' q1 q2=>⟨by rw[I.list_inj q1 hq1];exact hx,by rw[I.list_inj q2 hq2];exact hy⟩⟩,⟨hz2,?_,⟨u,v,?_⟩,?_,?_⟩,fun b hb=>(ge b (lt b hb) (hf b hb)).1⟩
  ·exact (hs2.2 TI D.TIz).trans (hk _ _ D.TIz D.TITO D.TIi1 D.TIi2 hTI)
  ·exact (hs2.2 TO D.TOz).trans a2
  ·exact a3.at fun o q=>(hs2.2 i1 D.i1z).trans q
  ·exact a4.at fun o q=>(hs2.2 i2 D.i2z).trans q
 done:=by
  intro X hP hw hK hc i pins s σ H E I hf st hg
  subst hP hw hK
  obtain⟨hz,hTI,⟨a0,b0,hTO⟩,h1,h2⟩:=st
  obtain⟨xs,ys,hq1,hq2,hx⟩:=hg
  obtain⟨its1,rv1,p1,_⟩:=I.list hq1
  obtain⟨its2,rv2,p2,_⟩:=I.list hq2
  have e1:=rv1.length
  have e2:=rv2.length
  refine wpAny_pyNext_zip_end (I.ok.hd hc) D hz hTI hTO h1 h2 p1.isList p2.isList ?_ fun h' hk=>⟨rfl,I.turnedN (t':=s.toks) (L:=[z,TI,TO,i1,i2]) (fun b o nb q=>?_) hf⟩
  ·rcases hx with hx | hx
   ·exact .inl (by simp;lia)
   ·exact .inr (by simp;lia)
  ·simp at nb
   exact hk b o nb.1 nb.2.2.1 nb.2.2.2.1 nb.2.2.2.2 q
 self:=fun _ _ _ _ _ st h=>wpAny_pyIter_zip st.1 h
section
variable {X:Cx}
def B84 (K:B3) (ta:TA):TI:=fun σ H R=>ta σ H fun vs H1=>∃a b,vs=[.ref a,.ref b]/\(∃xs,SqL K H1 a xs)/\(∃ys,SqL K H1 b ys)/\R (Itz K a b) H1
theorem B85 {elts:List Expr} {x1} {tpos:Pos} {a b:Expr} {ta:TA} {p pos:Pos} (hg:Gl X "zip") (hm:X.mg "zip" = none) (ha:PA X [a,b] ta) (hs:starEach [a,b] X.env=[(false,eval a X.env),(false,eval b X.env)]:=by rfl) (hs2:starEach [b] X.env=[(false,eval b X.env)]:=by rfl):PI X (.Tuple elts x1 tpos) (.Call (.Name "zip" p) [a,b] [] pos) (B84 X.K ta):=by
 intro pins s σ H R I h
 refine Call_ (A1n I hg hm C5h (PyProof.Rows.callWith_type1 (thn (ha pos pins s σ H _ I h) fun us s1 zz285=>el5 zz285 fun vs H1 I1 r1 q1=>?_) (by rw[hs,hs2]) (by rw[hs2];rfl)))
 obtain⟨a',b',e,⟨xs,hq1⟩,⟨ys,hq2⟩,q⟩:=q1
 subst e
 obtain⟨u,v,rfl,ra,rb⟩:=r1.two
 cases ra
 cases rb
 obtain⟨its1,rv1,p1,_⟩:=I1.list hq1
 obtain⟨its2,rv2,p2,_⟩:=I1.list hq2
 have la:a' < s1.heap.objs.size:=by obtain⟨_,e,_⟩:=p1.isList;exact G9 e
 have lb:b' < s1.heap.objs.size:=by obtain⟨_,e,_⟩:=p2.isList;exact G9 e
 refine call_zip_2 p1.isList p2.isList fun h' hz hTI hTO h1 h2 hsz hk=>?_
 refine wpAny_pyIter_zip (s:={ s1 with heap:=h' }) hz ?_
 have I2:Inv X pins σ H1 { s1 with heap:=h' }:=I1.kept (t':=s1.toks) hk
 have ne:∀{x y:Nat},x < y->x≠y:=fun h=>M5 h
 have lt:∀(x k:Nat),x < s1.heap.objs.size->x≠s1.heap.objs.size + k:=fun x k hx=>M5 (S1 hx (Nat.le_add_right _ _))
 have pn:∀(i j:Nat),i≠j->s1.heap.objs.size + i≠s1.heap.objs.size + j:=fun i j hij z=>hij (Nat.add_left_cancel z)
 refine⟨_,[s1.heap.objs.size + 4,s1.heap.objs.size + 2,s1.heap.objs.size + 3,s1.heap.objs.size,s1.heap.objs.size + 1],_,_,H1,rfl,I2,C5z a' b' _ _ _ _ _ ⟨pn 2 4 (by decide),pn 3 4 (by decide),pn 0 4 (by decide),pn 1 4 (by decide),pn 2 3 (by decide),pn 2 0 (by decide),pn 2 1 (by decide),pn 3 0 (by decide),pn 3 1 (by decide),pn 0 1 (by decide),lt a' 4 la,lt a' 3 la,lt a' 0 la,lt a' 1 la,lt b' 4 lb,lt b' 3 lb,lt b' 0 lb,lt b' 1 lb⟩,⟨hz,hTI,⟨_,_,hTO⟩,h1,h2⟩,fun b hb=>?_,q⟩
 have fp:∀k:Nat,U0 X pins H1 (s1.heap.objs.size + k):=fun k=>I1.fpOk (Nat.le_add_right _ _) (I1.hok.fresh (Nat.le_add_right _ _))
 simp at hb
 rcases hb with rfl | rfl | rfl | rfl | rfl
 ·exact fp 4
 ·exact fp 2
 ·exact fp 3
 ·exact fp 0
 ·exact fp 1
end
section
variable {X:Cx} {tg:Expr}
end
section
variable {prog:Program} {w:World} {A:Around} {R:Result->Shared->Prop} {I:Addr} {fp wr:List Addr} {n:Nat} {P:Nat->Value->Prop} {St:Nat->Heap->Prop}
end
section
variable {X:Cx}
end
section
variable {prog:Program} {w:World} {A:Around} {R:Result->Shared->Prop} {I:Addr} {fp wr:List Addr} {n:Nat} {P:Nat->Value->Prop} {St:Nat->Heap->Prop}
end
section
variable {X:Cx}
end
end L2
namespace My
open PySem L2
def Hd (H:Hp) (a l:Addr):Prop:=∃(ns:List Int) (p b c u v:Int),H l=some (.lst (ns.map V.int))/\0<=p/\H a=some (.lst [.ref l,.int p,.int b,.int c,.int u,.int v])
def Kp (a:Addr) (H H':Hp):Prop:=∀b o,H b=some o->b≠a->H' b=some o
theorem Kp.refl (a:Addr) (H:Hp):Kp a H H:=fun _ _ e _=>e
theorem Kp.trans {a:Addr} {H H1 H2:Hp} (x:Kp a H H1) (y:Kp a H1 H2):Kp a H H2:=fun b o e n=>y b o (x b o e n) n
theorem B0e {H:Hp} {a l:Addr} {ns:List Int} {xs:List V} (hl:H l=some (.lst (ns.map V.int))) (ha:H a=some (.lst (.ref l::xs))):l≠a:=C3h hl ha (by
 intro e
 injection e with e
 cases ns with
 | nil=>cases e
 | cons n r=>injection e with e1;cases e1)
theorem Hd.at1 {H:Hp} {a l:Addr} (h:Hd H a l):∃o,H a=some o:=let ⟨_,_,_,_,_,_,_,_,e⟩:=h;⟨_,e⟩
theorem Hd.at2 {H:Hp} {a l:Addr} (h:Hd H a l):∃o,H l=some o:=let ⟨_,_,_,_,_,_,e,_⟩:=h;⟨_,e⟩
theorem Hd.ne {H:Hp} {a l p:Addr} (h:Hd H a l) (hp:H p=none):p≠a/\p≠l:=by
 obtain⟨o,e⟩:=h.at1
 obtain⟨o',e'⟩:=h.at2
 exact⟨(N7 e hp).symm,(N7 e' hp).symm⟩
theorem Hd.wr {H:Hp} {a l p:Addr} {o:HO} (h:Hd H a l) (n1:p≠a) (n2:p≠l):Hd (upd H p o) a l:=by
 obtain⟨ns,q,b,c,u,v,h1,h2,h3⟩:=h
 exact⟨ns,q,b,c,u,v,by rw[C1 n2.symm];exact h1,h2,by rw[C1 n1.symm];exact h3⟩
theorem Hd.lay {H:Hp} {a l p:Addr} {o:HO} (h:Hd H a l) (hp:H p=none):Hd (upd H p o) a l:=h.wr (h.ne hp).1 (h.ne hp).2
theorem Hd.same {H H':Hp} {a l:Addr} (h:Hd H a l) (s:Same H H'):Hd H' a l:=by
 obtain⟨ns,q,b,c,u,v,h1,h2,h3⟩:=h
 exact⟨ns,q,b,c,u,v,s _ _ h1,h2,s _ _ h3⟩
theorem _root_.L2.Same.lay {p:Addr} {H H1:Hp} {o:HO} (x:Same H H1) (h:H1 p=none):Same H (upd H1 p o):=fun b u e=>by
 have e1:=x b u e
 rw[C1 (N7 e1 h)];exact e1
theorem C50 {ns:List Int} {p:Int} (h0:0<=p) (h1:p < (ns.length:Int)):∃z,atI (ns.map V.int) p=some (.int z):=by
 obtain⟨n,rfl⟩:=Int.eq_ofNat_of_zero_le h0
 have hp:n < ns.length:=by lia
 exact⟨ns[n],P0 (by rw[M7,K3 hp];rfl)⟩
def C51 (K:B3):Sp:=fun vs H Q _=>∃(a:Addr) (ns:List Int),vs=[.ref a]/\SqL K H a (ns.map V.int)/\∀(p l:Addr) (H':Hp),H p=none->H l=none->Hd H' p l->Same H H'->Q (.ref p) H'
def C52:Sp:=fun vs H Q _=>∃a l,vs=[.ref a]/\Hd H a l/\∀(r:Int) (H':Hp),Hd H' a l->Kp a H H'->Q (.int r) H'
def C53:Sp:=fun vs H Q _=>∃a l,vs=[.ref a]/\Hd H a l/\∀(H':Hp),Hd H' a l->Kp a H H'->Q .non H'
def C54:Sp:=fun vs H Q _=>∃a l m,vs=[.ref a,.int m]/\Hd H a l/\0 < m/\m < 100000000000000000000000000000000000000000000000000000000000000/\∀(r:Int) (H':Hp),0<=r->r < m->Hd H' a l->Kp a H H'->Q (.int r) H'
def dEn (ks:List (List Int)):List (List Key×V):=ks.map fun k=>(k.map Sum.inl,V.bl true)
def dEm (ks:List (List Int×Int)):List (List Key×V):=ks.map fun p=>(p.1.map Sum.inl,V.int p.2)
def B86 (k:List Int):PyData:=.tuple (k.map PyData.int)
inductive DiU:HO->List (PyData×PyData)->Prop
 | t:DiU (.dT []) []
 | k (i j:Int):DiU (.dK [(Sum.inl i,V.int j)]) [(.int i,.int j)]
 | f (o:Obj) (ks:List (List Int)):DiU (.frz o (.dT (dEn ks))) ((.none,.none)::ks.map fun k=>(B86 k,.bool true))
mutual
inductive ThV (F:Addr->Prop) (H:Hp):V->PyData->Prop
 | non:ThV F H .non .none
 | bl (b):ThV F H (.bl b) (.bool b)
 | int (i):ThV F H (.int i) (.int i)
 | str (x):ThV F H (.str x) (.str x)
 | lst {a xs ds}:F a->H a=some (.lst xs)->A9 F H xs ds->ThV F H (.ref a) (.list ds)
 | tup {a xs ds}:F a->H a=some (.tup xs)->A9 F H xs ds->ThV F H (.ref a) (.tuple ds)
 | dic {a u kvs}:F a->H a=some u->DiU u kvs->ThV F H (.ref a) (.dict kvs)
inductive A9 (F:Addr->Prop) (H:Hp):List V->List PyData->Prop
 | nil:A9 F H [] []
 | cons {x xs d ds}:ThV F H x d->A9 F H xs ds->A9 F H (x::xs) (d::ds)
end
mutual
theorem ThV.mv {F G:Addr->Prop} {H H':Hp} (f:∀b o,F b->H b=some o->G b/\H' b=some o):∀{v:V} {d:PyData},ThV F H v d->ThV G H' v d
 | _,_,.non=>.non
 | _,_,.bl b=>.bl b
 | _,_,.int i=>.int i
 | _,_,.str x=>.str x
 | _,_,.lst n e t=>.lst (f _ _ n e).1 (f _ _ n e).2 (A9.mv f t)
 | _,_,.tup n e t=>.tup (f _ _ n e).1 (f _ _ n e).2 (A9.mv f t)
 | _,_,.dic n e t=>.dic (f _ _ n e).1 (f _ _ n e).2 t
theorem A9.mv {F G:Addr->Prop} {H H':Hp} (f:∀b o,F b->H b=some o->G b/\H' b=some o):∀{vs:List V} {ds:List PyData},A9 F H vs ds->A9 G H' vs ds
 | _,_,.nil=>.nil
 | _,_,.cons x t=>.cons (ThV.mv f x) (A9.mv f t)
end
theorem A9.same {F:Addr->Prop} {H H':Hp} {v:List V} {d:List PyData} (t:A9 F H v d) (s:Same H H'):A9 F H' v d:=t.mv fun b o z e=>⟨z,s b o e⟩
theorem A9.append {F:Addr->Prop} {H:Hp} {xs:List V} {ds:List PyData} {ys:List V} {es:List PyData} (t:A9 F H xs ds) (y:A9 F H ys es):A9 F H (xs++ys) (ds++es):=by
 induction xs generalizing ds with
 | nil=>cases t;exact y
 | cons v xs ih=>
  cases t with
  | cons x t=>exact .cons x (ih t)
theorem A9.len {F:Addr->Prop} {H:Hp} {xs:List V} {ds:List PyData} (t:A9 F H xs ds):xs.length=ds.length:=by
 induction xs generalizing ds with
 | nil=>cases t;rfl
 | cons v xs ih=>
  cases t with
  | cons x t=>rw[K8,K8,ih t]
theorem A9.get {F:Addr->Prop} {H:Hp}:∀{xs:List V} {ds:List PyData} {i:Nat} {v:V},A9 F H xs ds->xs[i]?=some v->∃d,ds[i]?=some d/\ThV F H v d
 | _,_,_,_,.nil,e=>by simp at e
 | _,_,0,v,.cons (d:=d) x _,e=>by
  have e':=Option.some.inj e
  subst e'
  exact⟨d,rfl,x⟩
 | _,_,i + 1,v,.cons _ t,e=>A9.get (i:=i) t e
theorem A9.at {F:Addr->Prop} {H:Hp}:∀{xs:List V} {ds:List PyData} {i:Nat} {d:PyData},A9 F H xs ds->ds[i]?=some d->∃v,xs[i]?=some v/\ThV F H v d
 | _,_,_,_,.nil,e=>by simp at e
 | _,_,0,d,.cons (x:=v) x _,e=>by
  have e':=Option.some.inj e
  subst e'
  exact⟨v,rfl,x⟩
 | _,_,i + 1,v,.cons _ t,e=>A9.at (i:=i) t e
mutual
theorem ThV.dat {K:B3} {F:Addr->Prop} {H:Hp}:∀{v:V} {d:PyData},ThV F H v d->d.canLay0=true->i8 K H v d
 | _,_,.non,_=>.non
 | _,_,.bl b,_=>.bl b
 | _,_,.int i,_=>.int i
 | _,_,.str x,_=>.str x
 | _,_,.lst _ e t,h=>.lst (SqL.of e) (A9.dat t (by rw[PyData.canLay0] at h;exact h))
 | _,_,.tup _ e t,h=>.tup (SqT.of e) (A9.dat t (by rw[PyData.canLay0] at h;exact h))
 | _,_,.dic _ _ _,h=>by rw[PyData.canLay0] at h;cases h
theorem A9.dat {K:B3} {F:Addr->Prop} {H:Hp}:∀{vs:List V} {ds:List PyData},A9 F H vs ds->PyData.canLayAll0 ds=true->w6 K H vs ds
 | _,_,.nil,_=>.nil
 | _,_,.cons x t,h=>by
  rw[PyData.canLayAll0,U7] at h
  exact .cons (ThV.dat x h.1) (A9.dat t h.2)
end
structure DC where
 F:Addr->Prop
 hand:Option (Addr×Addr)
 H0:Hp
def Kq (h:Option (Addr×Addr)) (H H':Hp):Prop:=∀b o,H b=some o->(∀q,h=some q->b≠q.1)->H' b=some o
def Hq (h:Option (Addr×Addr)) (H:Hp):Prop:=∀q,h=some q->Hd H q.1 q.2
section
variable {h:Option (Addr×Addr)} {H H1 H2 H':Hp} {p:Addr} {o:HO}
theorem Kq.refl:Kq h H H:=fun _ _ e _=>e
theorem Kq.trans (a:Kq h H H1) (b:Kq h H1 H2):Kq h H H2:=fun c o e n=>b c o (a c o e n) n
theorem Kq.same (s:Same H H'):Kq h H H':=fun b o e _=>s b o e
theorem Kq.fr {b:Addr} (k:Kq h H H') (q:Hq h H') (e:H' b=none):H b=none:=by
 cases z:H b with
 | none=>rfl
 | some o=>
  by_cases c:∀p,h=some p->b≠p.1
  ·rw[k b o z c] at e;cases e
  ·refine absurd (fun p hp hb=>?_) c
   obtain⟨o',e'⟩:=(q p hp).at1
   rw[hb,e'] at e;cases e
theorem Kq.lay (hp:H p=none):Kq h H (upd H p o):=Kq.same ((Same.refl H).lay hp)
theorem Hq.lay (q:Hq h H) (hp:H p=none):Hq h (upd H p o):=fun z hz=>(q z hz).lay hp
theorem Hq.same (q:Hq h H) (s:Same H H'):Hq h H':=fun z hz=>(q z hz).same s
end
inductive Rws (G F:Addr->Prop) (H:Hp):List Addr->List (List PyData)->Prop
 | nil:Rws G F H [] []
 | cons {b vs as ds dss}:G b->H b=some (.lst vs)->A9 F H vs ds->Rws G F H as dss->Rws G F H (b::as) (ds::dss)
theorem Rws.mv {G F G' F':Addr->Prop} {H H':Hp} {as:List Addr} {dss:List (List PyData)} (t:Rws G F H as dss) (f:∀b o,F b->H b=some o->F' b/\H' b=some o) (g:∀b o,G b->H b=some o->G' b/\H' b=some o):Rws G' F' H' as dss:=by
 induction t with
 | nil=>exact .nil
 | cons x e y _ ih=>exact .cons (g _ _ x e).1 (g _ _ x e).2 (y.mv f) ih
theorem Rws.mvl {G F G' F':Addr->Prop} {H H':Hp} {as:List Addr} {dss:List (List PyData)} (t:Rws G F H as dss) (f:∀b o,F b->H b=some o->F' b/\H' b=some o) (g:∀b ys,G b->H b=some (.lst ys)->G' b/\H' b=some (.lst ys)):Rws G' F' H' as dss:=by
 induction t with
 | nil=>exact .nil
 | cons x e y _ ih=>exact .cons (g _ _ x e).1 (g _ _ x e).2 (y.mv f) ih
def A7i (H:Hp) (a:Addr) (ks:List (List Int)):Bool->Prop
 | false=>H a=some (.dT (dEn ks))
 | true=>∃o,H a=some (.frz o (.dT (dEn ks)))
theorem A7i.mv {H H':Hp} {a:Addr} {ks:List (List Int)} {f:Bool} (h:A7i H a ks f) (k:∀o,H a=some o->H' a=some o):A7i H' a ks f:=by
 cases f with
 | false=>exact k _ h
 | true=>obtain⟨o,h⟩:=h;exact⟨o,k _ h⟩
theorem A7i.ne {H:Hp} {a:Addr} {ks:List (List Int)} {f:Bool} (h:A7i H a ks f):H a≠none:=by
 cases f with
 | false=>exact fun q=>by rw[show H a=_ from h] at q;cases q
 | true=>obtain⟨o,h⟩:=h;exact fun q=>by rw[h] at q;cases q
def A7j (H:Hp) (a:Addr) (ks:List (List Int×Int)):Bool->Prop
 | false=>H a=some (.dT (dEm ks))
 | true=>∃o,H a=some (.frz o (.dT (dEm ks)))
theorem A7j.mv {H H':Hp} {a:Addr} {ks:List (List Int×Int)} {f:Bool} (h:A7j H a ks f) (k:∀o,H a=some o->H' a=some o):A7j H' a ks f:=by
 cases f with
 | false=>exact k _ h
 | true=>obtain⟨o,h⟩:=h;exact⟨o,k _ h⟩
theorem A7j.ne {H:Hp} {a:Addr} {ks:List (List Int×Int)} {f:Bool} (h:A7j H a ks f):H a≠none:=by
 cases f with
 | false=>exact fun q=>by rw[show H a=_ from h] at q;cases q
 | true=>obtain⟨o,h⟩:=h;exact fun q=>by rw[h] at q;cases q
structure A8v where
 p:(Addr->Prop)->Hp->V->Prop
 mv:∀{W W':Addr->Prop} {H H':Hp} {v:V},(∀b o,W b->H b=some o->W' b/\H' b=some o)->p W H v->p W' H' v
inductive Sl where
 | no
 | sh (d:PyData)
 | ow (ds:List PyData)
 | bo (ds:List PyData)
 | hd
 | o2 (dss:List (List PyData))
 | b2 (dss:List (List PyData))
 | di (f:Bool) (ks:List (List Int))
 | dm (f:Bool) (kvs:List (List Int×Int))
 | bd (d:PyData)
 | ot (d:PyData)
 | ob (R:A8v)
abbrev Z (col:Addr->Nat):Addr->Prop:=fun b=>col b=0
abbrev Le (C:DC):Addr->Prop:=fun b=>C.H0 b≠none/\∀q,C.hand=some q->b≠q.1
abbrev Ow (C:DC) (col:Addr->Nat) (H:Hp) (i:Nat):Addr->Prop:=fun b=>(col b=2 * i + 3/\C.H0 b=none)\/(col b=0/\∃xs,H b=some (.tup xs))
def SlR (C:DC) (col:Addr->Nat) (H:Hp) (i:Nat) (o:Option V):Sl->Prop
 | .no=>True
 | .sh d=>∃v,o=some v/\ThV (Z col) H v d
 | .ow ds=>∃a vs,o=some (.ref a)/\col a=2 * i + 3/\C.H0 a=none/\H a=some (.lst vs)/\A9 (Z col) H vs ds
 | .bo ds=>∃a vs,o=some (.ref a)/\col a<=1/\(∀q,C.hand=some q->a≠q.1)/\H a=some (.lst vs)/\A9 (Z col) H vs ds
 | .hd=>∃q,C.hand=some q/\o=some (.ref q.1)
 | .o2 dss=>∃a as,o=some (.ref a)/\(col a=2 * i + 3/\C.H0 a=none)/\H a=some (.lst (as.map V.ref))/\(a::as).Nodup/\Rws (fun b=>col b=2 * i + 3/\C.H0 b=none) (Z col) H as dss
 | .b2 dss=>∃a as,o=some (.ref a)/\(col a<=1/\∀q,C.hand=some q->a≠q.1)/\H a=some (.lst (as.map V.ref))/\Rws (fun b=>col b<=1/\∀q,C.hand=some q->b≠q.1) (Z col) H as dss
 | .di f ks=>∃a,o=some (.ref a)/\col a=2 * i + 3/\C.H0 a=none/\A7i H a ks f
 | .dm f ks=>∃a,o=some (.ref a)/\col a=2 * i + 3/\C.H0 a=none/\A7j H a ks f
 | .bd d=>∃v,o=some v/\ThV (Le C) C.H0 v d
 | .ot d=>∃v,o=some v/\ThV (Ow C col H i) H v d
 | .ob R=>∃v,o=some v/\R.p (Ow C col H i) H v
inductive Pe where
 | v (v:V) (d:PyData)
 | n (a:Addr) (o:HO)
 | s (vs:List V) (ds:List PyData)
 | o (c:Nat) (as:List Addr) (dss:List (List PyData))
 | w (v:V) (d:PyData)
def PeR (C:DC) (col:Addr->Nat) (H:Hp):Pe->Prop
 | .v v d=>ThV (Z col) H v d
 | .n a o=>col a<=1/\(∀q,C.hand=some q->a≠q.1)/\H a=some o
 | .s vs ds=>A9 (Z col) H vs ds
 | .o c as dss=>as.Nodup/\Rws (fun b=>col b=2 * c + 2/\C.H0 b=none) (Z col) H as dss
 | .w v d=>ThV (Le C) C.H0 v d
structure D8 (C:DC) (col:Addr->Nat) (ρ:List Sl) (σ:St) (P:List Pe) (H:Hp):Prop where
 fresh:∀b,H b=none->col b=0
 inF:∀b,col b=0->C.F b
 hnd:∀q,C.hand=some q->col q.1=1
 sl:∀i s,ρ[i]?=some s->SlR C col H i (σ[i]?).join s
 pd:∀p∈P,PeR C col H p
 kq:Kq C.hand C.H0 H
 hq:Hq C.hand H
 hq0:Hq C.hand C.H0
 nf:(∀b,C.H0 b=none->C.F b)/\∀b xs,C.H0 b=some (.tup xs)->C.F b
 len:ρ.length=σ.length
def Rel (C:DC) (ρ:List Sl) (σ:St) (P:List Pe) (H:Hp):Prop:=∃col,D8 C col ρ σ P H
section
variable {C:DC} {col col':Addr->Nat} {ρ:List Sl} {σ:St} {P P':List Pe} {H H':Hp} {v:V} {d:PyData} {o:HO} {p:Addr}
theorem D8.notH (r:D8 C col ρ σ P H) {b:Addr} (hb:col b≠1):∀q,C.hand=some q->b≠q.1:=fun q hq e=>hb (e▸r.hnd q hq)
theorem D8.mv (r:D8 C col ρ σ P H) (k:Kq C.hand H H') (q:Hq C.hand H'):D8 C col ρ σ P H':=by
 have mv0:∀b o,Z col b->H b=some o->Z col b/\H' b=some o:=fun b o z e=>⟨z,k b o e (r.notH (by rw[show col b=0 from z];decide))⟩
 refine⟨fun b e=>r.fresh b (k.fr q e),r.inF,r.hnd,fun i s e=>?_,fun p hp=>?_,r.kq.trans k,q,r.hq0,r.nf,r.len⟩
 ·have h:=r.sl i s e
  cases s with
  | no=>trivial
  | sh d=>obtain⟨v,e1,t⟩:=h;exact⟨v,e1,t.mv mv0⟩
  | ow ds=>obtain⟨a,vs,e1,c,n,e2,t⟩:=h;exact⟨a,vs,e1,c,n,k a _ e2 (r.notH (by lia)),t.mv mv0⟩
  | bo ds=>obtain⟨a,vs,e1,c,n,e2,t⟩:=h;exact⟨a,vs,e1,c,n,k a _ e2 n,t.mv mv0⟩
  | hd=>exact h
  | o2 dss=>obtain⟨a,as,e1,c,e2,nd,t⟩:=h;exact⟨a,as,e1,c,k a _ e2 (r.notH (by lia)),nd,t.mv mv0 fun b o g e=>⟨g,k b o e (r.notH (by have:=g.1;lia))⟩⟩
  | b2 dss=>obtain⟨a,as,e1,c,e2,t⟩:=h;exact⟨a,as,e1,c,k a _ e2 c.2,t.mv mv0 fun b o g e=>⟨g,k b o e g.2⟩⟩
  | di f ks=>obtain⟨a,e1,c,n,e2⟩:=h;exact⟨a,e1,c,n,e2.mv fun o e=>k a o e (r.notH (by lia))⟩
  | dm f ks=>obtain⟨a,e1,c,n,e2⟩:=h;exact⟨a,e1,c,n,e2.mv fun o e=>k a o e (r.notH (by lia))⟩
  | bd d=>exact h
  | ot d=>
   obtain⟨v,e1,t⟩:=h
   refine⟨v,e1,t.mv fun b o g e=>?_⟩
   have e':H' b=some o:=k b o e (r.notH (by rcases g with g | g <;> (have:=g.1;lia)))
   exact⟨g.imp id fun ⟨c,xs,z⟩=>⟨c,xs,by rw[e] at z;rw[e'];exact z⟩,e'⟩
  | ob R=>
   obtain⟨v,e1,t⟩:=h
   refine⟨v,e1,R.mv (fun b o g e=>?_) t⟩
   have e':H' b=some o:=k b o e (r.notH (by rcases g with g | g <;> (have:=g.1;lia)))
   exact⟨g.imp id fun ⟨c,xs,z⟩=>⟨c,xs,by rw[e] at z;rw[e'];exact z⟩,e'⟩
 ·have h:=r.pd p hp
  cases p with
  | v v d=>exact ThV.mv mv0 h
  | n a o=>exact⟨h.1,h.2.1,k a o h.2.2 h.2.1⟩
  | s vs ds=>exact A9.mv mv0 h
  | o c as dss=>exact⟨h.1,h.2.mv mv0 fun b o g e=>⟨g,k b o e (r.notH (by have:=g.1;lia))⟩⟩
  | w v d=>exact h
theorem D8.lay (r:D8 C col ρ σ P H) (hp:H p=none):D8 C col ρ σ P (upd H p o):=r.mv (Kq.lay hp) (r.hq.lay hp)
theorem D8.add (r:D8 C col ρ σ P H) {x:Pe} (t:PeR C col H x):D8 C col ρ σ (x::P) H:=
 { r with pd:=fun p hp=>(N1.mp hp).elim (fun e=>e▸t) (r.pd p) }
theorem D8.push (r:D8 C col ρ σ P H) (t:ThV (Z col) H v d):D8 C col ρ σ (.v v d::P) H:=r.add t
theorem D8.sub (r:D8 C col ρ σ P H) (h:∀p∈P',p∈P):D8 C col ρ σ P' H:={ r with pd:=fun p hp=>r.pd p (h p hp) }
theorem Rel.sub (r:Rel C ρ σ P H) (h:∀p∈P',p∈P):Rel C ρ σ P' H:=let ⟨c,r⟩:=r;⟨c,r.sub h⟩
theorem Rel.pop {x:Pe} (r:Rel C ρ σ (x::P) H):Rel C ρ σ P H:=r.sub fun _ h=>B6 _ h
theorem D8.tup {vs:List V} {ds:List PyData} (r:D8 C col ρ σ P H) (t:A9 (Z col) H vs ds) (hp:H p=none):D8 C col ρ σ (.v (.ref p) (.tuple ds)::P) (upd H p (.tup vs)):=
 (r.lay hp).push (.tup (r.fresh p hp) E4 (t.same ((Same.refl H).lay hp)))
theorem D8.lst {vs:List V} {ds:List PyData} (r:D8 C col ρ σ P H) (t:A9 (Z col) H vs ds) (hp:H p=none):D8 C col ρ σ (.v (.ref p) (.list ds)::P) (upd H p (.lst vs)):=
 (r.lay hp).push (.lst (r.fresh p hp) E4 (t.same ((Same.refl H).lay hp)))
theorem D8.recol (r:D8 C col ρ σ P H) {ρ':List Sl} {σ':St} (hl:ρ'.length=σ'.length) (f:∀b,H b=none->col' b=0) (i:∀b,col' b=0->C.F b) (n:∀q,C.hand=some q->col' q.1=1) (z:∀b,col b=0->H b≠none->col' b=0)
  (lo:∀b,col b<=1->H b≠none->col' b<=1) (c2:∀b c,col b=2 * c + 2->col' b=2 * c + 2) (s:∀i s,ρ'[i]?=some s->SlR C col' H i (σ'[i]?).join s):D8 C col' ρ' σ' P H:=by
 have mv0:∀b o,Z col b->H b=some o->Z col' b/\H b=some o:=fun b o zz e=>⟨z b zz (by rw[e];exact fun q=>nomatch q),e⟩
 refine⟨f,i,n,s,fun p hp=>?_,r.kq,r.hq,r.hq0,r.nf,hl⟩
 have h:=r.pd p hp
 cases p with
 | v v d=>exact ThV.mv mv0 h
 | n a o=>exact⟨lo a h.1 (by rw[h.2.2];exact fun q=>nomatch q),h.2⟩
 | s vs ds=>exact A9.mv mv0 h
 | o c as dss=>exact⟨h.1,h.2.mv mv0 fun b o g e=>⟨⟨c2 b c g.1,g.2⟩,e⟩⟩
 | w v d=>exact h
theorem D8.freeze {i:Nat} {ds:List PyData} (r:D8 C col ρ σ P H) (e:ρ[i]?=some (.ow ds)) :
  ∃a,(σ[i]?).join=some (.ref a)/\Rel C (ρ.set i (.sh (.list ds))) σ (.v (.ref a) (.list ds)::P) H:=by
 obtain⟨a,vs,e1,c,n,e2,t⟩:=r.sl i _ e
 let col':Addr->Nat:=fun b=>if b=a then 0 else col b
 have ca:col' a=0:=if_pos rfl
 have cn:∀b,b≠a->col' b=col b:=fun b hb=>if_neg hb
 have z:∀b,col b=0->col' b=0:=fun b hb=>by
  by_cases q:b=a
  ·rw[q];exact ca
  ·rw[cn b q];exact hb
 have mv0:∀b o,Z col b->H b=some o->Z col' b/\H b=some o:=fun b o zz e=>⟨z b zz,e⟩
 have T:ThV (Z col') H (.ref a) (.list ds):=.lst ca e2 (t.mv mv0)
 have R:D8 C col' (ρ.set i (.sh (.list ds))) σ P H:=by
  refine r.recol (by rw[O3];exact r.len) (fun b hb=>z b (r.fresh b hb)) (fun b hb=>?_) (fun q hq=>?_) (fun b hb _=>z b hb) (fun b hb _=>?_) (fun b c2 hb=>by rw[cn b (fun q=>by rw[q] at hb;lia)];exact hb) fun j s es=>?_
  ·by_cases q:b=a
   ·rw[q];exact r.nf.1 a n
   ·rw[cn b q] at hb;exact r.inF b hb
  ·rw[cn _ fun q'=>by have:=r.hnd q hq;rw[q'] at this;lia];exact r.hnd q hq
  ·by_cases q:b=a
   ·rw[q,ca];lia
   ·rw[cn b q];exact hb
  ·by_cases hj:j=i
   ·subst hj
    rw[n9] at es
    simp only[if_true] at es
    split at es
    ·cases es;exact⟨_,e1,T⟩
    ·cases es
   ·rw[U6 (Ne.symm hj)] at es
    have h:=r.sl j s es
    cases s with
    | no=>trivial
    | sh d=>obtain⟨v,e1,t⟩:=h;exact⟨v,e1,t.mv mv0⟩
    | ow ds=>obtain⟨a',vs',e1',c',n',e2',t'⟩:=h;exact⟨a',vs',e1',by rw[cn a' (fun q=>by rw[q] at c';lia)];exact c',n',e2',t'.mv mv0⟩
    | bo ds=>obtain⟨a',vs',e1',c',n',e2',t'⟩:=h;exact⟨a',vs',e1',by by_cases q:a'=a;{ rw[q,ca];lia };{ rw[cn a' q];exact c' },n',e2',t'.mv mv0⟩
    | hd=>exact h
    | o2 dss=>obtain⟨a',as',e1',c',e2',nd',t'⟩:=h;exact⟨a',as',e1',⟨by rw[cn a' (fun q=>by rw[q] at c';lia)];exact c'.1,c'.2⟩,e2',nd',t'.mv mv0 fun b o g e=>⟨⟨by rw[cn b (fun q=>by have:=g.1;rw[q] at this;lia)];exact g.1,g.2⟩,e⟩⟩
    | b2 dss=>obtain⟨a',as',e1',c',e2',t'⟩:=h;exact⟨a',as',e1',⟨by by_cases q:a'=a;{ rw[q,ca];lia };{ rw[cn a' q];exact c'.1 },c'.2⟩,e2',t'.mv mv0 fun b o g e=>⟨⟨by by_cases q:b=a;{ rw[q,ca];lia };{ rw[cn b q];exact g.1 },g.2⟩,e⟩⟩
    | di f ks=>obtain⟨a',e1',c',n',e2'⟩:=h;exact⟨a',e1',by rw[cn a' (fun q=>by rw[q] at c';lia)];exact c',n',e2'⟩
    | dm f ks=>obtain⟨a',e1',c',n',e2'⟩:=h;exact⟨a',e1',by rw[cn a' (fun q=>by rw[q] at c';lia)];exact c',n',e2'⟩
    | bd d=>exact h
    | ot d=>obtain⟨v,e1',t'⟩:=h;exact⟨v,e1',t'.mv fun b o g e=>⟨g.imp (fun g=>⟨by rw[cn b (fun q=>by rw[q] at g;have:=g.1;lia)];exact g.1,g.2⟩) fun g=>⟨z b g.1,g.2⟩,e⟩⟩
    | ob R=>obtain⟨v,e1',t'⟩:=h;exact⟨v,e1',R.mv (fun b o g e=>⟨g.imp (fun g=>⟨by rw[cn b (fun q=>by rw[q] at g;have:=g.1;lia)];exact g.1,g.2⟩) fun g=>⟨z b g.1,g.2⟩,e⟩) t'⟩
 exact⟨a,e1,col',R.push T⟩
theorem D8.store {i:Nat} (r:D8 C col ρ σ P H) (t:ThV (Z col) H v d):D8 C col (ρ.set i (.sh d)) (σ.set i (some v)) P H:=by
 refine { r with sl:=fun j s es=>?_,len:=by rw[O3,O3];exact r.len }
 by_cases hj:j=i
 ·subst hj
  rw[n9] at es
  simp only[if_true] at es
  split at es
  ·rename_i hl
   cases es
   refine⟨v,?_,t⟩
   rw[n9,if_pos rfl,if_pos (by rw[<-r.len];exact hl)];rfl
  ·cases es
 ·rw[U6 (Ne.symm hj)] at es
  rw[U6 (Ne.symm hj)]
  exact r.sl j s es
theorem D8.own {i:Nat} {vs:List V} {ds:List PyData} (r:D8 C col ρ σ P H) (t:A9 (Z col) H vs ds) (hp:H p=none):Rel C (ρ.set i (.ow ds)) (σ.set i (some (.ref p))) P (upd H p (.lst vs)):=by
 let col':Addr->Nat:=fun b=>if b=p then 2 * i + 3 else col b
 have ca:col' p=2 * i + 3:=if_pos rfl
 have cn:∀b,b≠p->col' b=col b:=fun b hb=>if_neg hb
 have ne:∀b,H b≠none->b≠p:=fun b hb q=>hb (q▸hp)
 have mv0:∀b o,Z col b->H b=some o->Z col' b/\upd H p (.lst vs) b=some o:=fun b o zz e=>by
  have q:=ne b (by rw[e];exact fun q=>nomatch q)
  exact⟨(cn b q).trans zz,by rw[C1 q];exact e⟩
 have r1:=r.lay (o:=.lst vs) hp
 have c0:C.H0 p=none:=r.kq.fr r.hq hp
 refine⟨col',fun b hb=>?_,fun b hb=>?_,fun q hq=>?_,fun j s es=>?_,fun x hx=>?_,r1.kq,r1.hq,r.hq0,r.nf,by rw[O3,O3];exact r.len⟩
 ·have q:b≠p:=fun q=>by rw[q,E4] at hb;cases hb
  rw[cn b q];exact r1.fresh b hb
 ·have q:b≠p:=fun q=>by rw[q,ca] at hb;cases hb
  rw[cn b q] at hb;exact r.inF b hb
 ·obtain⟨o',e'⟩:=(r.hq q hq).at1
  rw[cn _ (ne _ (by rw[e'];exact fun q=>nomatch q))];exact r.hnd q hq
 ·by_cases hj:j=i
  ·subst hj
   rw[n9] at es
   simp only[if_true] at es
   split at es
   ·rename_i hl
    cases es
    exact⟨p,vs,by rw[n9,if_pos rfl,if_pos (by rw[<-r.len];exact hl)];rfl,ca,c0,E4,t.mv mv0⟩
   ·cases es
  ·rw[U6 (Ne.symm hj)] at es
   rw[U6 (Ne.symm hj)]
   have h:=r.sl j s es
   cases s with
   | no=>trivial
   | sh d=>obtain⟨v,e1,t⟩:=h;exact⟨v,e1,t.mv mv0⟩
   | ow ds=>
    obtain⟨a',vs',e1',c',n',e2',t'⟩:=h
    have q:=ne a' (by rw[e2'];exact fun q=>nomatch q)
    exact⟨a',vs',e1',by rw[cn a' q];exact c',n',by rw[C1 q];exact e2',t'.mv mv0⟩
   | bo ds=>
    obtain⟨a',vs',e1',c',n',e2',t'⟩:=h
    have q:=ne a' (by rw[e2'];exact fun q=>nomatch q)
    exact⟨a',vs',e1',by rw[cn a' q];exact c',n',by rw[C1 q];exact e2',t'.mv mv0⟩
   | hd=>exact h
   | o2 dss=>
    obtain⟨a',as',e1',c',e2',nd',t'⟩:=h
    have q:=ne a' (by rw[e2'];exact fun q=>nomatch q)
    exact⟨a',as',e1',⟨by rw[cn a' q];exact c'.1,c'.2⟩,by rw[C1 q];exact e2',nd',t'.mv mv0 fun b o g e=>by
     have q:=ne b (by rw[e];exact fun q=>nomatch q)
     exact⟨⟨by rw[cn b q];exact g.1,g.2⟩,by rw[C1 q];exact e⟩⟩
   | b2 dss=>
    obtain⟨a',as',e1',c',e2',t'⟩:=h
    have q:=ne a' (by rw[e2'];exact fun q=>nomatch q)
    exact⟨a',as',e1',⟨by rw[cn a' q];exact c'.1,c'.2⟩,by rw[C1 q];exact e2',t'.mv mv0 fun b o g e=>by
     have q:=ne b (by rw[e];exact fun q=>nomatch q)
     exact⟨⟨by rw[cn b q];exact g.1,g.2⟩,by rw[C1 q];exact e⟩⟩
   | di f ks=>
    obtain⟨a',e1',c',n',e2'⟩:=h
    have q:=ne a' e2'.ne
    exact⟨a',e1',by rw[cn a' q];exact c',n',e2'.mv fun o e=>by rw[C1 q];exact e⟩
   | dm f ks=>
    obtain⟨a',e1',c',n',e2'⟩:=h
    have q:=ne a' e2'.ne
    exact⟨a',e1',by rw[cn a' q];exact c',n',e2'.mv fun o e=>by rw[C1 q];exact e⟩
   | bd d=>exact h
   | ot d=>
    obtain⟨v,e1',t'⟩:=h
    exact⟨v,e1',t'.mv fun b o g e=>by
     have q:=ne b (by rw[e];exact fun q=>nomatch q)
     exact⟨g.imp (fun g=>⟨by rw[cn b q];exact g.1,g.2⟩) fun g=>⟨by rw[cn b q];exact g.1,by rw[C1 q];exact g.2⟩,by rw[C1 q];exact e⟩⟩
   | ob R=>
    obtain⟨v,e1',t'⟩:=h
    exact⟨v,e1',R.mv (fun b o g e=>by
     have q:=ne b (by rw[e];exact fun q=>nomatch q)
     exact⟨g.imp (fun g=>⟨by rw[cn b q];exact g.1,g.2⟩) fun g=>⟨by rw[cn b q];exact g.1,by rw[C1 q];exact g.2⟩,by rw[C1 q];exact e⟩) t'⟩
 ·have h:=r.pd x hx
  cases x with
  | v v d=>exact ThV.mv mv0 h
  | n a o=>
   have q:=ne a (by rw[h.2.2];exact fun q=>nomatch q)
   exact⟨by rw[cn a q];exact h.1,h.2.1,by rw[C1 q];exact h.2.2⟩
  | s vs ds=>exact A9.mv mv0 h
  | o c as dss=>exact⟨h.1,h.2.mv mv0 fun b o g e=>by
    have q:=ne b (by rw[e];exact fun q=>nomatch q)
    exact⟨⟨by rw[cn b q];exact g.1,g.2⟩,by rw[C1 q];exact e⟩⟩
  | w v d=>exact h
theorem D8.write {i:Nat} {a:Addr} {ws:List V} {ds es:List PyData} (r:D8 C col ρ σ P H) (e:ρ[i]?=some (.ow ds)) (ea:(σ[i]?).join=some (.ref a)) (t:A9 (Z col) H ws es) :
  D8 C col (ρ.set i (.ow es)) σ P (upd H a (.lst ws)):=by
 obtain⟨a',vs',e1,c,n,e2,_⟩:=r.sl i _ e
 rw[e1] at ea
 cases ea
 have ne:∀b,col b≠2 * i + 3->b≠a:=fun b hb q=>hb (q▸c)
 have mv0:∀b o,Z col b->H b=some o->Z col b/\upd H a (.lst ws) b=some o:=fun b o zz e=>⟨zz,by rw[C1 (ne b (by rw[show col b=0 from zz];lia))];exact e⟩
 refine⟨fun b hb=>?_,r.inF,r.hnd,fun j s es'=>?_,fun x hx=>?_,fun b o e q=>?_,fun q hq=>?_,r.hq0,r.nf,by rw[O3];exact r.len⟩
 ·by_cases q:b=a
  ·rw[q,E4] at hb;cases hb
  ·rw[C1 q] at hb;exact r.fresh b hb
 ·by_cases hj:j=i
  ·subst hj
   rw[n9] at es'
   simp only[if_true] at es'
   split at es'
   ·cases es'
    exact⟨a,ws,e1,c,n,E4,t.mv mv0⟩
   ·cases es'
  ·rw[U6 (Ne.symm hj)] at es'
   have h:=r.sl j s es'
   cases s with
   | no=>trivial
   | sh d=>obtain⟨v,e1,t⟩:=h;exact⟨v,e1,t.mv mv0⟩
   | ow ds=>
    obtain⟨a',vs',e1',c',n',e2',t'⟩:=h
    exact⟨a',vs',e1',c',n',by rw[C1 (ne a' (by lia))];exact e2',t'.mv mv0⟩
   | bo ds=>
    obtain⟨a',vs',e1',c',n',e2',t'⟩:=h
    exact⟨a',vs',e1',c',n',by rw[C1 (ne a' (by lia))];exact e2',t'.mv mv0⟩
   | hd=>exact h
   | o2 dss=>
    obtain⟨a',as',e1',c',e2',nd',t'⟩:=h
    exact⟨a',as',e1',c',by rw[C1 (ne a' (by lia))];exact e2',nd',t'.mv mv0 fun b o g e=>⟨g,by rw[C1 (ne b (by have:=g.1;lia))];exact e⟩⟩
   | b2 dss=>
    obtain⟨a',as',e1',c',e2',t'⟩:=h
    exact⟨a',as',e1',c',by rw[C1 (ne a' (by have:=c'.1;lia))];exact e2',t'.mv mv0 fun b o g e=>⟨g,by rw[C1 (ne b (by have:=g.1;lia))];exact e⟩⟩
   | di f ks=>
    obtain⟨a',e1',c',n',e2'⟩:=h
    exact⟨a',e1',c',n',e2'.mv fun o e=>by rw[C1 (ne a' (by lia))];exact e⟩
   | dm f ks=>
    obtain⟨a',e1',c',n',e2'⟩:=h
    exact⟨a',e1',c',n',e2'.mv fun o e=>by rw[C1 (ne a' (by lia))];exact e⟩
   | bd d=>exact h
   | ot d=>
    obtain⟨v,e1',t'⟩:=h
    exact⟨v,e1',t'.mv fun b o g e=>by
     have q:=ne b (by rcases g with g | g <;> (have:=g.1;lia))
     exact⟨g.imp id fun g=>⟨g.1,by rw[C1 q];exact g.2⟩,by rw[C1 q];exact e⟩⟩
   | ob R=>
    obtain⟨v,e1',t'⟩:=h
    exact⟨v,e1',R.mv (fun b o g e=>by
     have q:=ne b (by rcases g with g | g <;> (have:=g.1;lia))
     exact⟨g.imp id fun g=>⟨g.1,by rw[C1 q];exact g.2⟩,by rw[C1 q];exact e⟩) t'⟩
 ·have h:=r.pd x hx
  cases x with
  | v v d=>exact ThV.mv mv0 h
  | n b o=>exact⟨h.1,h.2.1,by rw[C1 (ne b (by have:=h.1;lia))];exact h.2.2⟩
  | s vs ds=>exact A9.mv mv0 h
  | o c as dss=>exact⟨h.1,h.2.mv mv0 fun b o g e=>⟨g,by rw[C1 (ne b (by have:=g.1;lia))];exact e⟩⟩
  | w v d=>exact h
 ·have z:=r.kq b o e q
  have q':b≠a:=fun q'=>by rw[q',n] at e;cases e
  rw[C1 q'];exact z
 ·obtain⟨o1,h1⟩:=(r.hq0 q hq).at1
  obtain⟨o2,h2⟩:=(r.hq0 q hq).at2
  exact (r.hq q hq).wr (fun z=>by rw[<-z,n] at h1;cases h1) (fun z=>by rw[<-z,n] at h2;cases h2)
end
open Classical in
theorem D8.norm {C:DC} {col:Addr->Nat} {ρ:List Sl} {σ:St} {P:List Pe} {H:Hp} (r:D8 C col ρ σ P H):∃col',D8 C col' ρ σ P H/\∀b xs,H b=some (.tup xs)->col' b=0:=by
 let col':Addr->Nat:=fun b=>if ∃xs,H b=some (.tup xs) then 0 else col b
 have ct:∀b xs,H b=some (.tup xs)->col' b=0:=fun b xs e=>if_pos ⟨xs,e⟩
 have cn:∀b,(∀xs,H b≠some (.tup xs))->col' b=col b:=fun b h=>if_neg fun ⟨xs,e⟩=>h xs e
 have hl:∀b ys,H b=some (.lst ys)->col' b=col b:=fun b ys e=>cn b fun xs z=>by rw[e] at z;cases z
 have hd:∀q,C.hand=some q->∀xs,H q.1≠some (.tup xs):=fun q hq xs z=>by
  obtain⟨_,_,_,_,_,_,_,_,e⟩:=r.hq q hq
  rw[e] at z;cases z
 have z0:∀b,col b=0->col' b=0:=fun b hb=>by
  by_cases h:∃xs,H b=some (.tup xs)
  ·exact if_pos h
  ·exact (if_neg h).trans hb
 have lo:∀b,col b<=1->col' b<=1:=fun b hb=>by
  by_cases h:∃xs,H b=some (.tup xs)
  ·rw[show col' b=0 from if_pos h];lia
  ·rw[show col' b=col b from if_neg h];exact hb
 have mv0:∀b o,Z col b->H b=some o->Z col' b/\H b=some o:=fun b o zz e=>⟨z0 b zz,e⟩
 refine⟨col',⟨fun b e=>z0 b (r.fresh b e),fun b hb=>?_,fun q hq=>(cn _ (hd q hq)).trans (r.hnd q hq),fun i s e=>?_,fun p hp=>?_,r.kq,r.hq,r.hq0,r.nf,r.len⟩,ct⟩
 ·by_cases h:∃xs,H b=some (.tup xs)
  ·obtain⟨xs,h⟩:=h
   cases q:C.H0 b with
   | none=>exact r.nf.1 b q
   | some o=>
    have:=r.kq b o q fun p hp e=>hd p hp xs (e▸h)
    rw[this] at h
    cases h
    exact r.nf.2 b xs q
  ·rw[show col' b=col b from if_neg h] at hb;exact r.inF b hb
 ·have h:=r.sl i s e
  cases s with
  | no=>trivial
  | sh d=>obtain⟨v,e1,t⟩:=h;exact⟨v,e1,t.mv mv0⟩
  | ow ds=>obtain⟨a,vs,e1,c,n,e2,t⟩:=h;exact⟨a,vs,e1,(hl a _ e2).trans c,n,e2,t.mv mv0⟩
  | bo ds=>obtain⟨a,vs,e1,c,n,e2,t⟩:=h;exact⟨a,vs,e1,lo a c,n,e2,t.mv mv0⟩
  | hd=>exact h
  | o2 dss=>obtain⟨a,as,e1,c,e2,nd,t⟩:=h;exact⟨a,as,e1,⟨(hl a _ e2).trans c.1,c.2⟩,e2,nd,t.mvl mv0 fun b ys g e=>⟨⟨(hl b _ e).trans g.1,g.2⟩,e⟩⟩
  | b2 dss=>obtain⟨a,as,e1,c,e2,t⟩:=h;exact⟨a,as,e1,⟨lo a c.1,c.2⟩,e2,t.mvl mv0 fun b ys g e=>⟨⟨lo b g.1,g.2⟩,e⟩⟩
  | di f ks=>
   obtain⟨a,e1,c,n,e2⟩:=h
   refine⟨a,e1,(cn a fun xs z=>?_).trans c,n,e2⟩
   cases f with
   | false=>rw[show H a=_ from e2] at z;cases z
   | true=>obtain⟨o,e2⟩:=e2;rw[e2] at z;cases z
  | dm f ks=>
   obtain⟨a,e1,c,n,e2⟩:=h
   refine⟨a,e1,(cn a fun xs z=>?_).trans c,n,e2⟩
   cases f with
   | false=>rw[show H a=_ from e2] at z;cases z
   | true=>obtain⟨o,e2⟩:=e2;rw[e2] at z;cases z
  | bd d=>exact h
  | ot d=>
   obtain⟨v,e1,t⟩:=h
   refine⟨v,e1,t.mv fun b o g e=>⟨?_,e⟩⟩
   by_cases q:∃xs,H b=some (.tup xs)
   ·obtain⟨xs,q⟩:=q
    exact .inr ⟨ct b xs q,xs,q⟩
   ·rcases g with g | g
    ·exact .inl ⟨(if_neg q).trans g.1,g.2⟩
    ·exact absurd g.2 q
  | ob R=>
   obtain⟨v,e1,t⟩:=h
   refine⟨v,e1,R.mv (fun b o g e=>⟨?_,e⟩) t⟩
   by_cases q:∃xs,H b=some (.tup xs)
   ·obtain⟨xs,q⟩:=q
    exact .inr ⟨ct b xs q,xs,q⟩
   ·rcases g with g | g
    ·exact .inl ⟨(if_neg q).trans g.1,g.2⟩
    ·exact absurd g.2 q
 ·have h:=r.pd p hp
  cases p with
  | v v d=>exact ThV.mv mv0 h
  | n a o=>exact⟨lo a h.1,h.2⟩
  | s vs ds=>exact A9.mv mv0 h
  | o c as dss=>exact⟨h.1,h.2.mvl mv0 fun b ys g e=>⟨⟨(hl b _ e).trans g.1,g.2⟩,e⟩⟩
  | w v d=>exact h
inductive Pds (P:List Pe):List V->List PyData->Prop
 | nil:Pds P [] []
 | cons {v d vs ds}:Pe.v v d∈P->Pds P vs ds->Pds P (v::vs) (d::ds)
theorem Pds.th {C:DC} {col:Addr->Nat} {ρ:List Sl} {σ:St} {P:List Pe} {H:Hp} (r:D8 C col ρ σ P H):∀{vs:List V} {ds:List PyData},Pds P vs ds->A9 (Z col) H vs ds
 | _,_,.nil=>.nil
 | _,_,.cons h t=>.cons (r.pd _ h) (Pds.th r t)
abbrev DE:=List Sl->(PyData->List Sl->Prop)->Prop
abbrev DT:=List Sl->(Bool->List Sl->Prop)->Prop
abbrev DF:=List Sl->(List PyData->List Sl->Prop)->Prop
def eOf (C:DC) (t:DE):TE:=fun σ H Q=>∃ρ P Qd,Rel C ρ σ P H/\t ρ Qd/\∀v d ρ' H',Rel C ρ' σ (.v v d::P) H'->Qd d ρ'->Q v H'
def cOf (C:DC) (t:DT):TT:=fun σ H Q=>∃ρ P Qd,Rel C ρ σ P H/\t ρ Qd/\∀b ρ' H',Rel C ρ' σ P H'->Qd b ρ'->Q b H'
def fOf (C:DC) (t:DF):TE:=fun σ H Q=>∃ρ P Qd,Rel C ρ σ P H/\t ρ Qd/\∀p vs ds ρ' H1,(∃col,D8 C col ρ' σ P H1/\A9 (Z col) H1 vs ds)->H1 p=none->Qd ds ρ'->Q (.ref p) (upd H1 p (.lst vs))
def vOf (C:DC) (t:DF):TA:=fun σ H Q=>∃ρ P Qd,Rel C ρ σ P H/\t ρ Qd/\∀vs ds ρ' P' H',Rel C ρ' σ P' H'->(∀p∈P,p∈P')->Pds P' vs ds->Qd ds ρ'->Q vs H'
def bnd {α:Type} (o:Option α) (Q:α->Prop):Prop:=match o with
 | some a=>Q a
 | none=>False
theorem K5 {α:Type} {o:Option α} {Q:α->Prop} (h:bnd o Q):∃a,o=some a/\Q a:=by
 cases o with
 | none=>exact h.elim
 | some a=>exact⟨a,rfl,h⟩
section
variable {X:Cx} {C:DC}
theorem PE.wk {e:Expr} {t t':TE} (h:PE X e t) (f:∀σ H Q,t' σ H Q->t σ H Q):PE X e t':=fun pins s σ H Q I q=>h pins s σ H Q I (f σ H Q q)
theorem PT.wk {e:Expr} {t t':TT} (h:PT X e t) (f:∀σ H Q,t' σ H Q->t σ H Q):PT X e t':=fun pins s σ H Q I q=>h pins s σ H Q I (f σ H Q q)
theorem PW.wk {e:Expr} {t t':TT} (h:PW X e t) (f:∀σ H Q,t' σ H Q->t σ H Q):PW X e t':=fun wh pins s σ H Q I q=>h wh pins s σ H Q I (f σ H Q q)
theorem PA.wk {es:List Expr} {t t':TA} (h:PA X es t) (f:∀σ H Q,t' σ H Q->t σ H Q):PA X es t':=fun pos pins s σ H Q I q=>h pos pins s σ H Q I (f σ H Q q)
theorem PO.wk {e:Option Expr} {t t':TO} (h:PO X e t) (f:∀σ H Q,t' σ H Q->t σ H Q):PO X e t':=fun pins s σ H Q I q=>h pins s σ H Q I (f σ H Q q)
def dC (d:PyData)  (ρ:List Sl) (Q:PyData->List Sl->Prop):Prop:=Q d ρ
theorem A8w {e:Expr} {v:V} {d:PyData} (h:PE X e (tC v)) (t:∀F H,ThV F H v d):PE X e (eOf C (dC d)):=PE.wk h fun _ _ _ zz1=>el3 zz1 fun _ _ _ zz2 ht k=>zz2.elim fun col r=>k _ _ _ _ ⟨col,r.push (t _ _)⟩ ht
theorem A6 {i j pos}:PE X (.Constant (.int i) j pos) (eOf C (dC (.int i))):=A8w D1 fun _ _=>.int i
theorem B3r {b j pos}:PE X (.Constant (.bool b) j pos) (eOf C (dC (.bool b))):=A8w A1m fun _ _=>.bl b
theorem F6 {j pos}:PE X (.Constant .none j pos) (eOf C (dC .none)):=A8w A2q fun _ _=>.non
theorem C55 {x j pos}:PE X (.Constant (.str x) j pos) (eOf C (dC (.str x))):=A8w A9x fun _ _=>.str x
theorem E7 {e:Expr} {i:Int} (h:PE X e (tC (.int i))):PE X e (eOf C (dC (.int i))):=A8w h fun _ _=>.int i
theorem L4 {α:Type} {o:Option (Option α)} {v:α} (h:o.join=some v):o=some (some v):=by
 cases o with
 | none=>cases h
 | some q=>exact congrArg some h
def A1v (i:Nat)  (ρ:List Sl) (Q:PyData->List Sl->Prop):Prop:=match ρ[i]? with
 | some (.sh d)=>Q d ρ
 | some (.ow ds)=>Q (.list ds) (ρ.set i (.sh (.list ds)))
 | _=>False
theorem A1 {e:Expr} {i:Nat} (h:PE X e (X4 i)):PE X e (eOf C (A1v i)):=PE.wk h fun σ H Q zz3=>el3 zz3 fun ρ P Qd zz4 ht k=>zz4.elim fun col r=>by
 unfold A1v at ht
 split at ht
 ·rename_i d e
  obtain⟨v,e1,t⟩:=r.sl i _ e
  exact⟨v,L4 e1,k _ _ _ _ ⟨col,r.push t⟩ ht⟩
 ·rename_i ds e
  obtain⟨a,e1,R⟩:=r.freeze e
  exact⟨_,L4 e1,k _ _ _ _ R ht⟩
 ·exact ht.elim
def P3 (ρ:List Sl) (i:Nat):Option PyData:=match ρ[i]? with
 | some (.sh d)=>some d
 | some (.ow ds)=>some (.list ds)
 | some (.bo ds)=>some (.list ds)
 | _=>none
inductive Red (col:Addr->Nat) (H:Hp):V->PyData->Prop
 | th {v d}:ThV (Z col) H v d->Red col H v d
 | ls {a vs ds}:H a=some (.lst vs)->A9 (Z col) H vs ds->Red col H (.ref a) (.list ds)
theorem D8.slot {col:Addr->Nat} {ρ:List Sl} {σ:St} {P:List Pe} {H:Hp} (r:D8 C col ρ σ P H) {i:Nat} {d:PyData} (h:P3 ρ i=some d):∃v,σ[i]?=some (some v)/\Red col H v d:=by
 unfold P3 at h
 split at h
 ·rename_i d' e
  cases h
  obtain⟨v,e1,t⟩:=r.sl i _ e
  exact⟨v,L4 e1,.th t⟩
 ·rename_i ds e
  cases h
  obtain⟨a,vs,e1,_,_,e2,t⟩:=r.sl i _ e
  exact⟨_,L4 e1,.ls e2 t⟩
 ·rename_i ds e
  cases h
  obtain⟨a,vs,e1,_,_,e2,t⟩:=r.sl i _ e
  exact⟨_,L4 e1,.ls e2 t⟩
 ·cases h
theorem Red.lst {col:Addr->Nat} {H:Hp} {v:V} {ds:List PyData} (h:Red col H v (.list ds)):∃a vs,v=.ref a/\H a=some (.lst vs)/\A9 (Z col) H vs ds:=by
 cases h with
 | th t=>cases t with
  | lst _ e t=>exact⟨_,_,rfl,e,t⟩
 | ls e t=>exact⟨_,_,rfl,e,t⟩
theorem Red.tup {col:Addr->Nat} {H:Hp} {v:V} {ds:List PyData} (h:Red col H v (.tuple ds)):∃a vs,v=.ref a/\H a=some (.tup vs)/\A9 (Z col) H vs ds:=by
 cases h with
 | th t=>cases t with
  | tup _ e t=>exact⟨_,_,rfl,e,t⟩
abbrev G2:=PyData->PyData->(PyData->Prop)->Prop
def R7 (C:DC) (r:R2) (g:G2):Prop:=
 ∀{ρ:List Sl} {σ:St} {P:List Pe} {H:Hp} {v w:V} {a b:PyData} {Qd:PyData->Prop} {Q:VK},Rel C ρ σ (.v w b::.v v a::P) H->g a b Qd->(∀u d H',Rel C ρ σ (.v u d::P) H'->Qd d->Q u H')->r v w H Q
def dOp (g:G2) (ta tb:DE)  (ρ:List Sl) (Q:PyData->List Sl->Prop):Prop:=ta ρ fun a ρ1=>tb ρ1 fun b ρ2=>g a b fun d=>Q d ρ2
theorem B3s {r:R2} {g:G2} {ta tb:DE} (hg:R7 C r g) {σ:St} {H:Hp} {Q:VK} (h:eOf C (dOp g ta tb) σ H Q):tOp r (eOf C ta) (eOf C tb) σ H Q:=by
 obtain⟨ρ,P,Qd,R,ht,k⟩:=h
 exact⟨ρ,P,_,R,ht,fun v a ρ1 H1 R1 h1=>⟨ρ1,_,_,R1,h1,fun w b ρ2 H2 R2 h2=>hg R2 h2 fun u d H' R' q=>k u d ρ2 H' R' q⟩⟩
variable {a b:Expr} {ta tb:DE} {pos:Pos}
theorem E2 {op:Operator} {r:R2} {g:G2} (ho:OpR X (binaryOp op) r) (hg:R7 C r g) (ha:PE X a (eOf C ta)) (hb:PE X b (eOf C tb)):PE X (.BinOp a op b pos) (eOf C (dOp g ta tb)):=PE.wk (N8 ho ha hb) fun _ _ _ h=>B3s hg h
theorem b8 {op:CmpOp} {r:R2} {g:G2} (ho:OpR X (compareOp op) r) (hg:R7 C r g) (ha:PE X a (eOf C ta)) (hb:PE X b (eOf C tb)) (hm:behindInMarks op b=false):PE X (.Compare a [op] [b] pos) (eOf C (dOp g ta tb)):=PE.wk (C4f ho ha hb hm) fun _ _ _ h=>B3s hg h
def dT (t:DE)  (ρ:List Sl) (Q:Bool->List Sl->Prop):Prop:=t ρ fun d ρ'=>match d with
 | .bool b=>Q b ρ'
 | _=>False
theorem B3t {t:DE} {σ:St} {H:Hp} {Q:Bool->Hp->Prop} (h:cOf C (dT t) σ H Q):eOf C t σ H fun x H'=>∃k,x=.bl k/\Q k H':=by
 obtain⟨ρ,P,Qd,R,ht,k⟩:=h
 refine⟨ρ,P,_,R,ht,fun v d ρ' H' R' q=>?_⟩
 split at q
 ·obtain⟨col,r⟩:=R'
  have t:=r.pd _ C0
  cases (show ThV (Z col) H' v (.bool _) from t)
  exact⟨_,rfl,k _ _ _ (Rel.pop ⟨col,r⟩) q⟩
 ·exact q.elim
theorem W3 {e:Expr} {t:DE} (h:PE X e (eOf C t)) (he:∀whole,isTrue e X.env whole=(do let v <-whole;standAt e.pos;holding [v] (truthy v)):=by intro _;rfl):PT X e (cOf C (dT t)):=PT.wk (B7p h he) fun _ _ _ h=>B3t h
theorem E9 {op:CmpOp} {r:R2} {g:G2} (ho:OpR X (compareOp op) r) (hg:R7 C r g) (ha:PE X a (eOf C ta)) (hb:PE X b (eOf C tb)) (hm:behindInMarks op b=false):PT X (.Compare a [op] [b] pos) (cOf C (dT (dOp g ta tb))):=
 PT.wk (U1 ho ha hb hm) fun σ H Q h=>B3s hg (B3t h)
def A2x (t:DT)  (ρ:List Sl) (Q:Bool->List Sl->Prop):Prop:=t ρ fun b ρ'=>Q (!b) ρ'
theorem Y8 {t:DT} (h:PT X a (cOf C t)):PT X (.UnaryOp .Not a pos) (cOf C (A2x t)):=PT.wk (B7s h) fun _ _ _ zz5=>el3 zz5 fun ρ P _ R ht k=>⟨ρ,P,_,R,ht,fun b ρ' H' R' q=>k _ _ _ R' q⟩
def A2y (t u:DT)  (ρ:List Sl) (Q:Bool->List Sl->Prop):Prop:=t ρ fun b ρ'=>if b=true then u ρ' Q else Q false ρ'
def dOr (t u:DT)  (ρ:List Sl) (Q:Bool->List Sl->Prop):Prop:=t ρ fun b ρ'=>if b=true then Q true ρ' else u ρ' Q
variable {t u:DT} {S7:List Expr}
theorem A4z (h:PT X a (cOf C t)):PW X (.BoolOp .And [a] pos) (cOf C t):=A9y h
theorem j2 (h:PT X a (cOf C t)):PW X (.BoolOp .Or [a] pos) (cOf C t):=B7q h
theorem A1w (ha:PT X a (cOf C t)) (hb:PW X (.BoolOp .And (b::S7) pos) (cOf C u)):PW X (.BoolOp .And (a::b::S7) pos) (cOf C (A2y t u)):=PW.wk (A9z ha hb) fun _ _ _ zz6=>el3 zz6 fun ρ P Qd R ht k=>
 ⟨ρ,P,_,R,ht,fun b ρ' H' R' q=>by
  cases b with
  | true=>exact⟨ρ',P,Qd,R',by simpa using q,k⟩
  | false=>exact k _ _ _ R' (by simpa using q)⟩
theorem W4 (ha:PT X a (cOf C t)) (hb:PW X (.BoolOp .Or (b::S7) pos) (cOf C u)):PW X (.BoolOp .Or (a::b::S7) pos) (cOf C (dOr t u)):=PW.wk (B7r ha hb) fun _ _ _ zz7=>el3 zz7 fun ρ P Qd R ht k=>
 ⟨ρ,P,_,R,ht,fun b ρ' H' R' q=>by
  cases b with
  | true=>exact k _ _ _ R' (by simpa using q)
  | false=>exact⟨ρ',P,Qd,R',by simpa using q,k⟩⟩
def dBV (t:DE) (f:Bool->List Sl->Prop)  (ρ:List Sl):Prop:=t ρ fun d ρ'=>match d with
 | .bool b=>f b ρ'
 | _=>False
def A2z (ta tb:DE)  (ρ:List Sl) (Q:PyData->List Sl->Prop):Prop:=dBV ta (fun b ρ'=>if b=true then tb ρ' Q else Q (.bool false) ρ') ρ
def A20 (ta tb:DE)  (ρ:List Sl) (Q:PyData->List Sl->Prop):Prop:=dBV ta (fun b ρ'=>if b=true then Q (.bool true) ρ' else tb ρ' Q) ρ
def A21 (ta:DE)  (ρ:List Sl) (Q:PyData->List Sl->Prop):Prop:=dBV ta (fun b ρ'=>Q (.bool (!b)) ρ') ρ
theorem B3u {f:Bool->List Sl->Prop} {ρ:List Sl} {σ:St} {P:List Pe} {H:Hp} {Q:VK} (R:Rel C ρ σ P H) (ht:dBV ta f ρ) (k:∀c ρ' H',Rel C ρ' σ P H'->f c ρ'->Q (.bl c) H'):eOf C ta σ H Q:=by
 refine⟨ρ,P,_,R,ht,fun v d ρ' H' R' q=>?_⟩
 split at q
 ·obtain⟨col,r⟩:=R'
  have t:=r.pd _ C0
  cases (show ThV (Z col) H' v (.bool _) from t)
  exact k _ _ _ (Rel.pop ⟨col,r⟩) q
 ·exact q.elim
theorem A0z {op} (h:PE X a (eOf C ta)):PE X (.BoolOp op [a] pos) (eOf C ta):=C3s h
theorem A22 (ha:PE X a (eOf C ta)) (hb:PE X (.BoolOp .And (b::S7) pos) (eOf C tb)):PE X (.BoolOp .And (a::b::S7) pos) (eOf C (A2z ta tb)):=PE.wk (C3t ha hb) fun _ _ _ zz8=>el3 zz8 fun _ P Qd R ht k=>
 B3u R ht fun c ρ' H' R' q=>⟨c,rfl,by
  cases c with
  | true=>exact J0 ⟨ρ',P,Qd,R',by simpa using q,k⟩
  | false=>
   obtain⟨col,r⟩:=R'
   exact G6 (k _ _ _ _ ⟨col,r.push (.bl false)⟩ (by simpa using q))⟩
theorem B87 (ha:PE X a (eOf C ta)) (hb:PE X (.BoolOp .Or (b::S7) pos) (eOf C tb)):PE X (.BoolOp .Or (a::b::S7) pos) (eOf C (A20 ta tb)):=PE.wk (C3u ha hb) fun _ _ _ zz9=>el3 zz9 fun _ P Qd R ht k=>
 B3u R ht fun c ρ' H' R' q=>⟨c,rfl,by
  cases c with
  | true=>
   obtain⟨col,r⟩:=R'
   exact J0 (k _ _ _ _ ⟨col,r.push (.bl true)⟩ (by simpa using q))
  | false=>exact G6 ⟨ρ',P,Qd,R',by simpa using q,k⟩⟩
theorem B0f (ha:PE X a (eOf C ta)):PE X (.UnaryOp .Not a pos) (eOf C (A21 ta)):=PE.wk (C3v ha) fun _ _ _ zz10=>el3 zz10 fun _ _ _ R ht k=>
 B3u R ht fun c ρ' H' zz11 q=>zz11.elim fun col r=>⟨c,rfl,k _ _ _ _ ⟨col,r.push (.bl _)⟩ q⟩
def A1x (ta:DE)  (ρ:List Sl) (Q:PyData->List Sl->Prop):Prop:=ta ρ fun d ρ'=>match d with
 | .int i=>Q (.int (-i)) ρ'
 | _=>False
theorem A00 (ha:PE X a (eOf C ta)):PE X (.UnaryOp .USub a pos) (eOf C (A1x ta)):=PE.wk (B72 B73 ha) fun _ _ _ zz12=>el3 zz12 fun ρ P _ R ht k=>⟨ρ,P,_,R,ht,fun v d ρ' H' R' q=>by
 split at q
 ·obtain⟨col,r⟩:=R'
  have t:=r.pd _ C0
  cases (show ThV (Z col) H' v (.int _) from t)
  exact⟨_,rfl,k _ _ _ _ ⟨col,(r.sub fun _ h=>B6 _ h).push (.int _)⟩ q⟩
 ·exact q.elim⟩
def dIf (c:DT) (ta tb:DE)  (ρ:List Sl) (Q:PyData->List Sl->Prop):Prop:=c ρ fun b ρ'=>if b=true then ta ρ' Q else tb ρ' Q
theorem A40 {c:Expr} (hc:PT X c (cOf C t)) (ha:PE X a (eOf C ta)) (hb:PE X b (eOf C tb)):PE X (.IfExp c a b pos) (eOf C (dIf t ta tb)):=PE.wk (B7t hc ha hb) fun _ _ _ zz13=>el3 zz13 fun ρ P Qd R ht k=>
 ⟨ρ,P,_,R,ht,fun b ρ' H' R' q=>by
  cases b with
  | true=>exact J0 ⟨ρ',P,Qd,R',by simpa using q,k⟩
  | false=>exact G6 ⟨ρ',P,Qd,R',by simpa using q,k⟩⟩
def A01 (g g':G2) (ta tb tc:DE)  (ρ:List Sl) (Q:PyData->List Sl->Prop):Prop:=ta ρ fun a ρ1=>tb ρ1 fun b ρ2=>g a b fun z=>match z with
 | .bool k=>if k=true then tc ρ2 fun c ρ3=>g' b c fun d=>Q d ρ3 else Q (.bool false) ρ2
 | _=>False
end
def gI (c:Int->Int->Prop) (f:Int->Int->PyData)  (a b:PyData) (Q:PyData->Prop):Prop:=match a,b with
 | .int i,.int j=>c i j/\Q (f i j)
 | _,_=>False
def gI0 (f:Int->Int->PyData)  (a b:PyData) (Q:PyData->Prop):Prop:=match a,b with
 | .int i,.int j=>Q (f i j)
 | _,_=>False
section
variable {C:DC} {X:Cx}
theorem th2 {ρ:List Sl} {σ:St} {P:List Pe} {H:Hp} {v w:V} {a b:PyData} (r:Rel C ρ σ (.v w b::.v v a::P) H):∃col,D8 C col ρ σ P H/\ThV (Z col) H v a/\ThV (Z col) H w b:=by
 obtain⟨col,r⟩:=r
 exact⟨col,r.sub fun _ h=>B6 _ (B6 _ h),r.pd _ (B6 _ C0),r.pd _ C0⟩
theorem A41 {f:Int->Int->V} {g:Int->Int->PyData} (h:∀i j F H,ThV F H (f i j) (g i j)):R7 C (rI0 f) (gI0 g):=by
 intro ρ σ P H v w a b Qd Q R hg k
 unfold gI0 at hg
 split at hg
 ·obtain⟨col,r,t1,t2⟩:=th2 R
  cases t1;cases t2
  exact⟨_,_,rfl,rfl,k _ _ _ ⟨col,r.push (h _ _ _ _)⟩ hg⟩
 ·exact hg.elim
theorem A8x {c:Int->Int->Prop} {f:Int->Int->V} {g:Int->Int->PyData} (h:∀i j F H,ThV F H (f i j) (g i j)):R7 C (rI c f) (gI c g):=by
 intro ρ σ P H v w a b Qd Q R hg k
 unfold gI at hg
 split at hg
 ·obtain⟨col,r,t1,t2⟩:=th2 R
  cases t1;cases t2
  exact⟨_,_,rfl,rfl,hg.1,k _ _ _ ⟨col,r.push (h _ _ _ _)⟩ hg.2⟩
 ·exact hg.elim
def A23:G2:=gI0 fun i j=>.int (i + j)
def A24:G2:=gI0 fun i j=>.int (i - j)
def A25:G2:=gI A7a fun i j=>.int (i * j)
def A26:G2:=gI (fun _ j=>0 < j) fun i j=>.int (i % j)
def A27:G2:=gI B3g fun i j=>.int (i / j)
def A28:G2:=gI A69 fun i j=>.int (i ^ j.toNat)
def gLt:G2:=gI0 fun i j=>.bool (decide (i < j))
def gLe:G2:=gI0 fun i j=>.bool (decide (i<=j))
def gGt:G2:=gI0 fun i j=>.bool (decide (j < i))
def gGe:G2:=gI0 fun i j=>.bool (decide (j<=i))
theorem N6:R7 C (rI0 (fun i j=>.int (i + j))) A23:=A41 (f:=fun i j=>.int (i + j)) fun _ _ _ _=>.int _
theorem A29:R7 C (rI0 (fun i j=>.int (i - j))) A24:=A41 (f:=fun i j=>.int (i - j)) fun _ _ _ _=>.int _
theorem A3a:R7 C (rI A7a (fun i j=>.int (i * j))) A25:=A8x (f:=fun i j=>.int (i * j)) fun _ _ _ _=>.int _
theorem B3v:R7 C (rI (fun _ j=>0 < j) (fun i j=>.int (i % j))) A26:=A8x (f:=fun i j=>.int (i % j)) fun _ _ _ _=>.int _
theorem B88:R7 C (rI B3g (fun i j=>.int (i / j))) A27:=A8x (f:=fun i j=>.int (i / j)) fun _ _ _ _=>.int _
theorem A02:R7 C (rI A69 (fun i j=>.int (i ^ j.toNat))) A28:=A8x (f:=fun i j=>.int (i ^ j.toNat)) fun _ _ _ _=>.int _
theorem A0c:R7 C (rI0 (fun i j=>.bl (decide (i < j)))) gLt:=A41 (f:=fun i j=>.bl (decide (i < j))) fun _ _ _ _=>.bl _
theorem A1y:R7 C (rI0 (fun i j=>.bl (decide (j < i)))) gGt:=A41 (f:=fun i j=>.bl (decide (j < i))) fun _ _ _ _=>.bl _
theorem B89:R7 C (rI0 (fun i j=>.bl (decide (j<=i)))) gGe:=A41 (f:=fun i j=>.bl (decide (j<=i))) fun _ _ _ _=>.bl _
def gEq (neg:Bool)  (a b:PyData) (Q:PyData->Prop):Prop:=a.canLay0=true/\b.canLay0=true/\min a.depth b.depth<=64/\Q (.bool (if neg then !PyData.eqv a b else PyData.eqv a b))
theorem L9 {K:B3} {neg:Bool}:R7 C (B3j K neg) (gEq neg):=by
 intro ρ σ P H v w a b Qd Q R hg k
 obtain⟨col,r,t1,t2⟩:=th2 R
 exact⟨a,b,t1.dat hg.1,t2.dat hg.2.1,hg.1,hg.2.1,hg.2.2.1,k _ _ _ ⟨col,r.push (.bl _)⟩ hg.2.2.2⟩
def isN:PyData->Bool
 | .none=>true
 | _=>false
def A0d (neg:Bool)  (a b:PyData) (Q:PyData->Prop):Prop:=match b with
 | .none=>Q (.bool (if neg then !isN a else isN a))
 | _=>False
theorem B0g {F:Addr->Prop} {H:Hp} {v:V} {a:PyData} (t:ThV F H v a):decide (v=V.non)=isN a:=by
 cases t <;> simp [isN]
theorem Y0:R7 C (fun x y H Q=>y=.non/\Q (.bl (decide (x=.non))) H) (A0d false):=by
 intro ρ σ P H v w a b Qd Q R hg k
 unfold A0d at hg
 split at hg
 ·obtain⟨col,r,t1,t2⟩:=th2 R
  cases t2
  refine⟨rfl,k _ _ _ ⟨col,r.push (d:=.bool (isN a)) ?_⟩ hg⟩
  rw[B0g t1];exact .bl _
 ·exact hg.elim
theorem A1z:R7 C (fun x y H Q=>y=.non/\Q (.bl (!decide (x=.non))) H) (A0d true):=by
 intro ρ σ P H v w a b Qd Q R hg k
 unfold A0d at hg
 split at hg
 ·obtain⟨col,r,t1,t2⟩:=th2 R
  cases t2
  refine⟨rfl,k _ _ _ ⟨col,r.push (d:=.bool (!isN a)) ?_⟩ hg⟩
  rw[B0g t1];exact .bl _
 ·exact hg.elim
end
section
variable {X:Cx} {C:DC} {a b c:Expr} {ta tb tc:DE} {pos:Pos}
theorem B9a {f f':Int->Int->Bool} {σ:St} {H:Hp} {Q:VK} (h:eOf C (A01 (gI0 fun i j=>.bool (f i j)) (gI0 fun i j=>.bool (f' i j)) ta tb tc) σ H Q) :
  B23 (rI0 fun i j=>.bl (f i j)) (rI0 fun i j=>.bl (f' i j)) (eOf C ta) (eOf C tb) (eOf C tc) σ H Q:=by
 obtain⟨ρ,P,Qd,R,ht,k⟩:=h
 exact⟨ρ,P,_,R,ht,fun v x ρ1 H1 R1 h1=>⟨ρ1,_,_,R1,h1,fun w y ρ2 H2 R2 h2=>by
  obtain⟨col,r,t1,t2⟩:=th2 R2
  cases x with
  | int i=>
   cases y with
   | int j=>
    cases t1;cases t2
    refine⟨i,j,rfl,rfl,f i j,rfl,?_⟩
    have h2':if f i j=true then tc ρ2 (fun c ρ3=>gI0 (fun i j=>.bool (f' i j)) (.int j) c fun d=>Qd d ρ3) else Qd (.bool false) ρ2:=h2
    cases e:f i j with
    | true=>
     rw[e] at h2'
     refine J0 ⟨ρ2,P,_,⟨col,r⟩,by simpa using h2',fun u z ρ3 H3 R3 h3=>?_⟩
     obtain⟨col3,r3⟩:=R3
     have t3:=r3.pd _ C0
     cases z with
     | int l=>
      cases (show ThV (Z col3) H3 u (.int l) from t3)
      exact⟨j,l,rfl,rfl,k _ _ _ _ ⟨col3,(r3.sub fun _ h=>B6 _ h).push (.bl _)⟩ h3⟩
     | _=>exact h3.elim
    | false=>
     rw[e] at h2'
     exact G6 (k _ _ _ _ ⟨col,r.push (.bl false)⟩ (by simpa using h2'))
   | _=>exact h2.elim
  | _=>exact h2.elim⟩⟩
theorem B9b {op op':CmpOp} {f f':Int->Int->Bool} (ho:OpR X (compareOp op) (rI0 fun i j=>.bl (f i j))) (ho':OpR X (compareOp op') (rI0 fun i j=>.bl (f' i j))) (ha:PE X a (eOf C ta)) (hb:PE X b (eOf C tb)) (hc:PE X c (eOf C tc))
  (hm:lastMarks [op,op'] [b,c]=false:=by with_unfolding_all rfl):PE X (.Compare a [op,op'] [b,c] pos) (eOf C (A01 (gI0 fun i j=>.bool (f i j)) (gI0 fun i j=>.bool (f' i j)) ta tb tc)):=PE.wk (C4g ho ho' ha hb hc hm) fun _ _ _ h=>B9a h
theorem B3w {op op':CmpOp} {f f':Int->Int->Bool} (ho:OpR X (compareOp op) (rI0 fun i j=>.bl (f i j))) (ho':OpR X (compareOp op') (rI0 fun i j=>.bl (f' i j))) (ha:PE X a (eOf C ta)) (hb:PE X b (eOf C tb)) (hc:PE X c (eOf C tc))
  (hm:lastMarks [op,op'] [b,c]=false:=by with_unfolding_all rfl):PT X (.Compare a [op,op'] [b,c] pos) (cOf C (dT (A01 (gI0 fun i j=>.bool (f i j)) (gI0 fun i j=>.bool (f' i j)) ta tb tc))):=PT.wk (C4h ho ho' ha hb hc hm) fun _ _ _ h=>B9a (B3t h)
end
section
variable {X:Cx} {C:DC} {e a b:Expr} {es:List Expr} {t ta tb:DE} {u:DF} {pos:Pos}
theorem B9c {P P':List Pe} {x:Pe} (h:∀p∈P,p∈P'):∀p∈x::P,p∈x::P':=fun p hp=>(N1.mp hp).elim (fun e=>e▸C0) fun hp=>B6 _ (h p hp)
def A3b  (ρ:List Sl) (Q:List PyData->List Sl->Prop):Prop:=Q [] ρ
def A3c (t:DE) (u:DF)  (ρ:List Sl) (Q:List PyData->List Sl->Prop):Prop:=t ρ fun d ρ1=>u ρ1 fun ds ρ2=>Q (d::ds) ρ2
theorem C6:PA X [] (vOf C A3b):=PA.wk B8 fun _ _ _ zz1=>el3 zz1 fun _ _ _ R ht k=>k [] [] _ _ _ R (fun _ h=>h) .nil ht
theorem A7 (ha:PE X e (eOf C t)) (hr:PA X es (vOf C u)) (hs:starEach (e::es) X.env=(false,eval e X.env)::starEach es X.env:=by rfl):PA X (e::es) (vOf C (A3c t u)):=PA.wk (A4 ha hr hs) fun _ _ _ zz2=>el3 zz2 fun ρ P _ R ht k=>
 ⟨ρ,P,_,R,ht,fun _ _ ρ1 _ R1 h1=>⟨ρ1,_,_,R1,h1,fun _ _ _ _ _ R2 s2 p2 h2=>k _ _ _ _ _ R2 (fun p hp=>s2 p (B6 _ hp)) (.cons (s2 _ C0) p2) h2⟩⟩
def A3d (t:DF)  (ρ:List Sl) (Q:PyData->List Sl->Prop):Prop:=t ρ fun ds ρ'=>ds.length<=1000/\Q (.tuple ds) ρ'
theorem P4 {x1} (h:PA X es (vOf C u)):PE X (.Tuple es x1 pos) (eOf C (A3d u)):=PE.wk (l7 h) fun _ _ _ zz3=>el3 zz3 fun ρ P _ R ht k=>⟨ρ,P,_,R,ht,fun vs ds ρ' P' H' zz4 s p q=>zz4.elim fun col r=>
 ⟨by rw[(p.th r).len];exact A4l (A7e q.1),fun b hb=>k _ _ _ _ ⟨col,(r.tup (p.th r) hb).sub (B9c s)⟩ q.2⟩⟩
def A3e (t:DF)  (ρ:List Sl) (Q:List PyData->List Sl->Prop):Prop:=t ρ fun ds ρ'=>ds.length<=1000/\Q ds ρ'
theorem K0 (h:PA X es (vOf C u)):PE X (.List es pos) (fOf C (A3e u)):=PE.wk (A93 h) fun _ _ _ zz5=>el3 zz5 fun ρ P _ R ht k=>⟨ρ,P,_,R,ht,fun vs ds ρ' P' H' zz6 s p q=>zz6.elim fun col r=>
 ⟨by rw[(p.th r).len];exact A4l (A7e q.1),fun b hb=>k _ _ _ _ _ ⟨col,r.sub s,p.th r⟩ hb q.2⟩⟩
def dF (t:DF)  (ρ:List Sl) (Q:PyData->List Sl->Prop):Prop:=t ρ fun ds ρ'=>Q (.list ds) ρ'
theorem F1 (h:PE X e (fOf C u)):PE X e (eOf C (dF u)):=PE.wk h fun _ _ _ zz7=>el3 zz7 fun ρ P _ R ht k=>⟨ρ,P,_,R,ht,fun _ _ _ _ _ zz8 hp q=>el2 zz8 fun col r t=>k _ _ _ _ ⟨col,r.lst t hp⟩ q⟩
def ixD (a b:PyData):Option PyData:=match a,b with
 | .list xs,.int i=>atI xs i
 | .tuple xs,.int i=>atI xs i
 | _,_=>none
theorem A10 {F:Addr->Prop} {H:Hp} {vs:List V} {ds:List PyData} {i:Int} {d:PyData} (t:A9 F H vs ds) (h:atI ds i=some d):∃v,atI vs i=some v/\ThV F H v d:=by
 unfold atI at h ⊢
 rw[t.len]
 cases q:ixN ds.length i with
 | none=>rw[q] at h;cases h
 | some j=>
  rw[q] at h
  exact t.at h
theorem B9d {K:B3} {col:Addr->Nat} {H:Hp} {v w:V} {a b d:PyData} (t1:Red col H v a) (t2:ThV (Z col) H w b) (h:ixD a b=some d):∃u,ThV (Z col) H u d/\∀Q:VK,Q u H->rIx K v w H Q:=by
 unfold ixD at h
 split at h
 ·cases t2
  obtain⟨p,vs,rfl,e,t⟩:=t1.lst
  obtain⟨u,hu,tu⟩:=A10 t h
  exact⟨u,tu,fun Q q=>.inl ⟨p,vs,_,u,rfl,rfl,SqL.of e,hu,q⟩⟩
 ·cases t2
  obtain⟨p,vs,rfl,e,t⟩:=t1.tup
  obtain⟨u,hu,tu⟩:=A10 t h
  exact⟨u,tu,fun Q q=>.inr (.inl ⟨p,vs,_,u,rfl,rfl,SqT.of e,hu,q⟩)⟩
 ·cases h
def dIx (ta tb:DE)  (ρ:List Sl) (Q:PyData->List Sl->Prop):Prop:=ta ρ fun a ρ1=>tb ρ1 fun b ρ2=>bnd (ixD a b) fun d=>Q d ρ2
theorem L5 (ha:PE X a (eOf C ta)) (hb:PE X b (eOf C tb)) (hs:A96 b):PE X (.Subscript a b pos) (eOf C (dIx ta tb)):=PE.wk (D9 J3 ha hb hs) fun _ _ _ zz9=>el3 zz9 fun ρ P _ R ht k=>⟨ρ,P,_,R,ht,fun v _ ρ1 H1 R1 h1=>⟨ρ1,_,_,R1,h1,fun w _ ρ2 H2 R2 h2=>by
 obtain⟨d,hd,q⟩:=K5 h2
 obtain⟨col,r,t1,t2⟩:=th2 R2
 obtain⟨u,tu,f⟩:=B9d (K:=X.K) (.th t1) t2 hd
 exact f _ (k _ _ _ _ ⟨col,r.push tu⟩ q)⟩⟩
def A3f (i:Nat) (tb:DE)  (ρ:List Sl) (Q:PyData->List Sl->Prop):Prop:=bnd (P3 ρ i) fun _=>tb ρ fun b ρ2=>bnd (P3 ρ2 i) fun a=>bnd (ixD a b) fun d=>Q d ρ2
theorem C7 {i:Nat} (ha:PE X a (X4 i)) (hb:PE X b (eOf C tb)) (hs:A96 b):PE X (.Subscript a b pos) (eOf C (A3f i tb)):=PE.wk (D9 J3 ha hb hs) fun σ H Q zz10=>el3 zz10 fun ρ P Qd zz11 ht k=>zz11.elim fun col0 r0=>by
 obtain⟨_,h0,ht⟩:=K5 ht
 obtain⟨v,ev,_⟩:=r0.slot h0
 refine⟨v,ev,ρ,P,_,⟨col0,r0⟩,ht,fun w b ρ2 H2 R2 h2=>?_⟩
 obtain⟨a,ha,h2⟩:=K5 h2
 obtain⟨d,hd,q⟩:=K5 h2
 obtain⟨col,r⟩:=R2
 obtain⟨v',ev',t1⟩:=r.slot ha
 rw[ev] at ev'
 cases ev'
 obtain⟨u,tu,f⟩:=B9d (K:=X.K) t1 (r.pd _ C0) hd
 exact f _ (k _ _ _ _ ⟨col,(r.sub fun _ h=>B6 _ h).push tu⟩ q)
def A11 (C:DC) (r:List V->Hp->VK->Prop) (g:List PyData->(PyData->Prop)->Prop):Prop:=
 ∀{ρ:List Sl} {σ:St} {P:List Pe} {col:Addr->Nat} {H:Hp} {vs:List V} {ds:List PyData} {Qd:PyData->Prop} {Q:VK},D8 C col ρ σ P H->A9 (Z col) H vs ds->g ds Qd->(∀u d H',Rel C ρ σ (.v u d::P) H'->Qd d->Q u H')->r vs H Q
def dCb (g:List PyData->(PyData->Prop)->Prop) (u:DF)  (ρ:List Sl) (Q:PyData->List Sl->Prop):Prop:=u ρ fun ds ρ'=>g ds fun d=>Q d ρ'
theorem N9 {r:List V->Hp->VK->Prop} {g:List PyData->(PyData->Prop)->Prop} (hr:A11 C r g) (h:PE X e (tCB r (vOf C u))):PE X e (eOf C (dCb g u)):=PE.wk h fun _ _ _ zz12=>el3 zz12 fun ρ P _ R ht k=>⟨ρ,P,_,R,ht,fun vs ds ρ' P' H' zz13 s p q=>zz13.elim fun col r=>
 hr (r.sub s) (p.th r) q fun u d H2 R2 q2=>k _ _ _ _ R2 q2⟩
theorem A42 {F:Addr->Prop} {H:Hp} {vs:List V} {d:PyData} (t:A9 F H vs [d]):∃v,vs=[v]/\ThV F H v d:=by
 cases t with
 | cons x y=>cases y;exact⟨_,rfl,x⟩
theorem S9 {F:Addr->Prop} {H:Hp} {vs:List V} {d d':PyData} (t:A9 F H vs [d,d']):∃v w,vs=[v,w]/\ThV F H v d/\ThV F H w d':=by
 cases t with
 | cons x y=>
  obtain⟨w,rfl,z⟩:=A42 y
  exact⟨_,w,rfl,x,z⟩
def lenD:PyData->Option Nat
 | .list xs=>some xs.length
 | .tuple xs=>some xs.length
 | _=>none
def A12  (ds:List PyData) (Q:PyData->Prop):Prop:=match ds with
 | [d]=>bnd (lenD d) fun n=>Q (.int n)
 | _=>False
abbrev B0h (K:B3):List V->Hp->VK->Prop:=fun xs H Q=>∃p ys,xs=[.ref p]/\(SqL K H p ys\/SqT K H p ys)/\Q (.int ys.length) H
theorem B9e {K:B3} {col:Addr->Nat} {H:Hp} {v:V} {a:PyData} {n:Nat} {Q:VK} (t:Red col H v a) (h:lenD a=some n) (q:Q (.int n) H):B0h K [v] H Q:=by
 cases a with
 | list ds=>
  cases h
  obtain⟨p,vs,rfl,e,t⟩:=t.lst
  exact⟨p,vs,rfl,.inl (SqL.of e),by rw[t.len];exact q⟩
 | tuple ds=>
  cases h
  obtain⟨p,vs,rfl,e,t⟩:=t.tup
  exact⟨p,vs,rfl,.inr (SqT.of e),by rw[t.len];exact q⟩
 | _=>cases h
theorem B9f {K:B3}:A11 C (B0h K) A12:=by
 intro ρ σ P col H vs ds Qd Q r t g k
 unfold A12 at g
 split at g
 ·obtain⟨v,rfl,t1⟩:=A42 t
  obtain⟨n,hn,q⟩:=K5 g
  exact B9e (.th t1) hn (k _ _ _ ⟨col,r.push (.int _)⟩ q)
 ·exact g.elim
def A3g (i:Nat)  (ρ:List Sl) (Q:PyData->List Sl->Prop):Prop:=bnd (P3 ρ i) fun a=>bnd (lenD a) fun n=>Q (.int n) ρ
theorem W5 {i:Nat} {K:B3} (h:PE X e (tCB (B0h K) (X7 (X4 i) g9))):PE X e (eOf C (A3g i)):=PE.wk h fun _ _ _ zz14=>el3 zz14 fun ρ P _ zz15 ht k=>zz15.elim fun col r=>by
 obtain⟨a,ha,ht⟩:=K5 ht
 obtain⟨n,hn,q⟩:=K5 ht
 obtain⟨v,ev,t⟩:=r.slot ha
 exact⟨v,ev,B9e t hn (k _ _ _ _ ⟨col,r.push (.int _)⟩ q)⟩
def gI2 (f:Int->Int->Int)  (ds:List PyData) (Q:PyData->Prop):Prop:=match ds with
 | [.int i,.int j]=>Q (.int (f i j))
 | _=>False
theorem B9g {f:Int->Int->Int}:A11 C (fun xs H Q=>∃i j,xs=[.int i,.int j]/\Q (.int (f i j)) H) (gI2 f):=by
 intro ρ σ P col H vs ds Qd Q r t g k
 unfold gI2 at g
 split at g
 ·obtain⟨v,w,rfl,t1,t2⟩:=S9 t
  cases t1;cases t2
  exact⟨_,_,rfl,k _ _ _ ⟨col,r.push (.int _)⟩ g⟩
 ·exact g.elim
def A3h:=gI2 fun i j=>if j < i then j else i
def A3i:=gI2 fun i j=>if j > i then j else i
theorem j3:A11 C (fun xs H Q=>∃i j,xs=[.int i,.int j]/\Q (.int (if j < i then j else i)) H) A3h:=B9g (f:=fun i j=>if j < i then j else i)
theorem B3x:A11 C (fun xs H Q=>∃i j,xs=[.int i,.int j]/\Q (.int (if j > i then j else i)) H) A3i:=B9g (f:=fun i j=>if j > i then j else i)
def A43  (ds:List PyData) (Q:PyData->Prop):Prop:=match ds with
 | [.int i]=>Q (.int (if i < 0 then -i else i))
 | _=>False
def A13  (ds:List PyData) (Q:PyData->Prop):Prop:=match ds with
 | [.int i]=>Q (.int i)
 | [.bool b]=>Q (.int (if b then 1 else 0))
 | _=>False
theorem B3y:A11 C (fun xs H Q=>(∃i,xs=[.int i]/\Q (.int i) H)\/∃k,xs=[.bl k]/\Q (.int (if k then 1 else 0)) H) A13:=by
 intro ρ σ P col H vs ds Qd Q r t g k
 unfold A13 at g
 split at g
 ·obtain⟨v,rfl,t1⟩:=A42 t
  cases t1
  exact .inl ⟨_,rfl,k _ _ _ ⟨col,r.push (.int _)⟩ g⟩
 ·obtain⟨v,rfl,t1⟩:=A42 t
  cases t1
  exact .inr ⟨_,rfl,k _ _ _ ⟨col,r.push (.int _)⟩ g⟩
 ·exact g.elim
def A14:List PyData->Option (List Bool)
 | []=>some []
 | .bool b::r=>(A14 r).map (b::·)
 | _::_=>none
theorem C56 {F:Addr->Prop} {H:Hp} {ds:List PyData} {vs:List V} {bs:List Bool} (t:A9 F H vs ds) (h:A14 ds=some bs):vs=bs.map V.bl:=by
 induction ds generalizing vs bs with
 | nil=>cases t;cases h;rfl
 | cons d r ih=>
  cases t with
  | cons x y=>
   cases x with
   | bl b=>
    have h':(A14 r).map (b::·)=some bs:=h
    cases q:A14 r with
    | none=>rw[q] at h';cases h'
    | some cs=>
     rw[q] at h'
     cases h'
     rw[ih y q];rfl
   | _=>cases h
def gBs (f:List Bool->Bool)  (ds:List PyData) (Q:PyData->Prop):Prop:=match ds with
 | [.list xs]=>bnd (A14 xs) fun bs=>Q (.bool (f bs))
 | _=>False
theorem B9h {K:B3} {f:List Bool->Bool}:A11 C (fun xs H Q=>∃(p:Addr) (bs:List Bool),xs=[.ref p]/\SqL K H p (bs.map V.bl)/\Q (.bl (f bs)) H) (gBs f):=by
 intro ρ σ P col H vs ds Qd Q r t g k
 unfold gBs at g
 split at g
 ·obtain⟨bs,hb,q⟩:=K5 g
  obtain⟨v,rfl,t1⟩:=A42 t
  cases t1 with
  | lst _ e t2=>
   have z:=C56 t2 hb
   subst z
   exact⟨_,bs,rfl,SqL.of e,k _ _ _ ⟨col,r.push (.bl _)⟩ q⟩
 ·exact g.elim
def A3j:=gBs fun bs=>bs.all id
def A3k:=gBs fun bs=>bs.any id
theorem B0i {K:B3}:A11 C (fun xs H Q=>∃(p:Addr) (bs:List Bool),xs=[.ref p]/\SqL K H p (bs.map V.bl)/\Q (.bl (bs.all id)) H) A3j:=B9h
theorem B3z {K:B3}:A11 C (fun xs H Q=>∃(p:Addr) (bs:List Bool),xs=[.ref p]/\SqL K H p (bs.map V.bl)/\Q (.bl (bs.any id)) H) A3k:=B9h
abbrev C57 (K:B3):List V->Hp->VK->Prop:=fun xs H Q=>∃p ys,xs=[.ref p]/\(SqL K H p ys\/SqT K H p ys)/\∀l,H l=none->Q (.ref l) (upd H l (.lst ys))
def A0e:PyData->Option (List PyData)
 | .list xs=>some xs
 | .tuple xs=>some xs
 | _=>none
theorem C58 {col:Addr->Nat} {H:Hp} {v:V} {a:PyData} {ds:List PyData} (t:Red col H v a) (h:A0e a=some ds):∃p vs,v=.ref p/\(H p=some (.lst vs)\/H p=some (.tup vs))/\A9 (Z col) H vs ds:=by
 cases a with
 | list ds=>
  cases h
  obtain⟨p,vs,rfl,e,t⟩:=t.lst
  exact⟨p,vs,rfl,.inl e,t⟩
 | tuple ds=>
  cases h
  obtain⟨p,vs,rfl,e,t⟩:=t.tup
  exact⟨p,vs,rfl,.inr e,t⟩
 | _=>cases h
def A3l (i:Nat)  (ρ:List Sl) (Q:List PyData->List Sl->Prop):Prop:=bnd (P3 ρ i) fun a=>bnd (A0e a) fun ds=>Q ds ρ
theorem B30 {i:Nat} {K:B3} (h:PE X e (tCB (C57 K) (X7 (X4 i) g9))):PE X e (fOf C (A3l i)):=PE.wk h fun _ _ _ zz16=>el3 zz16 fun ρ P _ zz17 ht k=>zz17.elim fun col r=>by
 obtain⟨a,ha,ht⟩:=K5 ht
 obtain⟨ds,hn,q⟩:=K5 ht
 obtain⟨v,ev,t⟩:=r.slot ha
 obtain⟨p,vs,rfl,e,t⟩:=C58 t hn
 exact⟨_,ev,p,vs,rfl,e.elim (fun e=>.inl (SqL.of e)) (fun e=>.inr (SqT.of e)),fun l hl=>k _ _ _ _ _ ⟨col,r,t⟩ hl q⟩
def A44 (ta:DE)  (ρ:List Sl) (Q:List PyData->List Sl->Prop):Prop:=ta ρ fun a ρ'=>bnd (A0e a) fun ds=>Q ds ρ'
abbrev DO:=List Sl->(Option Int->List Sl->Prop)->Prop
def oOf (C:DC) (t:DO):TO:=fun σ H Q=>∃ρ P Qd,Rel C ρ σ P H/\t ρ Qd/\∀o ρ' H',Rel C ρ' σ P H'->Qd o ρ'->Q o H'
def oN  (ρ:List Sl) (Q:Option Int->List Sl->Prop):Prop:=Q none ρ
def oS (t:DE)  (ρ:List Sl) (Q:Option Int->List Sl->Prop):Prop:=t ρ fun d ρ'=>match d with
 | .int i=>Q (some i) ρ'
 | _=>False
theorem A45:PO X none (oOf C oN):=PO.wk B8b fun _ _ _ zz20=>el3 zz20 fun _ _ _ R ht k=>k _ _ _ R ht
theorem A03 (h:PE X e (eOf C t)):PO X (some e) (oOf C (oS t)):=PO.wk (B8c h) fun _ _ _ zz21=>el3 zz21 fun ρ P _ R ht k=>⟨ρ,P,_,R,ht,fun v d ρ' H' R' q=>by
 split at q
 ·obtain⟨col,r⟩:=R'
  have t:=r.pd _ C0
  cases (show ThV (Z col) H' v (.int _) from t)
  exact⟨_,rfl,k _ _ _ (Rel.pop ⟨col,r⟩) q⟩
 ·exact q.elim⟩
def W6 (xs:List PyData) (lo hi:Option Int):List PyData:=(xs.drop (HT.sIx xs.length 0 lo)).take (HT.sIx xs.length xs.length hi - HT.sIx xs.length 0 lo)
theorem A9.drop {F:Addr->Prop} {H:Hp}:∀{vs:List V} {ds:List PyData} (n:Nat),A9 F H vs ds->A9 F H (vs.drop n) (ds.drop n)
 | _,_,0,h=>h
 | _,_,_ + 1,.nil=>.nil
 | _,_,n + 1,.cons _ t=>A9.drop n t
theorem A9.take {F:Addr->Prop} {H:Hp}:∀{vs:List V} {ds:List PyData} (n:Nat),A9 F H vs ds->A9 F H (vs.take n) (ds.take n)
 | _,_,0,_=>.nil
 | _,_,_ + 1,.nil=>.nil
 | _,_,n + 1,.cons x t=>.cons x (A9.take n t)
theorem B9i {F:Addr->Prop} {H:Hp} {vs:List V} {ds:List PyData} (t:A9 F H vs ds) (lo hi:Option Int):A9 F H (A4v vs lo hi) (W6 ds lo hi):=by
 unfold A4v W6
 rw[t.len]
 exact (t.drop _).take _
def M8:PyData->Option (List PyData)
 | .list xs=>some xs
 | _=>none
def A3m (i:Nat) (tl th:DO)  (ρ:List Sl) (Q:List PyData->List Sl->Prop):Prop:=bnd (P3 ρ i) fun _=>tl ρ fun lo ρ1=>th ρ1 fun hi ρ2=>bnd (P3 ρ2 i) fun a=>bnd (M8 a) fun xs=>Q (W6 xs lo hi) ρ2
theorem A7k {i:Nat} {lo hi:Option Expr} {p2:Pos} {tl th:DO} (ha:PE X a (X4 i)) (hl:PO X lo (oOf C tl)) (hh:PO X hi (oOf C th)):PE X (.Subscript a (.Slice lo hi none p2) pos) (fOf C (A3m i tl th)):=PE.wk (B29 B3a ha hl hh) fun σ H Q zz22=>el3 zz22 fun ρ P Qd zz23 ht k=>zz23.elim fun col0 r0=>by
 obtain⟨_,h0,ht⟩:=K5 ht
 obtain⟨v,ev,_⟩:=r0.slot h0
 refine⟨v,ev,ρ,P,_,⟨col0,r0⟩,ht,fun lo ρ1 H1 R1 h1=>⟨ρ1,P,_,R1,h1,fun hi ρ2 H2 R2 h2=>?_⟩⟩
 obtain⟨a,ha,h2⟩:=K5 h2
 obtain⟨xs,hx,q⟩:=K5 h2
 obtain⟨col,r⟩:=R2
 obtain⟨v',ev',t1⟩:=r.slot ha
 rw[ev] at ev'
 cases ev'
 cases a with
 | list ds=>
  cases hx
  obtain⟨p,vs,rfl,e,t⟩:=t1.lst
  exact⟨p,vs,rfl,SqL.of e,fun b hb=>k _ _ _ _ _ ⟨col,r,B9i t lo hi⟩ hb q⟩
 | _=>cases hx
def dSl (ta:DE) (tl th:DO)  (ρ:List Sl) (Q:List PyData->List Sl->Prop):Prop:=ta ρ fun a ρ0=>tl ρ0 fun lo ρ1=>th ρ1 fun hi ρ2=>bnd (M8 a) fun xs=>Q (W6 xs lo hi) ρ2
theorem B9j {lo hi:Option Expr} {p2:Pos} {tl th:DO} (ha:PE X a (eOf C ta)) (hl:PO X lo (oOf C tl)) (hh:PO X hi (oOf C th)):PE X (.Subscript a (.Slice lo hi none p2) pos) (fOf C (dSl ta tl th)):=PE.wk (B29 B3a ha hl hh) fun σ H Q zz24=>el3 zz24 fun ρ P Qd R ht k=>
 ⟨ρ,P,_,R,ht,fun v a ρ0 H0 R0 h0=>⟨ρ0,_,_,R0,h0,fun lo ρ1 H1 R1 h1=>⟨ρ1,_,_,R1,h1,fun hi ρ2 H2 R2 h2=>by
  obtain⟨xs,hx,q⟩:=K5 h2
  obtain⟨col,r⟩:=R2
  cases a with
  | list ds=>
   cases hx
   obtain⟨p,vs,rfl,e,t⟩:=Red.lst (.th (r.pd _ C0))
   exact⟨p,vs,rfl,SqL.of e,fun b hb=>k _ _ _ _ _ ⟨col,r.sub fun _ h=>B6 _ h,B9i t lo hi⟩ hb q⟩
  | _=>cases hx⟩⟩⟩
def A3n (ta tb:DE)  (ρ:List Sl) (Q:List PyData->List Sl->Prop):Prop:=ta ρ fun a ρ1=>tb ρ1 fun b ρ2=>bnd (M8 a) fun xs=>bnd (M8 b) fun ys=>xs.length + ys.length<=100000/\Q (xs++ys) ρ2
theorem A3o (ha:PE X a (eOf C ta)) (hb:PE X b (eOf C tb)):PE X (.BinOp a .Add b pos) (fOf C (A3n ta tb)):=PE.wk (N8 A97 ha hb) fun σ H Q zz25=>el3 zz25 fun ρ P Qd R ht k=>
 ⟨ρ,P,_,R,ht,fun v a ρ1 H1 R1 h1=>⟨ρ1,_,_,R1,h1,fun w b ρ2 H2 R2 h2=>by
  obtain⟨xs,hx,h2⟩:=K5 h2
  obtain⟨ys,hy,h3,q⟩:=K5 h2
  obtain⟨col,r,t1,t2⟩:=th2 R2
  cases a with
  | list ds=>
   cases b with
   | list es=>
    cases hx;cases hy
    obtain⟨p,vs,rfl,e,t⟩:=Red.lst (.th t1)
    obtain⟨p',vs',rfl,e',t'⟩:=Red.lst (.th t2)
    exact⟨p,p',vs,vs',rfl,rfl,e,e',by rw[t.len,t'.len,sizeLine_eq];lia,fun b hb=>k _ _ _ _ _ ⟨col,r,t.append t'⟩ hb q⟩
   | _=>cases hy
  | _=>cases hx⟩⟩
def A46 (xs:List PyData) (n:Nat):List PyData:=(G5 n xs).flatten
theorem B9k {F:Addr->Prop} {H:Hp} {vs:List V} {ds:List PyData} (t:A9 F H vs ds):∀n:Nat,A9 F H (G5 n vs).flatten (A46 ds n)
 | 0=>.nil
 | n + 1=>by
  unfold A46
  rw[Y4,Y4,A60,A60]
  exact t.append (B9k t n)
def A3p (ta tb:DE)  (ρ:List Sl) (Q:List PyData->List Sl->Prop):Prop:=ta ρ fun a ρ1=>tb ρ1 fun b ρ2=>match b with
 | .int k=>bnd (M8 a) fun xs=>(-1000<=k/\k<=1000/\xs.length<=100)/\Q (A46 xs k.toNat) ρ2
 | _=>False
theorem B0j (ha:PE X a (eOf C ta)) (hb:PE X b (eOf C tb)):PE X (.BinOp a .Mult b pos) (fOf C (A3p ta tb)):=PE.wk (N8 C49 ha hb) fun σ H Q zz26=>el3 zz26 fun ρ P Qd R ht k=>
 ⟨ρ,P,_,R,ht,fun v a ρ1 H1 R1 h1=>⟨ρ1,_,_,R1,h1,fun w b ρ2 H2 R2 h2=>by
  split at h2
  ·obtain⟨xs,hx,⟨h3,h4,h5⟩,q⟩:=K5 h2
   obtain⟨col,r,t1,t2⟩:=th2 R2
   cases t2
   cases a with
   | list ds=>
    cases hx
    obtain⟨p,vs,rfl,e,t⟩:=Red.lst (.th t1)
    rename_i kk
    refine⟨p,kk,vs,rfl,rfl,e,by lia,by lia,?_,fun b hb=>k _ _ _ _ _ ⟨col,r,B9k t _⟩ hb q⟩
    have hl:=t.len
    rw[<-hl] at h5
    have:vs.length * kk.toNat<=100 * 1000:=Nat.mul_le_mul h5 (by lia)
    rw[sizeLine_eq]
    lia
   | _=>cases hx
  ·exact h2.elim⟩⟩
def tyD:PyData->Option String
 | .none=>some "NoneType"
 | .bool _=>some "bool"
 | .int _=>some "int"
 | .str _=>some "str"
 | .list _=>some "list"
 | .tuple _=>some "tuple"
 | .dict _=>some "dict"
theorem B9l {K:B3} {col:Addr->Nat} {H:Hp} {v:V} {a:PyData} (t:Red col H v a):∃T,tyD a=some T/\A8u K H v (.type T):=by
 cases t with
 | th t=>cases t with
  | non=>exact⟨_,rfl,.o .non⟩
  | bl b=>exact⟨_,rfl,.o (.bl b)⟩
  | int i=>exact⟨_,rfl,.o (.int i)⟩
  | str x=>exact⟨_,rfl,.o (.str x)⟩
  | lst _ e _=>exact⟨_,rfl,.o (.lst e)⟩
  | tup _ e _=>exact⟨_,rfl,.o (.tup e)⟩
  | dic _ e u=>cases u with
   | t=>exact⟨_,rfl,.o (.dT e)⟩
   | k i j=>exact⟨_,rfl,.o (.dK e)⟩
   | f o ks=>exact⟨_,rfl,.f e⟩
 | ls e _=>exact⟨_,rfl,.o (.lst e)⟩
def Y1 (T:String) (d:PyData):Bool:=match tyD d with
 | some t=>t == T||(T == "int" &&t == "bool")
 | none=>false
def A7l (K:B3) (T:String):Prop:=∀d t,tyD d=some t->A6y K (.type t) (.type T)=some (Y1 T d)
abbrev B9m (K:B3):List V->Hp->VK->Prop:=fun xs H Q=>∃x cv c t b,xs=[x,cv]/\G3 cv c/\A8u K H x t/\A6y K t c=some b/\Q (.bl b) H
def A3q (i:Nat) (T:String)  (ρ:List Sl) (Q:PyData->List Sl->Prop):Prop:=bnd (P3 ρ i) fun a=>Q (.bool (Y1 T a)) ρ
theorem A04 {i:Nat} {K:B3} {T:String} (hT:A7l K T) (h:PE X e (tCB (B9m K) (X7 (X4 i) (X7 (tC (.ty T)) g9)))):PE X e (eOf C (A3q i T)):=PE.wk h fun _ _ _ zz27=>el3 zz27 fun ρ P _ zz28 ht k=>zz28.elim fun col r=>by
 obtain⟨a,ha,q⟩:=K5 ht
 obtain⟨v,ev,t⟩:=r.slot ha
 obtain⟨t',e1,e2⟩:=B9l (K:=K) t
 exact⟨v,ev,v,.ty T,.type T,_,_,rfl,rfl,e2,hT a t' e1,k _ _ _ _ ⟨col,r.push (.bl _)⟩ q⟩
def A3r (ta:DE) (T:String)  (ρ:List Sl) (Q:PyData->List Sl->Prop):Prop:=ta ρ fun a ρ'=>Q (.bool (Y1 T a)) ρ'
theorem C59 {K:B3} {T:String} (hT:A7l K T) (h:PE X e (tCB (B9m K) (X7 (eOf C ta) (X7 (tC (.ty T)) g9)))):PE X e (eOf C (A3r ta T)):=PE.wk h fun _ _ _ zz29=>el3 zz29 fun ρ P _ R ht k=>⟨ρ,P,_,R,ht,fun v d ρ' H' zz30 q=>zz30.elim fun col r=>by
 obtain⟨t',e1,e2⟩:=B9l (K:=K) (.th (r.pd _ C0))
 exact⟨v,.ty T,.type T,_,_,rfl,rfl,e2,hT d t' e1,k _ _ _ _ ⟨col,(r.sub fun _ h=>B6 _ h).push (.bl _)⟩ q⟩⟩
theorem B9n {K:B3}:A7l K "int" :=fun d t h=>by cases d <;> cases h <;> with_unfolding_all rfl
theorem B9o {K:B3}:A7l K "bool" :=fun d t h=>by cases d <;> cases h <;> with_unfolding_all rfl
theorem A8y {K:B3}:A7l K "list" :=fun d t h=>by cases d <;> cases h <;> with_unfolding_all rfl
theorem B9p {K:B3}:A7l K "tuple" :=fun d t h=>by cases d <;> cases h <;> with_unfolding_all rfl
end
inductive Md where
 | sh
 | bo
 | hd
 | b2
 | bd
def A3s:List PyData->Option (List (List PyData))
 | []=>some []
 | .list ds::r=>(A3s r).map (ds::·)
 | _=>none
def B31:PyData->Option (List (List PyData))
 | .list xs=>A3s xs
 | _=>none
abbrev lls (dss:List (List PyData)):List PyData:=dss.map PyData.list
theorem C6a {xs:List PyData} {dss:List (List PyData)} (h:A3s xs=some dss):xs=lls dss:=by
 induction xs generalizing dss with
 | nil=>cases h;rfl
 | cons x r ih=>
  cases x with
  | list ds=>
   have h':(A3s r).map (ds::·)=some dss:=h
   cases q:A3s r with
   | none=>rw[q] at h';cases h'
   | some ess=>
    rw[q] at h'
    cases h'
    rw[ih q];rfl
  | _=>cases h
theorem C6b {d:PyData} {dss:List (List PyData)} (h:B31 d=some dss):d=.list (lls dss):=by
 cases d with
 | list xs=>rw[C6a h]
 | _=>cases h
theorem C6c {F:Addr->Prop} {H:Hp} {dss:List (List PyData)} {vs:List V} (t:A9 F H vs (lls dss)):∃as:List Addr,vs=as.map V.ref/\Rws F F H as dss:=by
 induction dss generalizing vs with
 | nil=>cases t;exact⟨[],rfl,.nil⟩
 | cons ds dss ih=>
  cases t with
  | cons x y=>
   obtain⟨as,rfl,r⟩:=ih y
   cases x with
   | lst n e z=>exact⟨_::as,rfl,.cons n e z r⟩
def slot2 (ρ:List Sl) (i:Nat):Option (List (List PyData)):=match ρ[i]? with
 | some (.o2 dss)=>some dss
 | some (.b2 dss)=>some dss
 | some (.sh d)=>B31 d
 | _=>none
def B9q (F:Addr->Prop) (hand:Option (Addr×Addr)) (H:Hp) (v:V) (d:PyData):Md->Prop
 | .sh=>ThV F H v d
 | .bo=>∃a vs ds,v=.ref a/\d=.list ds/\(∀q,hand=some q->a≠q.1)/\H a=some (.lst vs)/\A9 F H vs ds
 | .hd=>∃q,hand=some q/\v=.ref q.1
 | .b2=>∃a as dss,v=.ref a/\d=.list (lls dss)/\(∀q,hand=some q->a≠q.1)/\H a=some (.lst (as.map V.ref))/\Rws (fun b=>∀q,hand=some q->b≠q.1) F H as dss
 | .bd=>ThV (fun b=>∀q,hand=some q->b≠q.1) H v d
inductive U3 (F:Addr->Prop) (hand:Option (Addr×Addr)) (H:Hp):List Md->List V->List PyData->Prop
 | nil:U3 F hand H [] [] []
 | cons {m v d ms vs ds}:B9q F hand H v d m->U3 F hand H ms vs ds->U3 F hand H (m::ms) (v::vs) (d::ds)
theorem U3.len {F:Addr->Prop} {hand:Option (Addr×Addr)} {H:Hp} {ms:List Md} {vs:List V} {ds:List PyData} (t:U3 F hand H ms vs ds):vs.length=ms.length/\ds.length=ms.length:=by
 induction t with
 | nil=>exact⟨rfl,rfl⟩
 | cons _ t ih=>exact⟨congrArg (· + 1) ih.1,congrArg (· + 1) ih.2⟩
abbrev DSp:=List PyData->(PyData->Prop)->Prop
def spD (ms:List Md) (sp:DSp):Sp:=fun vs H Q _=>∃F hand ds Qd,((∀b,H b=none->F b)/\∀b xs,H b=some (.tup xs)->F b)/\(∀q,hand=some q->¬ F q.1)/\Hq hand H/\U3 F hand H ms vs ds/\sp ds Qd/\∀d v H',Qd d->ThV F H' v d->Kq hand H H'->Hq hand H'->Q v H'
inductive Ar where
 | v (d:PyData)
 | s (i:Nat)
 | w (d:PyData)
inductive ArV (σ:St) (P:List Pe):List V->List Ar->Prop
 | nil:ArV σ P [] []
 | v {v d vs as}:Pe.v v d∈P->ArV σ P vs as->ArV σ P (v::vs) (.v d::as)
 | s {i v vs as}:σ[i]?=some (some v)->ArV σ P vs as->ArV σ P (v::vs) (.s i::as)
 | w {v d vs as}:Pe.w v d∈P->ArV σ P vs as->ArV σ P (v::vs) (.w d::as)
abbrev DA:=List Sl->(List Ar->List Sl->Prop)->Prop
def aOf (C:DC) (t:DA):TA:=fun σ H Q=>∃ρ P Qd,Rel C ρ σ P H/\t ρ Qd/\∀vs as ρ' P' H',Rel C ρ' σ P' H'->(∀p∈P,p∈P')->ArV σ P' vs as->Qd as ρ'->Q vs H'
def A05 (ρ:List Sl) (i:Nat):Bool:=match ρ[i]? with
 | some .no=>false
 | none=>false
 | _=>true
section
variable {X:Cx} {C:DC} {e:Expr} {es:List Expr} {t:DE} {u:DA}
def A3t  (ρ:List Sl) (Q:List Ar->List Sl->Prop):Prop:=Q [] ρ
def aV (t:DE) (u:DA)  (ρ:List Sl) (Q:List Ar->List Sl->Prop):Prop:=t ρ fun d ρ1=>u ρ1 fun as ρ2=>Q (.v d::as) ρ2
def aS (i:Nat) (u:DA)  (ρ:List Sl) (Q:List Ar->List Sl->Prop):Prop:=A05 ρ i=true/\u ρ fun as ρ2=>Q (.s i::as) ρ2
theorem C3:PA X [] (aOf C A3t):=PA.wk B8 fun _ _ _ zz31=>el3 zz31 fun _ _ _ R ht k=>k [] [] _ _ _ R (fun _ h=>h) .nil ht
theorem A5 (ha:PE X e (eOf C t)) (hr:PA X es (aOf C u)) (hs:starEach (e::es) X.env=(false,eval e X.env)::starEach es X.env:=by rfl):PA X (e::es) (aOf C (aV t u)):=PA.wk (A4 ha hr hs) fun _ _ _ zz32=>el3 zz32 fun ρ P _ R ht k=>
 ⟨ρ,P,_,R,ht,fun _ _ ρ1 _ R1 h1=>⟨ρ1,_,_,R1,h1,fun _ _ _ _ _ R2 s2 p2 h2=>k _ _ _ _ _ R2 (fun p hp=>s2 p (B6 _ hp)) (.v (s2 _ C0) p2) h2⟩⟩
theorem C6d {col:Addr->Nat} {ρ:List Sl} {σ:St} {P:List Pe} {H:Hp} {i:Nat} (r:D8 C col ρ σ P H) (h:A05 ρ i=true):∃v,σ[i]?=some (some v):=by
 unfold A05 at h
 split at h
 ·cases h
 ·cases h
 ·rename_i s n1 n2
  cases q:ρ[i]? with
  | none=>exact absurd q n2
  | some s=>
   have z:=r.sl i s q
   cases s with
   | no=>exact absurd q n1
   | sh d=>obtain⟨v,e,_⟩:=z;exact⟨v,L4 e⟩
   | ow d=>obtain⟨a,_,e,_⟩:=z;exact⟨_,L4 e⟩
   | bo d=>obtain⟨a,_,e,_⟩:=z;exact⟨_,L4 e⟩
   | hd=>obtain⟨q,_,e⟩:=z;exact⟨_,L4 e⟩
   | o2 d=>obtain⟨a,_,e,_⟩:=z;exact⟨_,L4 e⟩
   | b2 d=>obtain⟨a,_,e,_⟩:=z;exact⟨_,L4 e⟩
   | di f ks=>obtain⟨a,e,_⟩:=z;exact⟨_,L4 e⟩
   | dm f ks=>obtain⟨a,e,_⟩:=z;exact⟨_,L4 e⟩
   | bd d=>obtain⟨v,e,_⟩:=z;exact⟨v,L4 e⟩
   | ot d=>obtain⟨v,e,_⟩:=z;exact⟨v,L4 e⟩
   | ob R=>obtain⟨v,e,_⟩:=z;exact⟨v,L4 e⟩
def A06 (ρ:List Sl) (i:Nat):Option PyData:=match ρ[i]? with
 | some (.bd d)=>some d
 | _=>none
theorem D8.lent {col:Addr->Nat} {ρ:List Sl} {σ:St} {P:List Pe} {H:Hp} (r:D8 C col ρ σ P H) {i:Nat} {d:PyData} (h:A06 ρ i=some d):∃v,σ[i]?=some (some v)/\ThV (Le C) C.H0 v d:=by
 unfold A06 at h
 split at h
 ·rename_i d' e
  cases h
  obtain⟨v,e1,t⟩:=r.sl i _ e
  exact⟨v,L4 e1,t⟩
 ·cases h
theorem D8.le {col:Addr->Nat} {ρ:List Sl} {σ:St} {P:List Pe} {H:Hp} (r:D8 C col ρ σ P H) {v:V} {d:PyData} (t:ThV (Le C) C.H0 v d):ThV (Le C) H v d:=t.mv fun b o g e=>⟨g,r.kq b o e g.2⟩
theorem D8.slot2 {col:Addr->Nat} {ρ:List Sl} {σ:St} {P:List Pe} {H:Hp} (r:D8 C col ρ σ P H) {i:Nat} {dss:List (List PyData)} (h:slot2 ρ i=some dss):∃a as,σ[i]?=some (some (.ref a))/\(∀q,C.hand=some q->a≠q.1)/\H a=some (.lst (as.map V.ref))/\Rws (fun b=>∀q,C.hand=some q->b≠q.1) (Z col) H as dss:=by
 unfold My.slot2 at h
 split at h
 ·rename_i dss' e
  cases h
  obtain⟨a,as,e1,c,e2,nd,t⟩:=r.sl i _ e
  exact⟨a,as,L4 e1,r.notH (by have:=c.1;lia),e2,t.mv (fun b o z e=>⟨z,e⟩) fun b o g e=>⟨r.notH (by have:=g.1;lia),e⟩⟩
 ·rename_i dss' e
  cases h
  obtain⟨a,as,e1,c,e2,t⟩:=r.sl i _ e
  exact⟨a,as,L4 e1,c.2,e2,t.mv (fun b o z e=>⟨z,e⟩) fun b o g e=>⟨g.2,e⟩⟩
 ·rename_i d e
  cases C6b h
  obtain⟨v,e1,t⟩:=r.sl i _ e
  cases t with
  | lst n e2 t=>
   obtain⟨as,rfl,t2⟩:=C6c t
   exact⟨_,as,L4 e1,r.notH (by rw[show col _=0 from n];decide),e2,t2.mv (fun b o z e=>⟨z,e⟩) fun b o g e=>⟨r.notH (by rw[show col b=0 from g];decide),e⟩⟩
 ·cases h
theorem F9 {i:Nat} (ha:PE X e (X4 i)) (hr:PA X es (aOf C u)) (hs:starEach (e::es) X.env=(false,eval e X.env)::starEach es X.env:=by rfl):PA X (e::es) (aOf C (aS i u)):=PA.wk (A4 ha hr hs) fun σ H Q zz33=>el3 zz33 fun ρ P Qd zz34 ht k=>zz34.elim fun col r=>by
 obtain⟨v,ev⟩:=C6d r ht.1
 exact⟨v,ev,ρ,P,_,⟨col,r⟩,ht.2,fun _ _ _ _ _ R2 s2 p2 h2=>k _ _ _ _ _ R2 s2 (.s ev p2) h2⟩
def arD (ρ:List Sl) (m:Md) (a:Ar):Option PyData:=match m,a with
 | .sh,.v d=>some d
 | .bo,.v (.list ds)=>some (.list ds)
 | .bo,.s i=>(P3 ρ i).bind fun d=>(M8 d).map PyData.list
 | .hd,.s i=>match ρ[i]? with
  | some .hd=>some .none
  | _=>none
 | .b2,.s i=>(slot2 ρ i).map fun dss=>.list (lls dss)
 | .bd,.v d=>some d
 | .bd,.w d=>some d
 | .bd,.s i=>match ρ[i]? with
  | some (.bd d)=>some d
  | some (.sh d)=>some d
  | _=>none
 | _,_=>none
def P7 (ρ:List Sl):List Md->List Ar->Option (List PyData)
 | [],[]=>some []
 | m::ms,a::as=>(arD ρ m a).bind fun d=>(P7 ρ ms as).map (d::·)
 | _,_=>none
theorem A0f {d:PyData} {xs:List PyData} (h:M8 d=some xs):d=.list xs:=by
 cases d <;> cases h
 rfl
theorem B32 {col:Addr->Nat} {ρ:List Sl} {σ:St} {P:List Pe} {H:Hp} (r:D8 C col ρ σ P H) {m:Md} {v:V} {d:PyData} {a:Ar} (ha:match a with | .v d=>Pe.v v d∈P | .s i=>σ[i]?=some (some v) | .w d=>Pe.w v d∈P) (h:arD ρ m a=some d):B9q (Z col) C.hand H v d m:=by
 unfold arD at h
 split at h
 ·cases h;exact r.pd _ ha
 ·cases h
  have z:ThV (Z col) H v (.list _):=r.pd _ ha
  cases z with
  | lst za e t=>exact⟨_,_,_,rfl,rfl,r.notH (by rw[show col _=0 from za];decide),e,t⟩
 ·rename_i i
  have ha':σ[i]?=some (some v):=ha
  cases q:P3 ρ i with
  | none=>rw[q] at h;cases h
  | some d'=>
   rw[q] at h
   cases q2:M8 d' with
   | none=>
    have h':(M8 d').map PyData.list=some d:=h
    rw[q2] at h';cases h'
   | some xs=>
    have h':(M8 d').map PyData.list=some d:=h
    rw[q2] at h'
    cases h'
    have:=A0f q2
    subst this
    unfold P3 at q
    split at q
    ·rename_i d'' e
     cases q
     obtain⟨v',e1,t⟩:=r.sl i _ e
     rw[L4 e1] at ha'
     cases ha'
     cases t with
     | lst za e t=>exact⟨_,_,_,rfl,rfl,r.notH (by rw[show col _=0 from za];decide),e,t⟩
    ·rename_i ds e
     cases q
     obtain⟨a,vs,e1,c,_,e2,t⟩:=r.sl i _ e
     rw[L4 e1] at ha'
     cases ha'
     exact⟨_,_,_,rfl,rfl,r.notH (by lia),e2,t⟩
    ·rename_i ds e
     cases q
     obtain⟨a,vs,e1,c,n,e2,t⟩:=r.sl i _ e
     rw[L4 e1] at ha'
     cases ha'
     exact⟨_,_,_,rfl,rfl,n,e2,t⟩
    ·cases q
 ·rename_i i
  have ha':σ[i]?=some (some v):=ha
  split at h
  ·rename_i e
   cases h
   obtain⟨q,e1,e2⟩:=r.sl i _ e
   rw[L4 e2] at ha'
   cases ha'
   exact⟨q,e1,rfl⟩
  ·cases h
 ·rename_i i
  have ha':σ[i]?=some (some v):=ha
  cases q:slot2 ρ i with
  | none=>rw[q] at h;cases h
  | some dss=>
   rw[q] at h
   cases h
   obtain⟨a,as,e1,n,e2,t⟩:=r.slot2 q
   rw[e1] at ha'
   cases ha'
   exact⟨a,as,dss,rfl,rfl,n,e2,t⟩
 ·cases h
  exact ThV.mv (fun b o z e=>⟨r.notH (by rw[show col b=0 from z];decide),e⟩) (r.pd _ ha)
 ·cases h
  exact ThV.mv (fun b o z e=>⟨z.2,e⟩) (r.le (r.pd _ ha))
 ·rename_i i
  have ha':σ[i]?=some (some v):=ha
  split at h
  ·rename_i e
   cases h
   obtain⟨v',e1,t⟩:=r.sl i _ e
   rw[L4 e1] at ha'
   cases ha'
   exact ThV.mv (fun b o z e=>⟨z.2,e⟩) (r.le t)
  ·rename_i e
   cases h
   obtain⟨v',e1,t⟩:=r.sl i _ e
   rw[L4 e1] at ha'
   cases ha'
   exact ThV.mv (fun b o z e=>⟨r.notH (by rw[show col b=0 from z];decide),e⟩) t
  ·cases h
 ·cases h
theorem B0k {col:Addr->Nat} {ρ:List Sl} {σ:St} {P:List Pe} {H:Hp} (r:D8 C col ρ σ P H):∀{ms:List Md} {vs:List V} {ds:List PyData} {as:List Ar},ArV σ P vs as->P7 ρ ms as=some ds->U3 (Z col) C.hand H ms vs ds
 | [],_,_,_,.nil,h=>by cases h;exact .nil
 | [],_,_,_,.v _ _,h=>by cases h
 | [],_,_,_,.s _ _,h=>by cases h
 | [],_,_,_,.w _ _,h=>by cases h
 | _::_,_,_,_,.nil,h=>by cases h
 | m::ms,_,ds,_,.v (d:=d0) (as:=as) hm t,h=>by
  have h':((arD ρ m (.v d0)).bind fun d=>(P7 ρ ms as).map (d::·))=some ds:=h
  cases q:arD ρ m (.v d0) with
  | none=>rw[q] at h';cases h'
  | some d=>
   rw[q] at h'
   have h2:(P7 ρ ms as).map (d::·)=some ds:=h'
   cases q2:P7 ρ ms as with
   | none=>rw[q2] at h2;cases h2
   | some ds'=>
    rw[q2] at h2
    cases h2
    exact .cons (B32 r (a:=.v d0) hm q) (B0k r t q2)
 | m::ms,_,ds,_,.s (i:=i) (as:=as) hm t,h=>by
  have h':((arD ρ m (.s i)).bind fun d=>(P7 ρ ms as).map (d::·))=some ds:=h
  cases q:arD ρ m (.s i) with
  | none=>rw[q] at h';cases h'
  | some d=>
   rw[q] at h'
   have h2:(P7 ρ ms as).map (d::·)=some ds:=h'
   cases q2:P7 ρ ms as with
   | none=>rw[q2] at h2;cases h2
   | some ds'=>
    rw[q2] at h2
    cases h2
    exact .cons (B32 r (a:=.s i) hm q) (B0k r t q2)
 | m::ms,_,ds,_,.w (d:=d0) (as:=as) hm t,h=>by
  have h':((arD ρ m (.w d0)).bind fun d=>(P7 ρ ms as).map (d::·))=some ds:=h
  cases q:arD ρ m (.w d0) with
  | none=>rw[q] at h';cases h'
  | some d=>
   rw[q] at h'
   have h2:(P7 ρ ms as).map (d::·)=some ds:=h'
   cases q2:P7 ρ ms as with
   | none=>rw[q2] at h2;cases h2
   | some ds'=>
    rw[q2] at h2
    cases h2
    exact .cons (B32 r (a:=.w d0) hm q) (B0k r t q2)
def A3u (ms:List Md) (sp:DSp) (u:DA)  (ρ:List Sl) (Q:PyData->List Sl->Prop):Prop:=u ρ fun as ρ'=>bnd (P7 ρ' ms as) fun ds=>sp ds fun d=>Q d ρ'
theorem C4 {ms:List Md} {sp:DSp} {E:XK} (h:PE X e (B75 (spD ms sp) [] E (aOf C u))):PE X e (eOf C (A3u ms sp u)):=PE.wk h fun σ H Q zz35=>el3 zz35 fun ρ P Qd R ht k=>⟨ρ,P,_,R,ht,fun vs as ρ' P' H' zz36 s p q=>zz36.elim fun col r=>by
 obtain⟨ds,hds,q⟩:=K5 q
 rw[n6]
 obtain⟨col,r,tp⟩:=r.norm
 refine⟨Z col,C.hand,ds,_,⟨r.fresh,tp⟩,fun q hq z=>?_,r.hq,B0k r p hds,q,fun d v H2 q2 t2 k2 h2=>k _ _ _ _ ⟨col,(((r.mv k2 h2).sub s)).push t2⟩ q2⟩
 have:=r.hnd q hq
 rw[show col q.1=0 from z] at this
 cases this⟩
end
structure A8z (C:DC) (J:It) (xs:List PyData) (P:List Pe):Prop where
 go:∀{i:Nat} {ρ:List Sl} {σ:St} {P':List Pe} {H:Hp},(∀p∈P,p∈P')->Rel C ρ σ P' H->i < xs.length->J.go i H
 yld:∀{i:Nat} {ρ:List Sl} {σ:St} {P':List Pe} {H H':Hp} {x:V} {d:PyData},(∀p∈P,p∈P')->Rel C ρ σ P' H->xs[i]?=some d->J.yld i H x H'->Rel C ρ σ (.v x d::P') H'
 stop:∀{ρ:List Sl} {σ:St} {P':List Pe} {H:Hp},(∀p∈P,p∈P')->Rel C ρ σ P' H->J.stop xs.length H
theorem K1 {F:Addr->Prop} {H:Hp} {v:V} {xs:List PyData} (t:ThV F H v (.list xs)):∃a vs,v=.ref a/\F a/\H a=some (.lst vs)/\A9 F H vs xs:=by
 cases t with
 | lst za e t=>exact⟨_,_,rfl,za,e,t⟩
theorem U9 {F:Addr->Prop} {H:Hp} {v:V} {xs:List PyData} (t:ThV F H v (.tuple xs)):∃a vs,v=.ref a/\F a/\H a=some (.tup vs)/\A9 F H vs xs:=by
 cases t with
 | tup za e t=>exact⟨_,_,rfl,za,e,t⟩
def iOf (C:DC) (t:DF):TI:=fun σ H R=>∃ρ P Qd,Rel C ρ σ P H/\t ρ Qd/\∀xs ρ' P' H' J,Rel C ρ' σ P' H'->(∀p∈P,p∈P')->A8z C J xs P'->Qd xs ρ'->R J H'
section
variable {X:Cx} {C:DC} {tg e:Expr} {t:DE} {u:DF} {pos:Pos}
theorem PI.wk {tg e:Expr} {w w':TI} (h:PI X tg e w) (f:∀σ H R,w' σ H R->w σ H R):PI X tg e w':=fun pins s σ H R I q=>h pins s σ H R I (f σ H R q)
theorem B0l {K:B3} {a:Addr} {vs:List V} {xs:List PyData} {P:List Pe}:A8z C (Itl K a) xs (.n a (.lst vs)::.s vs xs::P) where
 go:=fun {i ρ σ P' H} s R hi=>by
  obtain⟨col,r⟩:=R
  have h1:=r.pd _ (s _ C0)
  have h2:A9 (Z col) H vs xs:=r.pd _ (s _ (B6 _ C0))
  have hl:=h2.len
  exact⟨vs,vs[i],SqL.of h1.2.2,K3 (by lia)⟩
 yld:=fun {i ρ σ P' H H' x d} s R hi y=>by
  obtain⟨e,y⟩:=y
  subst e
  obtain⟨col,r⟩:=R
  have h1:=r.pd _ (s _ C0)
  have h2:A9 (Z col) H' vs xs:=r.pd _ (s _ (B6 _ C0))
  have hx:=y vs (SqL.of h1.2.2)
  obtain⟨d',e1,t⟩:=h2.get hx
  rw[hi] at e1
  cases e1
  exact⟨col,r.push t⟩
 stop:=fun {ρ σ P' H} s R=>by
  obtain⟨col,r⟩:=R
  have h1:=r.pd _ (s _ C0)
  have h2:A9 (Z col) H vs xs:=r.pd _ (s _ (B6 _ C0))
  have hl:=h2.len
  exact⟨vs,SqL.of h1.2.2,by lia⟩
def dIl (t:DE)  (ρ:List Sl) (Q:List PyData->List Sl->Prop):Prop:=t ρ fun d ρ'=>bnd (M8 d) fun xs=>Q xs ρ'
theorem A07 (h:PE X e (eOf C t)):PI X tg e (iOf C (dIl t)):=PI.wk (A1q h) fun _ _ _ zz1=>el3 zz1 fun ρ P _ R ht k=>⟨ρ,P,_,R,ht,fun v d ρ' H' zz2 q=>zz2.elim fun col r=>by
 obtain⟨xs,hx,q⟩:=K5 q
 have:=A0f hx
 subst this
 obtain⟨a,vs,rfl,za,e1,t1⟩:=K1 (show ThV (Z col) H' v (.list xs) from r.pd _ C0)
 refine⟨a,rfl,⟨vs,SqL.of e1⟩,k xs ρ' (.n a (.lst vs)::.s vs xs::P) H' _ ⟨col,?_⟩ (fun _ h=>B6 _ (B6 _ h)) B0l q⟩
 exact ((r.sub fun _ h=>B6 _ h).add (x:=.s vs xs) t1).add (x:=.n a (.lst vs)) ⟨by rw[show col a=0 from za];decide,r.notH (by rw[show col a=0 from za];decide),e1⟩⟩
def C6e:PyData->Option (List PyData)
 | .tuple xs=>some xs
 | _=>none
def dIt (t:DE)  (ρ:List Sl) (Q:List PyData->List Sl->Prop):Prop:=t ρ fun d ρ'=>bnd (C6e d) fun xs=>Q xs ρ'
def dIv (i:Nat)  (ρ:List Sl) (Q:List PyData->List Sl->Prop):Prop:=match ρ[i]? with
 | some (.sh (.list xs))=>Q xs ρ
 | some (.ow xs)=>Q xs (ρ.set i (.sh (.list xs)))
 | some (.bo xs)=>Q xs ρ
 | _=>False
theorem b9 {i:Nat} (h:PE X e (X4 i)):PI X tg e (iOf C (dIv i)):=PI.wk (A1q h) fun σ H R' zz5=>el3 zz5 fun ρ P Qd zz6 ht k=>zz6.elim fun col r=>by
 unfold dIv at ht
 split at ht
 ·rename_i xs e
  obtain⟨v,e1,t⟩:=r.sl i _ e
  obtain⟨a,vs,rfl,za,e2,t1⟩:=K1 t
  ·refine⟨_,L4 e1,a,rfl,⟨vs,SqL.of e2⟩,k xs ρ (.n a (.lst vs)::.s vs xs::P) H _ ⟨col,?_⟩ (fun _ h=>B6 _ (B6 _ h)) B0l ht⟩
   exact (r.add (x:=.s vs xs) t1).add (x:=.n a (.lst vs)) ⟨by rw[show col a=0 from za];decide,r.notH (by rw[show col a=0 from za];decide),e2⟩
 ·rename_i xs e
  obtain⟨a,e1,col',r'⟩:=r.freeze e
  obtain⟨a',vs,ea,za,e2,t1⟩:=K1 (show ThV (Z col') H (.ref a) (.list xs) from r'.pd _ C0)
  cases ea
  ·refine⟨_,L4 e1,a,rfl,⟨vs,SqL.of e2⟩,k xs _ (.n a (.lst vs)::.s vs xs::P) H _ ⟨col',?_⟩ (fun _ h=>B6 _ (B6 _ h)) B0l ht⟩
   exact ((r'.sub fun _ h=>B6 _ h).add (x:=.s vs xs) t1).add (x:=.n a (.lst vs)) ⟨by rw[show col' a=0 from za];decide,r'.notH (by rw[show col' a=0 from za];decide),e2⟩
 ·rename_i xs e
  obtain⟨a,vs,e1,c,n,e2,t⟩:=r.sl i _ e
  exact⟨_,L4 e1,a,rfl,⟨vs,SqL.of e2⟩,k xs ρ (.n a (.lst vs)::.s vs xs::P) H _ ⟨col,(r.add (x:=.s vs xs) t).add (x:=.n a (.lst vs)) ⟨c,n,e2⟩⟩ (fun _ h=>B6 _ (B6 _ h)) B0l ht⟩
 ·exact ht.elim
def M9 (lo:Int) (n:Nat):List PyData:=(P5 n).map fun i=>.int (lo + ((i:Nat):Int))
theorem B9r {lo:Int} {n i:Nat} {d:PyData} (h:(M9 lo n)[i]?=some d):i < n/\d=.int (lo + i):=by
 unfold M9 at h
 rw[M7] at h
 by_cases hi:i < n
 ·rw[B2j hi] at h
  cases h
  exact⟨hi,rfl⟩
 ·rw[f9 (by rw[o7];lia)] at h
  cases h
theorem C6f {lo:Int} {n:Nat} {P:List Pe}:A8z C (Itr lo n) (M9 lo n) P where
 go:=fun {i _ _ _ _} _ _ hi=>by
  have:(M9 lo n).length=n:=by unfold M9;rw[D5,o7]
  show i < n
  lia
 yld:=fun {i ρ σ P' H H' x d} _ R hi y=>by
  obtain⟨e1,e2⟩:=y
  subst e1 e2
  obtain⟨_,e3⟩:=B9r hi
  subst e3
  obtain⟨col,r⟩:=R
  exact⟨col,r.push (.int _)⟩
 stop:=fun _ _=>by
  have:(M9 lo n).length=n:=by unfold M9;rw[D5,o7]
  show n<=(M9 lo n).length
  lia
def B0m (u:DF)  (ρ:List Sl) (Q:List PyData->List Sl->Prop):Prop:=u ρ fun ds ρ'=>match ds with
 | [.int j]=>(-(2 ^ 62)<=j/\j < 2 ^ 62)/\Q (M9 0 j.toNat) ρ'
 | _=>False
theorem A3v (h:PI X tg e (B70 (vOf C u))):PI X tg e (iOf C (B0m u)):=PI.wk h fun _ _ _ zz7=>el3 zz7 fun ρ P _ R ht k=>⟨ρ,P,_,R,ht,fun vs ds ρ' P' H' zz8 s p q=>zz8.elim fun col r=>by
 split at q
 ·have t:=p.th r
  obtain⟨v,rfl,t1⟩:=A42 t
  cases t1
  exact⟨_,rfl,q.1.1,q.1.2,k _ _ P' _ _ ⟨col,r⟩ s C6f q.2⟩
 ·exact q.elim⟩
def B33 (u:DF)  (ρ:List Sl) (Q:List PyData->List Sl->Prop):Prop:=u ρ fun ds ρ'=>match ds with
 | [.int i,.int j]=>(-(2 ^ 62)<=i/\i < 2 ^ 62/\-(2 ^ 62)<=j/\j < 2 ^ 62)/\Q (M9 i (j - i).toNat) ρ'
 | _=>False
def T1 (xs:List PyData):List PyData:=xs.zipIdx.map fun p=>.tuple [.int (p.2:Nat),p.1]
theorem B9s {xs:List PyData} {i:Nat} {d:PyData} (h:(T1 xs)[i]?=some d):∃x,xs[i]?=some x/\d=.tuple [.int (i:Nat),x]:=by
 unfold T1 at h
 rw[M7,List.getElem?_zipIdx] at h
 cases q:xs[i]? with
 | none=>rw[q] at h;cases h
 | some x=>rw[q] at h;cases h;exact⟨x,rfl,by rw[Nat.zero_add]⟩
theorem B9t {K:B3} {a:Addr} {vs:List V} {xs:List PyData} {P:List Pe}:A8z C (Ite K a) (T1 xs) (.n a (.lst vs)::.s vs xs::P) where
 go:=fun {i ρ σ P' H} s R hi=>by
  obtain⟨col,r⟩:=R
  have h1:=r.pd _ (s _ C0)
  have h2:A9 (Z col) H vs xs:=r.pd _ (s _ (B6 _ C0))
  have hl:=h2.len
  have hi':i < xs.length:=by unfold T1 at hi;rw[D5,B2k] at hi;exact hi
  exact⟨vs,vs[i],SqL.of h1.2.2,K3 (by lia)⟩
 yld:=fun {i ρ σ P' H H' x d} s R hi y=>by
  obtain⟨p,v,rfl,hp,rfl,y⟩:=y
  obtain⟨col,r⟩:=R
  have h1:=r.pd _ (s _ C0)
  have h2:A9 (Z col) H vs xs:=r.pd _ (s _ (B6 _ C0))
  have hx:=y vs (SqL.of h1.2.2)
  obtain⟨x,e1,rfl⟩:=B9s hi
  obtain⟨d',e2,t⟩:=h2.get hx
  rw[e1] at e2
  cases e2
  exact⟨col,r.tup (.cons (.int _) (.cons t .nil)) hp⟩
 stop:=fun {ρ σ P' H} s R=>by
  obtain⟨col,r⟩:=R
  have h1:=r.pd _ (s _ C0)
  have h2:A9 (Z col) H vs xs:=r.pd _ (s _ (B6 _ C0))
  have hl:=h2.len
  exact⟨vs,SqL.of h1.2.2,by unfold T1;rw[D5,B2k];lia⟩
def B0n (t:DE)  (ρ:List Sl) (Q:List PyData->List Sl->Prop):Prop:=t ρ fun d ρ'=>bnd (M8 d) fun xs=>Q (T1 xs) ρ'
theorem B34 {K:B3} (h:PI X tg e (B3n K (X7 (eOf C t) g9))):PI X tg e (iOf C (B0n t)):=PI.wk h fun _ _ _ zz11=>el3 zz11 fun ρ P _ R ht k=>⟨ρ,P,_,R,ht,fun v d ρ' H' zz12 q=>zz12.elim fun col r=>by
 obtain⟨xs,hx,q⟩:=K5 q
 have:=A0f hx
 subst this
 obtain⟨a,vs,rfl,za,e1,t1⟩:=K1 (show ThV (Z col) H' v (.list xs) from r.pd _ C0)
 refine⟨a,rfl,⟨vs,SqL.of e1⟩,k _ ρ' (.n a (.lst vs)::.s vs xs::P) H' _ ⟨col,?_⟩ (fun _ h=>B6 _ (B6 _ h)) B9t q⟩
 exact ((r.sub fun _ h=>B6 _ h).add (x:=.s vs xs) t1).add (x:=.n a (.lst vs)) ⟨by rw[show col a=0 from za];decide,r.notH (by rw[show col a=0 from za];decide),e1⟩⟩
end
def A0g (tt:DT) (te:DE) (ρ:List Sl) (Q:List PyData->Prop):List PyData->List PyData->Prop
 | [],acc=>Q acc
 | x::r,acc=>tt (ρ++[.sh x]) fun b ρ'=>ρ'=ρ++[.sh x]/\if b=true then te (ρ++[.sh x]) fun d ρ''=>ρ''=ρ++[.sh x]/\A0g tt te ρ Q r (acc++[d]) else A0g tt te ρ Q r acc
def j4 (j:Nat) (it:DF) (tt:DT) (te:DE)  (ρ:List Sl) (Q:List PyData->List Sl->Prop):Prop:=it ρ fun xs ρ1=>(ρ1.length=j/\xs.length<=1000)/\A0g tt te ρ1 (fun ds=>Q ds ρ1) xs []
def A80  (ρ:List Sl) (Q:Bool->List Sl->Prop):Prop:=Q true ρ
section
variable {X:Cx} {C:DC}
theorem PTs.wk {es:List Expr} {t t':TT} (h:PTs X es t) (f:∀σ H Q,t' σ H Q->t σ H Q):PTs X es t':=fun pins s σ H Q I q=>h pins s σ H Q I (f σ H Q q)
theorem Y2:PTs X [] (cOf C A80):=PTs.wk A2v fun _ _ _ zz13=>el3 zz13 fun _ _ _ R ht k=>k _ _ _ R ht
theorem Rel.ext {ρ:List Sl} {σ:St} {P:List Pe} {H:Hp} {x:V} {d:PyData} (R:Rel C ρ σ (.v x d::P) H):Rel C (ρ++[.sh d]) (σ++[some x]) P H:=by
 obtain⟨col,r⟩:=R
 have t:ThV (Z col) H x d:=r.pd _ C0
 have r:=r.sub fun _ h=>B6 _ h
 refine⟨col,{ r with sl:=fun i s e=>?_,len:=by rw[M4,M4,r.len];rfl }⟩
 by_cases hi:i < ρ.length
 ·rw[l6 hi] at e
  rw[l6 (by rw[<-r.len];exact hi)]
  exact r.sl i s e
 ·rw[f7 (by lia)] at e
  rw[f7 (by rw[<-r.len];lia),<-r.len]
  match q:i - ρ.length with
  | 0=>
   rw[q] at e
   cases e
   exact⟨x,rfl,t⟩
  | n + 1=>rw[q] at e;simp at e
theorem D8.unext {col:Addr->Nat} {ρ ρ':List Sl} {σ σ':St} {P:List Pe} {H:Hp} (r:D8 C col (ρ++ρ') (σ++σ') P H) (hl:ρ.length=σ.length):D8 C col ρ σ P H:=by
 refine { r with sl:=fun i s e=>?_,len:=hl }
 have hi:=(m9.mp e).1
 have:=r.sl i s (by rw[l6 hi];exact e)
 rw[l6 (by lia)] at this
 exact this
theorem A9.snoc {F:Addr->Prop} {H:Hp} {vs:List V} {ds:List PyData} {v:V} {d:PyData} (t:A9 F H vs ds) (x:ThV F H v d):A9 F H (vs++[v]) (ds++[d]):=t.append (.cons x .nil)
theorem C6g {σ:St} {n j:Nat} {x:V} (h1:n=σ.length + 1) (h2:j=σ.length):(O7 n j σ).set j (some x)=σ++[some x]:=by
 subst h1 h2
 unfold O7
 rw[A9s (by simp),B7b _ _ (F3 _),B7b _ _ (F3 _)]
 simp
theorem B35 {it:DF} {tt:DT} {te:DE} {n j:Nat} (hn:n=j + 1) {σ:St} {H:Hp} {Q:VK} (h:fOf C (j4 j it tt te) σ H Q):A1t (iOf C it) n j (fun _=>cOf C tt) (fun _=>eOf C te) σ H Q:=by
 obtain⟨ρ,P,Qd,R,ht,k⟩:=h
 refine⟨ρ,P,_,R,ht,fun xs ρ1 P1 H1 J R1 s1 io q=>?_⟩
 obtain⟨⟨hj,hx⟩,q⟩:=q
 have lz:∀m,m<=1000->m<=sizeLine:=fun m hm=>A4l (A7e hm)
 refine⟨fun i m ys H'=>m=xs.length - i/\i<=xs.length/\ys.length<=i/\∃acc,Rel C ρ1 σ (.s ys acc::P1) H'/\A0g tt te ρ1 (fun ds=>Qd ds ρ1) (xs.drop i) acc,⟨xs.length,by simp,M6 _,F3 _,[],?_,q⟩,?_⟩
 ·obtain⟨col,r⟩:=R1
  exact⟨col,r.add (x:=.s [] []) .nil⟩
 rintro i m ys H2 ⟨rfl,hi,hy,acc,R2,q2⟩
 refine⟨lz _ (by lia),?_⟩
 have sub2:∀p∈P1,p∈Pe.s ys acc::P1:=fun _ h=>B6 _ h
 have hlen:ρ1.length=σ.length:=by obtain⟨col,r⟩:=R2;exact r.len
 by_cases hlt:i < xs.length
 ·rw[A4o hlt] at q2
  refine .inr ⟨io.go sub2 R2 hlt,fun ys' H'=>ys'.length<=i + 1/\∃acc,Rel C ρ1 σ (.s ys' acc::P1) H'/\A0g tt te ρ1 (fun ds=>Qd ds ρ1) (xs.drop (i + 1)) acc,fun ys' H' zz14=>zz14.elim fun h1 h2=>⟨xs.length - (i + 1),by lia,rfl,hlt,h1,h2⟩,fun x H3 y a=>?_⟩
  have R3:=(io.yld sub2 R2 (K3 hlt) y).ext
  rw[C6g (by rw[hn,<-hlen,hj]) (by rw[<-hlen,hj])]
  refine⟨_,_,_,R3,q2,fun b ρ' H4 R4 q4=>?_⟩
  obtain⟨rfl,q4⟩:=q4
  cases b with
  | true=>
   refine J0 ⟨_,_,_,R4,by simpa using q4,fun v d ρ'' H5 R5 q5=>?_⟩
   obtain⟨rfl,q5⟩:=q5
   refine⟨by rw[M4];simp;lia,acc++[d],?_,q5⟩
   obtain⟨col,r⟩:=R5
   have t1:ThV (Z col) H5 v d:=r.pd _ C0
   have t2:A9 (Z col) H5 ys acc:=r.pd _ (B6 _ C0)
   exact⟨col,((r.unext hlen).sub fun _ h=>B6 _ (B6 _ h)).add (x:=.s (ys++[v]) (acc++[d])) (t2.snoc t1)⟩
  | false=>
   refine G6 ⟨by lia,acc,?_,by simpa using q4⟩
   obtain⟨col,r⟩:=R4
   exact⟨col,r.unext hlen⟩
 ·have e:i=xs.length:=by lia
  subst e
  rw[B2l] at q2
  refine .inl ⟨io.stop sub2 R2,fun p hp=>k _ _ _ _ _ ?_ hp q2⟩
  obtain⟨col,r⟩:=R2
  exact⟨col,r.sub fun p hp=>B6 _ (s1 p hp),r.pd _ C0⟩
end
structure K2 where
 nx:List Sl->Prop
 rt:PyData->Prop
 bk:List Sl->Prop:=fun _=>False
 ct:List Sl->Prop:=fun _=>False
 ro:Sl->Prop:=fun _=>False
abbrev DS:=K2->List Sl->Prop
def C6h (C:DC) (col:Addr->Nat) (H:Hp) (v:V):Sl->Prop
 | .ow ds=>∃a vs,v=.ref a/\C.H0 a=none/\col a≠0/\H a=some (.lst vs)/\A9 (Z col) H vs ds
 | .o2 dss=>∃a as,v=.ref a/\(C.H0 a=none/\col a≠0)/\H a=some (.lst (as.map V.ref))/\(a::as).Nodup/\Rws (fun b=>C.H0 b=none/\col b≠0) (Z col) H as dss
 | .di false ks=>∃a,v=.ref a/\C.H0 a=none/\H a=some (.dT (dEn ks))
 | _=>False
structure C6i (C:DC) (P:List Pe) (Dd:K2) (D:X3):Prop where
 nx:∀ρ σ H,Rel C ρ σ P H->Dd.nx ρ->D.nx σ H
 rt:∀v d ρ σ H,Rel C ρ σ (.v v d::P) H->Dd.rt d->D.rt v H
 bk:∀ρ σ H,Rel C ρ σ P H->Dd.bk ρ->D.bk σ H
 ct:∀ρ σ H,Rel C ρ σ P H->Dd.ct ρ->D.ct σ H
 ro:∀(v:V) (s:Sl) (ρ:List Sl) σ H col,D8 C col ρ σ P H->C6h C col H v s->Dd.ro s->D.rt v H
def sOf (C:DC) (t:DS):TS:=fun D σ H=>∃ρ P Dd,Rel C ρ σ P H/\t Dd ρ/\C6i C P Dd D
section
variable {X:Cx} {C:DC} {st:Stmt} {sts:List Stmt} {e:Expr} {t u:DS} {te:DE} {tf:DF} {c:DT} {pos:Pos}
theorem PS.wk {t t':TS} (h:PS X st t) (f:∀D σ H,t' D σ H->t D σ H):PS X st t':=fun pins s σ H D I q=>h pins s σ H D I (f D σ H q)
theorem PSs.wk {t t':TS} (h:PSs X sts t) (f:∀D σ H,t' D σ H->t D σ H):PSs X sts t':=fun pins s σ H D I q=>h pins s σ H D I (f D σ H q)
def A3w (t u:DS)  (D:K2) (ρ:List Sl):Prop:=t { D with nx:=u D } ρ
def A3x  (D:K2) (ρ:List Sl):Prop:=D.nx ρ
theorem J5:PSs X [] (sOf C A3x):=PSs.wk g5 fun _ _ _ zz15=>el3 zz15 fun _ _ _ R ht E=>E.nx _ _ _ R ht
theorem B7 (h:PS X st (sOf C t)):PSs X [st] (sOf C t):=M2 h
theorem F7 (h1:PS X st (sOf C t)) (h2:PSs X sts (sOf C u)):PSs X (st::sts) (sOf C (A3w t u)):=PSs.wk (E6 h1 h2) fun _ _ _ zz16=>el3 zz16 fun ρ P Dd R ht E=>⟨ρ,P,{ Dd with nx:=u Dd },R,ht,⟨fun ρ' _ _ R' h=>⟨ρ',P,Dd,R',h,E⟩,E.rt,E.bk,E.ct,E.ro⟩⟩
def Go (f:List Sl->Prop) (ρ:List Sl):Prop:=f ρ
theorem go {f:List Sl->Prop} {ρ:List Sl} (h:f ρ):Go f ρ:=h
def P8 (t u:DS) (D:K2) (ρ:List Sl):Prop:=t { D with nx:=Go (u D) } ρ
theorem D3 (h1:PS X st (sOf C t)) (h2:PSs X sts (sOf C u)):PSs X (st::sts) (sOf C (P8 t u)):=PSs.wk (E6 h1 h2) fun _ _ _ zz17=>el3 zz17 fun ρ P Dd R ht E=>⟨ρ,P,{ Dd with nx:=Go (u Dd) },R,ht,⟨fun ρ' _ _ R' h=>⟨ρ',P,Dd,R',h,E⟩,E.rt,E.bk,E.ct,E.ro⟩⟩
def Y9 (t:DS)  (D:K2) (ρ:List Sl):Prop:=∃M:List Sl->Prop,t { D with nx:=M } ρ/\∀ρ',M ρ'->D.nx ρ'
theorem T7 (h:PS X st (sOf C t)):PS X st (sOf C (Y9 t)):=PS.wk h fun _ _ _ ⟨ρ,P,Dd,R,⟨M,h1,h2⟩,E⟩=>⟨ρ,P,{ Dd with nx:=M },R,h1,⟨fun ρ' σ' H' R' h=>E.nx ρ' σ' H' R' (h2 ρ' h),E.rt,E.bk,E.ct,E.ro⟩⟩
theorem C6j:PS X st (sOf C fun _ _=>False):=PS.wk C5m fun _ _ _ zz22=>el3 zz22 fun _ _ _ _ h _=>h
def A3y (te:DE)  (D:K2) (ρ:List Sl):Prop:=te ρ fun d _=>D.rt d
theorem C8 (h:PE X e (eOf C te)):PS X (.Return (some e) pos) (sOf C (A3y te)):=PS.wk (Q3 h) fun _ _ _ zz23=>el3 zz23 fun ρ P _ R ht E=>⟨ρ,P,_,R,ht,fun v d _ _ R' q=>E.rt v d _ _ _ R' q⟩
def A3z (c:DT) (t u:DS)  (D:K2) (ρ:List Sl):Prop:=c ρ fun b ρ'=>if b=true then t D ρ' else u D ρ'
theorem J1 {ce:Expr} {a b:List Stmt} (hc:PT X ce (cOf C c)) (ha:PSs X a (sOf C t)) (hb:PSs X b (sOf C u)):PS X (.If ce a b pos) (sOf C (A3z c t u)):=PS.wk (Z8 hc ha hb) fun _ _ _ zz26=>el3 zz26 fun ρ P Dd R ht E=>⟨ρ,P,_,R,ht,fun b ρ' _ R' q=>by
 cases b with
 | true=>exact J0 ⟨ρ',P,Dd,R',by simpa using q,E⟩
 | false=>exact G6 ⟨ρ',P,Dd,R',by simpa using q,E⟩⟩
def A47 (te:DE)  (D:K2) (ρ:List Sl):Prop:=te ρ fun _ ρ'=>D.nx ρ'
def A15 (i:Nat) (te:DE)  (D:K2) (ρ:List Sl):Prop:=te ρ fun d ρ'=>D.nx (ρ'.set i (.sh d))
theorem E3 {i:Nat} (hp:PS X st (A68 (eOf C te) (R6 i))):PS X st (sOf C (A15 i te)):=PS.wk hp fun _ _ _ zz28=>el3 zz28 fun ρ P _ R ht E=>⟨ρ,P,_,R,ht,fun v d ρ' H' zz29 q=>zz29.elim fun col r=>E.nx _ _ _ ⟨col,((r.store (i:=i) (r.pd _ C0)).sub fun _ h=>B6 _ h)⟩ q⟩
def A16 (i:Nat) (tf:DF)  (D:K2) (ρ:List Sl):Prop:=tf ρ fun ds ρ'=>D.nx (ρ'.set i (.ow ds))
theorem Z0 {i:Nat} (hp:PS X st (A68 (fOf C tf) (R6 i))):PS X st (sOf C (A16 i tf)):=PS.wk hp fun _ _ _ zz30=>el3 zz30 fun ρ P _ R ht E=>⟨ρ,P,_,R,ht,fun p vs ds ρ' H1 zz31 hp q=>el2 zz31 fun col r t=>E.nx _ _ _ (r.own t hp) q⟩
theorem C6k {i n j:Nat} {it:DF} {tt:DT} (hn:n=j + 1) (hp:PS X st (fun D σ H=>A1t (iOf C it) n j (fun _=>cOf C tt) (fun _=>eOf C te) σ H fun v H1=>D.nx (σ.set i (some v)) H1)):PS X st (sOf C (A16 i (j4 j it tt te))):=
 PS.wk hp fun _ _ _ zz32=>el3 zz32 fun ρ P _ R ht E=>B35 hn ⟨ρ,P,_,R,ht,fun p vs ds ρ' H1 zz33 hp q=>el2 zz33 fun col r t=>E.nx _ _ _ (r.own t hp) q⟩
theorem B36 {i n j:Nat} {it:DF} {tt:DT} (hn:n=j + 1) (hp:PS X st (fun D σ H=>A1t (iOf C it) n j (fun _=>cOf C tt) (fun _=>eOf C te) σ H fun v H1=>D.nx (σ.set i (some v)) H1)):PS X st (sOf C (A15 i (dF (j4 j it tt te)))):=
 PS.wk hp fun _ _ _ zz34=>el3 zz34 fun ρ P _ R ht E=>B35 hn ⟨ρ,P,_,R,ht,fun p vs ds ρ' H1 zz35 hp q=>el2 zz35 fun col r t=>E.nx _ _ _ ⟨col,(((r.lst t hp).store (i:=i) ((r.lst t hp).pd _ C0)).sub fun _ h=>B6 _ h)⟩ q⟩
def A17 (i:Nat) (te:DE)  (D:K2) (ρ:List Sl):Prop:=match ρ[i]? with
 | some (.ow _)=>te ρ fun d ρ'=>match ρ'[i]? with
  | some (.ow ds)=>ds.length<=1000/\D.nx (ρ'.set i (.ow (ds++[d])))
  | _=>False
 | _=>False
theorem A08 {i:Nat} {K:B3} (hp:PS X st (B7u (tBM K "list" B8m (X4 i) (X7 (eOf C te) g9)))):PS X st (sOf C (A17 i te)):=PS.wk hp fun D σ H zz36=>el3 zz36 fun ρ P Dd zz37 ht E=>zz37.elim fun col r=>by
 unfold A17 at ht
 split at ht
 ·rename_i ds0 e0
  obtain⟨a,vs,e1,c,n,e2,t⟩:=r.sl i _ e0
  refine⟨.ref a,L4 e1,.inl ⟨rfl,vs,SqL.of e2⟩,ρ,P,_,⟨col,r⟩,ht,fun v d ρ' H' zz38 q=>zz38.elim fun col' r'=>?_⟩
  split at q
  ·rename_i ds e0'
   obtain⟨a',vs',e1',c',n',e2',t'⟩:=r'.sl i _ e0'
   rw[e1] at e1'
   cases e1'
   exact⟨a,vs',v,rfl,rfl,e2',by rw[t'.len];exact A7e q.1,E.nx _ _ _ ⟨col',((r'.write e0' e1 (t'.snoc (r'.pd _ C0)))).sub fun _ h=>B6 _ h⟩ q.2⟩
  ·exact q.elim
 ·exact ht.elim
def A30 (i:Nat) (te tk:DE)  (D:K2) (ρ:List Sl):Prop:=te ρ fun d ρ1=>match ρ1[i]? with
 | some (.ow _)=>tk ρ1 fun k ρ2=>match ρ2[i]? with
  | some (.ow ds)=>match k with
   | .int k=>bnd (ixN ds.length k) fun j=>D.nx (ρ2.set i (.ow (ds.set j d)))
   | _=>False
  | _=>False
 | _=>False
theorem A9.set {F:Addr->Prop} {H:Hp} {v:V} {d:PyData} (x:ThV F H v d):∀{vs:List V} {ds:List PyData} (j:Nat),A9 F H vs ds->A9 F H (vs.set j v) (ds.set j d)
 | _,_,_,.nil=>.nil
 | _,_,0,.cons _ t=>.cons x t
 | _,_,j + 1,.cons y t=>.cons y (A9.set x j t)
theorem A7m {i:Nat} {tk:DE} (hp:PS X st (A68 (eOf C te) (B7v (X4 i) (eOf C tk) B8i))):PS X st (sOf C (A30 i te tk)):=PS.wk hp fun D σ H zz39=>el3 zz39 fun ρ P Dd R ht E=>⟨ρ,P,_,R,ht,fun v d ρ1 H1 zz40 q1=>zz40.elim fun col1 r1=>by
 split at q1
 ·rename_i ds0 e0
  obtain⟨a,vs,e1,c,n,e2,t⟩:=r1.sl i _ e0
  refine⟨.ref a,L4 e1,ρ1,_,_,⟨col1,r1⟩,q1,fun w k ρ2 H2 zz41 q2=>zz41.elim fun col2 r2=>?_⟩
  split at q2
  ·rename_i ds e0'
   cases k with
   | int k'=>
    obtain⟨j,hj,q⟩:=K5 q2
    obtain⟨a',vs',e1',c',n',e2',t'⟩:=r2.sl i _ e0'
    rw[e1] at e1'
    cases e1'
    have tw:ThV (Z col2) H2 w (.int k'):=r2.pd _ C0
    cases tw
    refine⟨a,vs',k',j,rfl,rfl,e2',by rw[t'.len];exact hj,E.nx _ _ _ ⟨col2,((r2.write e0' e1 (A9.set (r2.pd (.v v d) (B6 _ C0)) j t'))).sub fun _ h=>B6 _ (B6 _ h)⟩ q⟩
   | _=>exact q2.elim
  ·exact q2.elim
 ·exact q1.elim⟩
abbrev DG:=PyData->List Sl->(List Sl->Prop)->Prop
def gOf (C:DC) (g:DG):TG:=fun v σ H Q=>∃ρ P d Qd,Rel C ρ σ (.v v d::P) H/\g d ρ Qd/\∀ρ' σ',Rel C ρ' σ' P H->Qd ρ'->Q σ' H
theorem PG.wk {tg:Expr} {g g':TG} (h:PG X tg g) (f:∀v σ H Q,g' v σ H Q->g v σ H Q):PG X tg g':=fun pins s σ H v u Q I r q=>h pins s σ H v u Q I r (f v σ H Q q)
def gN (i:Nat)  (d:PyData) (ρ:List Sl) (Q:List Sl->Prop):Prop:=Q (ρ.set i (.sh d))
theorem Z1 {tg:Expr} {i:Nat} (h:PG X tg (R6 i)):PG X tg (gOf C (gN i)):=PG.wk h fun _ _ _ _ ⟨_,_,_,_,⟨col,r⟩,ht,k⟩=>k _ _ ⟨col,((r.store (i:=i) (r.pd _ C0)).sub fun _ h=>B6 _ h)⟩ ht
def gT2 (i j:Nat)  (d:PyData) (ρ:List Sl) (Q:List Sl->Prop):Prop:=match d with
 | .tuple [a,b]=>Q ((ρ.set i (.sh a)).set j (.sh b))
 | _=>False
def gT3 (i j k:Nat)  (d:PyData) (ρ:List Sl) (Q:List Sl->Prop):Prop:=match d with
 | .tuple [a,b,c]=>Q (((ρ.set i (.sh a)).set j (.sh b)).set k (.sh c))
 | _=>False
theorem B0o {tg:Expr} {i j:Nat} {K:B3} (h:PG X tg (A67 K 2 (X5 (R6 i) (X5 (R6 j) A4s)))):PG X tg (gOf C (gT2 i j)):=PG.wk h fun v σ H Q ⟨ρ,P,d,Qd,⟨col,r⟩,ht,k⟩=>by
 unfold gT2 at ht
 split at ht
 ·rename_i a b
  have z:ThV (Z col) H v (.tuple [a,b]):=r.pd _ C0
  cases z with
  | tup za e t=>
   obtain⟨x,y,rfl,t1,t2⟩:=S9 t
   exact⟨_,_,rfl,SqT.of e,rfl,x,[y],rfl,y,[],rfl,rfl,k _ _ ⟨col,(((r.store (i:=i) t1).store (i:=j) t2).sub fun _ h=>B6 _ h)⟩ ht⟩
 ·exact ht.elim
theorem C6l {tg:Expr} {i j l:Nat} {K:B3} (h:PG X tg (A67 K 3 (X5 (R6 i) (X5 (R6 j) (X5 (R6 l) A4s))))):PG X tg (gOf C (gT3 i j l)):=PG.wk h fun v σ H Q ⟨ρ,P,d,Qd,⟨col,r⟩,ht,k⟩=>by
 unfold gT3 at ht
 split at ht
 ·rename_i a b c
  have z:ThV (Z col) H v (.tuple [a,b,c]):=r.pd _ C0
  cases z with
  | tup za e t=>
   cases t with
   | cons t1 t=>
    obtain⟨y,z,rfl,t2,t3⟩:=S9 t
    exact⟨_,_,rfl,SqT.of e,rfl,_,[y,z],rfl,y,[z],rfl,z,[],rfl,rfl,k _ _ ⟨col,((((r.store (i:=i) t1).store (i:=j) t2).store (i:=l) t3).sub fun _ h=>B6 _ h)⟩ ht⟩
 ·exact ht.elim
def A31 (te:DE) (g:DG)  (D:K2) (ρ:List Sl):Prop:=te ρ fun d ρ'=>g d ρ' D.nx
theorem A81 {g:DG} (hp:PS X st (A68 (eOf C te) (gOf C g))):PS X st (sOf C (A31 te g)):=PS.wk hp fun _ _ _ zz45=>el3 zz45 fun ρ P _ R ht E=>⟨ρ,P,_,R,ht,fun v d ρ' H' R' q=>⟨ρ',P,d,_,R',q,fun ρ2 σ2 R2 q2=>E.nx _ _ _ R2 q2⟩⟩
def Blk (t:DS) (D:K2) (ρ:List Sl):Prop:=t D ρ
def B0p (it:DF) (g:DG) (tb:DS) (D:K2) (ρ:List Sl):Prop:=it ρ fun xs ρ1=>∃I:List PyData->List Sl->Prop,I xs ρ1/\(∀x r ρ,I (x::r) ρ->g x ρ (Blk tb { nx:=I r,ct:=I r,bk:=D.nx,rt:=D.rt }))/\∀ρ,I [] ρ->D.nx ρ
theorem V4 {it:DF} {g:DG} {tb:DS} (hp:PS X st (B2y (iOf C it) (gOf C g) (sOf C tb))):PS X st (sOf C (B0p it g tb)):=PS.wk hp fun D σ H zz46=>el3 zz46 fun ρ P Dd R ht E=>⟨ρ,P,_,R,ht,fun xs ρ1 P1 H1 J R1 s1 io q=>by
 obtain⟨I,q0,qs,qd⟩:=q
 refine⟨fun i m σ' H'=>m=xs.length - i/\i<=xs.length/\∃ρ',Rel C ρ' σ' P1 H'/\I (xs.drop i) ρ',⟨xs.length,by simp,M6 _,ρ1,R1,q0⟩,?_⟩
 rintro i m σ2 H2 ⟨rfl,hi,ρ2,R2,q2⟩
 by_cases hlt:i < xs.length
 ·rw[A4o hlt] at q2
  refine .inr ⟨io.go (fun _ h=>h) R2 hlt,fun σ' H'=>∃ρ',Rel C ρ' σ' P1 H'/\I (xs.drop (i + 1)) ρ',fun σ' H' h=>⟨xs.length - (i + 1),by lia,rfl,hlt,h⟩,fun x H3 y=>?_⟩
  refine⟨ρ2,P1,_,_,io.yld (fun _ h=>h) R2 (K3 hlt) y,qs _ _ _ q2,fun ρ3 σ3 R3 q3=>?_⟩
  refine⟨ρ3,P1,⟨I (xs.drop (i + 1)),Dd.rt,Dd.nx,I (xs.drop (i + 1)),fun _=>False⟩,R3,q3,⟨fun ρ4 σ4 H4 R4 q4=>⟨ρ4,R4,q4⟩,fun v d ρ4 σ4 H4 R4 q4=>E.rt v d ρ4 σ4 H4 (R4.sub (B9c s1)) q4,fun ρ4 σ4 H4 R4 q4=>E.nx ρ4 σ4 H4 (R4.sub s1) q4,fun ρ4 σ4 H4 R4 q4=>⟨ρ4,R4,q4⟩,fun _ _ _ _ _ _ _ _ h=>h.elim⟩⟩
 ·have e:i=xs.length:=by lia
  subst e
  rw[B2l] at q2
  exact .inl ⟨io.stop (fun _ h=>h) R2,E.nx _ _ _ (R2.sub s1) (qd _ q2)⟩⟩
def B0q (c:DT) (tb:DS)  (D:K2) (ρ:List Sl):Prop:=∃W:Nat->List Sl->Prop,(∃m,W m ρ)/\∀m ρ,W m ρ->c ρ fun b ρ1=>if b=true then Blk tb { nx:=fun ρ'=>∃m',m' < m/\W m' ρ',ct:=fun ρ'=>∃m',m' < m/\W m' ρ',bk:=D.nx,rt:=D.rt } ρ1 else D.nx ρ1
theorem B37 {tb:DS} (hp:PS X st (B2w (cOf C c) (sOf C tb))):PS X st (sOf C (B0q c tb)):=PS.wk hp fun D σ H ⟨ρ,P,Dd,R,⟨W,⟨m0,w0⟩,turn⟩,E⟩=>by
 refine⟨fun m σ' H'=>∃ρ',Rel C ρ' σ' P H'/\W m ρ',⟨m0,ρ,R,w0⟩,?_⟩
 rintro m σ1 H1 ⟨ρ1,R1,w1⟩
 refine⟨ρ1,P,_,R1,turn m ρ1 w1,fun b ρ2 H2 R2 q2=>?_⟩
 cases b with
 | true=>
  refine J0 ⟨fun σ' H'=>∃ρ',Rel C ρ' σ' P H'/\∃m',m' < m/\W m' ρ',fun σ' H' zz48=>zz48.elim fun ρ' zz49=>zz49.elim fun R' zz50=>zz50.elim fun m' zz51=>zz51.elim fun hm w=>⟨m',hm,ρ',R',w⟩,ρ2,P,⟨fun ρ'=>∃m',m' < m/\W m' ρ',Dd.rt,Dd.nx,fun ρ'=>∃m',m' < m/\W m' ρ',fun _=>False⟩,R2,by simpa [Blk] using q2,⟨fun ρ4 σ4 H4 R4 q4=>⟨ρ4,R4,q4⟩,E.rt,fun ρ4 σ4 H4 R4 q4=>E.nx ρ4 σ4 H4 R4 q4,fun ρ4 σ4 H4 R4 q4=>⟨ρ4,R4,q4⟩,fun _ _ _ _ _ _ _ _ h=>h.elim⟩⟩
 | false=>exact G6 (E.nx _ _ _ R2 (by simpa using q2))
end
open PySem.Spec PyProof.Rows
def Z2:Md->PyData->Sl
 | .sh,d=>.sh d
 | .bo,.list ds=>.bo ds
 | .bo,_=>.no
 | .hd,_=>.hd
 | .b2,d=>match B31 d with
  | some dss=>.b2 dss
  | none=>.no
 | .bd,d=>.bd d
theorem B9u:∀dss:List (List PyData),A3s (lls dss)=some dss
 | []=>rfl
 | ds::dss=>by
  show (A3s (lls dss)).map (ds::·)=some (ds::dss)
  rw[B9u dss];rfl
theorem C6m (dss:List (List PyData)):Z2 .b2 (.list (lls dss))=.b2 dss:=by
 show (match A3s (lls dss) with
  | some dss=>Sl.b2 dss
  | none=>.no)=_
 rw[B9u]
def A18 (n:Nat):List Md->List PyData->List Sl
 | m::ms,d::ds=>Z2 m d::A18 (n - 1) ms ds
 | _,_=>G5 n .no
def c5:List Str->List Md->List PyData->List Sl
 | [],_,_=>[]
 | _::N,ms,ds=>(match ms,ds with
  | m::_,d::_=>Z2 m d
  | _,_=>.no)::c5 N ms.tail ds.tail
theorem B9v:∀N:List Str,c5 N [] []=G5 N.length .no
 | []=>rfl
 | _::N=>by
  show Sl.no::c5 N [] []=_
  rw[B9v N];rfl
theorem B38:∀{N:List Str} {ms:List Md} {ds:List PyData},ms.length<=N.length->ds.length=ms.length->c5 N ms ds=A18 N.length ms ds
 | N,[],[],_,_=>B9v N
 | _::N,m::ms,d::ds,h1,h2=>by
  show Z2 m d::c5 N ms ds=Z2 m d::A18 (N.length + 1 - 1) ms ds
  rw[B38 (by simpa using h1) (by simpa using h2)];rfl
 | [],_::_,_,h,_=>by simp at h
 | _,[],_::_,_,h=>by simp at h
 | _,_::_,[],_,h=>by simp at h
section
variable {P:Program} {w:World} {K:B3} {mg:Str->Option Value} {base:Heap}
theorem B9w {C:DC} {col:Addr->Nat} {H:Hp} {F:Addr->Prop} {hand:Option (Addr×Addr)} (hC:C.hand=hand) (hH:C.H0=H) (f:∀b,F b->col b=0) (lo:∀b,col b<=1) {ms:List Md} {vs:List V} {ds:List PyData} {n:Nat} (ar:U3 F hand H ms vs ds) :
  ∀(i:Nat) (s:Sl),(A18 n ms ds)[i]?=some s->∀j:Nat,SlR C col H j ((vs.map some++G5 (n - vs.length) none)[i]?).join s:=by
 induction ar generalizing n with
 | nil=>
  intro i s e j
  have e':(G5 n Sl.no)[i]?=some s:=e
  rw[B65] at e'
  split at e'
  ·cases e';trivial
  ·cases e'
 | @cons m v d ms vs ds a t ih=>
  intro i s e j
  have e':(Z2 m d::A18 (n - 1) ms ds)[i]?=some s:=e
  cases i with
  | zero=>
   cases e'
   show SlR C col H j (some v) (Z2 m d)
   have mv0:∀b o,F b->H b=some o->Z col b/\H b=some o:=fun b o z e=>⟨f b z,e⟩
   cases m with
   | sh=>exact⟨v,rfl,ThV.mv mv0 a⟩
   | bo=>
    obtain⟨ad,us,es,rfl,rfl,nh,e2,t2⟩:=a
    exact⟨ad,us,rfl,lo ad,by rw[hC];exact nh,e2,A9.mv mv0 t2⟩
   | hd=>
    obtain⟨q,hq,rfl⟩:=a
    exact⟨q,hC.trans hq,rfl⟩
   | b2=>
    obtain⟨ad,as,dss,rfl,rfl,nh,e2,t2⟩:=a
    rw[C6m]
    exact⟨ad,as,rfl,⟨lo ad,by rw[hC];exact nh⟩,e2,t2.mv mv0 fun b o g e=>⟨⟨lo b,by rw[hC];exact g⟩,e⟩⟩
   | bd=>exact⟨v,rfl,ThV.mv (fun b o g e=>⟨⟨(by rw[hH,e];exact fun q=>nomatch q),by rw[hC];exact g⟩,by rw[hH];exact e⟩) a⟩
  | succ i=>
   have:=ih (n:=n - 1) i s e' j
   rw[n8,A61,A62,K8,show n - (vs.length + 1)=n - 1 - vs.length by lia]
   exact this
theorem B9x {F:Addr->Prop} {hand:Option (Addr×Addr)} {H:Hp} {ms:List Md} {vs:List V} {ds:List PyData} {n:Nat} (a:U3 F hand H ms vs ds) (h:ms.length<=n):(A18 n ms ds).length=n:=by
 induction a generalizing n with
 | nil=>show (G5 n Sl.no).length=n;rw[A4m]
 | @cons m v d ms vs ds a t ih=>
  show (Z2 m d::A18 (n - 1) ms ds).length=n
  rw[K8] at h
  rw[K8,ih (by lia)]
  lia
open Classical in
theorem G1 {x qual:Str} {st:Stmt} {f:Addr} {fd:FuncData} {N ps:List Str} {k:Nat} {sp:DSp} {ms:List Md} (F:Fun K x qual st f fd) (S:E1 N ps (C2 st)) (hm:ms.length=ps.length)
  (hb:∀(C:DC) (cdv:Value) (A:Around) (outer:List Env) (s:Shared) (H:Hp) (E:XK),U2 k (A.deeper (envOfC qual (C2 st) s.heap.objs.size f cdv))->
   ∃t,PSs (X8 CX0 P w K mg base N qual (C2 st) f cdv A outer s H E).nox (A0y st) (sOf C t)/\∀ds Q,ds.length=ms.length->sp ds Q->t { nx:=fun _=>Q .none,rt:=Q } (c5 N ms ds)) :
  D0 P w K mg base CX0 (k + 1) f fd ps (spD ms sp):=by
 refine F.ok S (fun vs H Q E h=>?_) (fun cdv A outer s H vs Q E hr h=>?_)
 ·obtain⟨_,_,_,_,_,_,_,a,_⟩:=h
  rw[a.len.1,hm]
 ·obtain⟨G,hand,ds,Qd,h1,h2,h3,a,h4,h5⟩:=h
  obtain⟨t,ht,q⟩:=hb ⟨G,hand,H⟩ cdv A outer s H E hr
  have hN:ps.length<=N.length:=by have:=congrArg A2o S.pre;rw[e9] at this;lia
  let col:Addr->Nat:=fun b=>if G b then 0 else 1
  have c0:∀b,G b->col b=0:=fun b hb=>if_pos hb
  have c1:∀b,¬ G b->col b=1:=fun b hb=>if_neg hb
  have lo:∀b,col b<=1:=fun b=>by
   by_cases z:G b
   ·rw[c0 b z];lia
   ·rw[c1 b z];lia
  refine⟨_,ht,A18 N.length ms ds,[],⟨fun _=>Qd .none,Qd,fun _=>False,fun _=>False,fun _=>False⟩,⟨col,fun b hb=>c0 b (h1.1 b hb),fun b hb=>?_,fun q hq=>c1 _ (h2 q hq),fun i s e=>B9w (C:=⟨G,hand,H⟩) rfl rfl c0 lo a i s e i,fun p hp=>(nomatch hp),Kq.refl,h3,h3,h1,?_⟩,by rw[<-B38 (by lia) a.len.2];exact q ds Qd a.len.2 h4,⟨fun ρ σ H' R h=>?_,fun v d ρ σ H' R h=>?_,fun _ _ _ _ h=>h.elim,fun _ _ _ _ h=>h.elim,fun _ _ _ _ _ _ _ _ h=>h.elim⟩⟩
  ·by_cases z:G b
   ·exact z
   ·rw[c1 b z] at hb;cases hb
  ·rw[B9x a (by lia)]
   unfold L2.start
   rw[M4,D5,A4m,a.len.1]
   lia
  ·obtain⟨col',r⟩:=R
   exact h5 _ _ _ h .non r.kq r.hq
  ·obtain⟨col',r⟩:=R
   exact h5 _ _ _ h (ThV.mv (fun b o z e=>⟨r.inF b z,e⟩) (r.pd _ C0)) r.kq r.hq
open Classical in
end
end My
namespace My
open PySem L2
section
variable {X:Cx} {C:DC} {tg e a b:Expr} {t ta tb:DE} {u:DF} {pos:Pos}
def A19:List PyData->Option (List Int)
 | []=>some []
 | .int b::r=>(A19 r).map (b::·)
 | _::_=>none
theorem B9y {F:Addr->Prop} {H:Hp} {ds:List PyData} {vs:List V} {bs:List Int} (t:A9 F H vs ds) (h:A19 ds=some bs):vs=bs.map V.int:=by
 induction ds generalizing vs bs with
 | nil=>cases t;cases h;rfl
 | cons d r ih=>
  cases t with
  | cons x y=>
   cases x with
   | int b=>
    have h':(A19 r).map (b::·)=some bs:=h
    cases q:A19 r with
    | none=>rw[q] at h';cases h'
    | some cs=>
     rw[q] at h'
     cases h'
     rw[ih y q];rfl
   | _=>cases h
theorem B0r:∀ns:List Int,A19 (ns.map PyData.int)=some ns
 | []=>rfl
 | n::ns=>by
  show (A19 (ns.map PyData.int)).map (n::·)=some (n::ns)
  rw[B0r ns];rfl
def gIn (neg:Bool)  (a b:PyData) (Q:PyData->Prop):Prop:=match a,b with
 | .int i,.list xs=>bnd (A19 xs) fun ns=>Q (.bool (if neg then !(ns.contains i) else ns.contains i))
 | _,_=>False
theorem B9z (i:Int):∀ns:List Int,inV (V.int i) (ns.map V.int)=ns.contains i
 | []=>rfl
 | n::ns=>by
  have:=B9z i ns
  unfold inV at this ⊢
  rw[n8,List.any_cons,this,List.contains_cons]
  congr 1
  show (n == i)=(i == n)
  exact Bool.beq_comm
theorem B90:∀ns:List Int,(ns.map V.int).all A1s=true
 | []=>rfl
 | n::ns=>by rw[n8,List.all_cons,B90 ns];rfl
theorem C6n {K:B3} {neg:Bool}:R7 C (rIn K neg) (gIn neg):=by
 intro ρ σ P H v w a b Qd Q R hg k
 unfold gIn at hg
 split at hg
 ·obtain⟨ns,hn,q⟩:=K5 hg
  obtain⟨col,r,t1,t2⟩:=th2 R
  cases t1
  cases t2 with
  | lst za e t=>
   have z:=B9y t hn
   subst z
   refine⟨_,_,rfl,.inl (SqL.of e),rfl,B90 ns,k _ _ _ ⟨col,r.push ?_⟩ q⟩
   rw[B9z]
   exact .bl _
 ·exact hg.elim
def A32 (i:Nat) (tk:DE)  (ρ:List Sl) (Q:PyData->List Sl->Prop):Prop:=bnd (P3 ρ i) fun a0=>bnd (M8 a0) fun _=>tk ρ fun k ρ2=>match k with
 | .int k=>bnd (P3 ρ2 i) fun a=>bnd (M8 a) fun xs=>bnd (A19 xs) fun ns=>(k∈ns/\ns.length<=100000)/\Q (.int (ns.idxOf k:Nat)) ρ2
 | _=>False
theorem B91 {i:Nat} {K:B3} (h:PE X e (tBM K "list" (B80 K) (X4 i) (X7 (eOf C t) g9))):PE X e (eOf C (A32 i t)):=PE.wk h fun σ H Q zz1=>el3 zz1 fun ρ P Qd zz2 ht k=>zz2.elim fun col0 r0=>by
 obtain⟨a0,h0,ht⟩:=K5 ht
 obtain⟨xs0,hx0,ht⟩:=K5 ht
 have:=A0f hx0
 subst this
 obtain⟨v,ev,t0⟩:=r0.slot h0
 obtain⟨a,vs,rfl,e0,_⟩:=t0.lst
 refine⟨_,ev,.inl ⟨rfl,vs,SqL.of e0⟩,ρ,P,_,⟨col0,r0⟩,ht,fun w d ρ2 H2 R2 h2=>?_⟩
 split at h2
 ·rename_i kk
  obtain⟨a1,h1,h2⟩:=K5 h2
  obtain⟨xs,hx,h2⟩:=K5 h2
  obtain⟨ns,hn,⟨hk,hz⟩,q⟩:=K5 h2
  have:=A0f hx
  subst this
  obtain⟨col,r⟩:=R2
  obtain⟨v',ev',t1⟩:=r.slot h1
  rw[ev] at ev'
  cases ev'
  obtain⟨a',vs',e',e1,t1⟩:=t1.lst
  cases e'
  have z:=B9y t1 hn
  subst z
  have tw:ThV (Z col) H2 w (.int kk):=r.pd _ C0
  cases tw
  exact⟨a,ns,kk,rfl,rfl,SqL.of e1,hk,hz,k _ _ _ _ ⟨col,(r.sub fun _ h=>B6 _ h).push (.int _)⟩ q⟩
 ·exact h2.elim
def A33 (t:DE)  (ρ:List Sl) (Q:List PyData->List Sl->Prop):Prop:=t ρ fun d ρ'=>bnd (M8 d) fun xs=>Q xs.reverse ρ'
theorem A9.rev {F:Addr->Prop} {H:Hp} {vs:List V} {ds:List PyData} (t:A9 F H vs ds):A9 F H vs.reverse ds.reverse:=by
 induction vs generalizing ds with
 | nil=>cases t;exact .nil
 | cons v vs ih=>
  cases t with
  | cons x t=>
   rw[B7d,B7d]
   exact (ih t).append (.cons x .nil)
theorem C6o {K:B3} (h:PE X e (fun σ H Q=>X7 (eOf C t) g9 σ H fun vs H1=>∃a xs,vs=[.ref a]/\SqL K H1 a xs/\∀p,H1 p=none->Q (.ref p) (upd H1 p (.lst xs.reverse)))):PE X e (fOf C (A33 t)):=PE.wk h fun _ _ _ zz3=>el3 zz3 fun ρ P _ R ht k=>⟨ρ,P,_,R,ht,fun v d ρ' H' zz4 q=>zz4.elim fun col r=>by
 obtain⟨xs,hx,q⟩:=K5 q
 have:=A0f hx
 subst this
 obtain⟨a,vs,rfl,e,t⟩:=Red.lst (.th (r.pd _ C0))
 exact⟨a,vs,rfl,SqL.of e,fun p hp=>k _ _ _ _ _ ⟨col,r.sub fun _ h=>B6 _ h,t.rev⟩ hp q⟩⟩
def B39 (t:DE)  (ρ:List Sl) (Q:List PyData->List Sl->Prop):Prop:=t ρ fun d ρ'=>bnd (M8 d) fun xs=>Q xs.reverse ρ'
theorem A0h {n j:Nat} {it:DF} {tt:DT} {te:DE} (hn:n=j + 1) (h:PE X e (A1t (iOf C it) n j (fun _=>cOf C tt) (fun _=>eOf C te))):PE X e (fOf C (j4 j it tt te)):=PE.wk h fun _ _ _ h=>B35 hn h
def gB2 (f:Bool->Bool->Bool)  (a b:PyData) (Q:PyData->Prop):Prop:=match a,b with
 | .bool i,.bool j=>Q (.bool (f i j))
 | _,_=>False
end
theorem A82 {α:Type} {x:α} {xs:List α}:atI (x::xs) 0=some x:=P0 (j:=0) rfl
theorem A48 {α:Type} {x:α}:atI [x] 0=some x:=rfl
theorem A49 {α:Type} {x y:α}:atI [x,y] 0=some x:=rfl
theorem A5a {α:Type} {x y:α}:atI [x,y] 1=some y:=rfl
theorem A5b {α:Type} {x y z:α}:atI [x,y,z] 0=some x:=rfl
theorem A5c {α:Type} {x y z:α}:atI [x,y,z] 1=some y:=rfl
theorem A5d {α:Type} {x y z:α}:atI [x,y,z] 2=some z:=rfl
theorem A5e {a b:Prop}:(if true=true then a else b)=a:=rfl
theorem A5f {a b:Prop}:(if false=true then a else b)=b:=rfl
theorem A5g {a b:Bool}:(if true=true then a else b)=a:=rfl
theorem A5h {a b:Bool}:(if false=true then a else b)=b:=rfl
theorem A5i {a b:Int}:(if true=true then a else b)=a:=rfl
theorem A5j {a b:Int}:(if false=true then a else b)=b:=rfl
theorem A5k {α:Type} {a:α} {Q:α->Prop}:bnd (some a) Q=Q a:=rfl
theorem A0i {α:Type} {te:DE} {ρ:List Sl} {Q:List PyData->Prop} {g f:α->PyData}:∀{xs:List α} {acc:List PyData},(∀x∈xs,∀Q':PyData->List Sl->Prop,Q' (f x) (ρ++[.sh (g x)])->te (ρ++[.sh (g x)]) Q')->Q (acc++xs.map f)->A0g A80 te ρ Q (xs.map g) acc
 | [],acc,_,q=>by
  have q':Q (acc++[]):=q
  rw[n6] at q'
  exact q'
 | x::r,acc,h,q=>by
  refine⟨rfl,?_⟩
  rw[if_pos rfl]
  refine h x C0 _ ⟨rfl,A0i (fun y hy=>h y (B6 _ hy)) ?_⟩
  rw[A1h]
  exact q
theorem A83 {α:Type} {tt:DT} {te:DE} {ρ:List Sl} {Q:List PyData->Prop} {g f:α->PyData} {p:α->Bool}:∀{xs:List α} {acc:List PyData},(∀x∈xs,∀Q':Bool->List Sl->Prop,Q' (p x) (ρ++[.sh (g x)])->tt (ρ++[.sh (g x)]) Q')->(∀x∈xs,p x=true->∀Q':PyData->List Sl->Prop,Q' (f x) (ρ++[.sh (g x)])->te (ρ++[.sh (g x)]) Q')->
  Q (acc++(xs.filter p).map f)->A0g tt te ρ Q (xs.map g) acc
 | [],acc,_,_,q=>by
  have q':Q (acc++[]):=q
  rw[n6] at q'
  exact q'
 | x::r,acc,h1,h2,q=>by
  refine h1 x C0 _ ⟨rfl,?_⟩
  cases e:p x with
  | true=>
   rw[if_pos rfl]
   refine h2 x C0 e _ ⟨rfl,A83 (fun y hy=>h1 y (B6 _ hy)) (fun y hy=>h2 y (B6 _ hy)) ?_⟩
   rw[List.filter_cons_of_pos e] at q
   rw[A1h]
   exact q
  | false=>
   rw[if_neg Q8]
   refine A83 (fun y hy=>h1 y (B6 _ hy)) (fun y hy=>h2 y (B6 _ hy)) ?_
   rw[List.filter_cons_of_neg (by rw[e];exact Q8)] at q
   exact q
theorem B4a {xs:List PyData} {k:Nat}:W6 xs none (some ((k:Nat):Int))=xs.take k:=by
 unfold W6
 rw[HT.sIx_none,HT.sIx_nat,B7f,Nat.sub_zero]
 by_cases h:k<=xs.length
 ·rw[A9t h]
 ·rw[Nat.min_eq_right (by lia),A9s (F3 _),A9s (by lia)]
theorem C6p {xs:List PyData} {i j:Nat} (h1:i<=xs.length) (h2:j<=xs.length):W6 xs (some ((i:Nat):Int)) (some ((j:Nat):Int))=(xs.drop i).take (j - i):=by
 unfold W6
 rw[HT.sIx_nat,HT.sIx_nat,A9t h1,A9t h2]
def B4b (tt:DT) (te:DE) (ρ:List Sl) (Q:List PyData->Prop):List PyData->List PyData->Prop
 | [],acc=>Q acc
 | .tuple [x,y,z]::r,acc=>tt (ρ++[.sh x,.sh y,.sh z]) fun b ρ'=>ρ'=ρ++[.sh x,.sh y,.sh z]/\if b=true then te (ρ++[.sh x,.sh y,.sh z]) fun d ρ''=>ρ''=ρ++[.sh x,.sh y,.sh z]/\B4b tt te ρ Q r (acc++[d]) else B4b tt te ρ Q r acc
 | _::_,_=>False
def A5l (it:DF) (tt:DT) (te:DE) (ρ:List Sl) (Q:List PyData->List Sl->Prop):Prop:=it ρ fun xs ρ1=>xs.length<=1000/\B4b tt te ρ1 (fun ds=>Q ds ρ1) xs []
section
variable {X:Cx} {C:DC}
end
theorem B92 {te:DE} {ρ:List Sl} {Q:List PyData->Prop} {R:PyData->Prop}:∀{xs acc:List PyData},(∀x∈xs,∀Q':PyData->List Sl->Prop,(∀d,R d->Q' d (ρ++[.sh x]))->te (ρ++[.sh x]) Q')->(∀ds:List PyData,ds.length=xs.length->(∀d∈ds,R d)->Q (acc++ds))->A0g A80 te ρ Q xs acc
 | [],acc,_,q=>by
  have q':=q [] rfl (fun d hd=>nomatch hd)
  rw[n6] at q'
  exact q'
 | x::r,acc,h,q=>by
  refine⟨rfl,?_⟩
  rw[if_pos rfl]
  refine h x C0 _ fun d hd=>⟨rfl,B92 (fun y hy=>h y (B6 _ hy)) fun ds hl hR=>?_⟩
  rw[A1h]
  refine q ([d]++ds) (by simp [hl]) fun e he=>?_
  rcases O9.mp he with z | z
  ·have:e=d:=by simpa using z
   subst this;exact hd
  ·exact hR e z
section
variable {X:Cx} {C:DC}
open Classical in
def gT5 (i j k l n:Nat)  (d:PyData) (ρ:List Sl) (Q:List Sl->Prop):Prop:=match d with
 | .tuple [a,b,c,e,f]=>Q (((((ρ.set i (.sh a)).set j (.sh b)).set k (.sh c)).set l (.sh e)).set n (.sh f))
 | _=>False
def A2a:List PyData->Option (List Str)
 | []=>some []
 | .str b::r=>(A2a r).map (b::·)
 | _::_=>none
def A5m (neg:Bool)  (a b:PyData) (Q:PyData->Prop):Prop:=match a,b with
 | .str i,.tuple xs=>bnd (A2a xs) fun ns=>Q (.bool (if neg then !(inV (.str i) (ns.map V.str)) else inV (.str i) (ns.map V.str)))
 | _,_=>False
def A5n  (ds:List PyData) (Q:PyData->Prop):Prop:=match ds with
 | [.list xs]=>xs≠[]/\(∀x∈xs,∃i j:Int,x=.tuple [.int i,.int j])/\∀x∈xs,Q x
 | _=>False
end
def A0j (b:Nat×Int):PyData:=.tuple [.int (b.1:Nat),.int b.2]
section
variable {X:Cx} {C:DC} {e:Expr} {u:DF}
def A5o (i:Nat) (tk:DE)  (ρ:List Sl) (Q:PyData->List Sl->Prop):Prop:=match ρ[i]? with
 | some (.ow _)=>tk ρ fun k ρ'=>match ρ'[i]? with
  | some (.ow ds)=>match k with
   | .int k=>bnd (ixN ds.length k) fun j=>bnd (ds[j]?) fun d=>ds.length<=1000/\Q d (ρ'.set i (.ow (ds.eraseIdx j)))
   | _=>False
  | _=>False
 | _=>False
def A5p (t:DE)  (ρ:List Sl) (Q:List PyData->List Sl->Prop):Prop:=t ρ fun d ρ'=>match d with
 | .int n=>(0<=n/\n<=1000)/\Q (M9 0 n.toNat) ρ'
 | _=>False
end
def A2b (xs ys:List PyData):List PyData:=(xs.zip ys).map fun p=>.tuple [p.1,p.2]
theorem C6q {xs ys:List PyData} {i:Nat} {d:PyData} (h:(A2b xs ys)[i]?=some d):∃x y,xs[i]?=some x/\ys[i]?=some y/\d=.tuple [x,y]:=by
 unfold A2b at h
 rw[M7] at h
 cases q:(xs.zip ys)[i]? with
 | none=>rw[q] at h;cases h
 | some p=>
  rw[q] at h
  cases h
  obtain⟨e1,e2⟩:=List.getElem?_zip_eq_some.mp q
  exact⟨p.1,p.2,e1,e2,rfl⟩
section
variable {X:Cx} {C:DC} {tg e:Expr} {t u:DE}
theorem C6r {K:B3} {a b:Addr} {vs ws:List V} {xs ys:List PyData} {P:List Pe}:A8z C (Itz K a b) (A2b xs ys) (.n a (.lst vs)::.s vs xs::.n b (.lst ws)::.s ws ys::P) where
 go:=fun {i ρ σ P' H} s R hi=>by
  obtain⟨col,r⟩:=R
  have h1:=r.pd _ (s _ C0)
  have h2:A9 (Z col) H vs xs:=r.pd _ (s _ (B6 _ C0))
  have h3:=r.pd _ (s _ (B6 _ (B6 _ C0)))
  have h4:A9 (Z col) H ws ys:=r.pd _ (s _ (B6 _ (B6 _ (B6 _ C0))))
  have l1:=h2.len
  have l2:=h4.len
  have hi':i < min xs.length ys.length:=by unfold A2b at hi;rw[D5,B7g] at hi;exact hi
  exact⟨vs,ws,vs[i],ws[i],SqL.of h1.2.2,SqL.of h3.2.2,K3 (by lia),K3 (by lia)⟩
 yld:=fun {i ρ σ P' H H' x d} s R hi y=>by
  obtain⟨p,v,w,rfl,hp,rfl,y⟩:=y
  obtain⟨col,r⟩:=R
  have h1:=r.pd _ (s _ C0)
  have h2:A9 (Z col) H vs xs:=r.pd _ (s _ (B6 _ C0))
  have h3:=r.pd _ (s _ (B6 _ (B6 _ C0)))
  have h4:A9 (Z col) H ws ys:=r.pd _ (s _ (B6 _ (B6 _ (B6 _ C0))))
  obtain⟨hx,hy⟩:=y vs ws (SqL.of h1.2.2) (SqL.of h3.2.2)
  obtain⟨x,y',e1,e2,rfl⟩:=C6q hi
  obtain⟨d1,q1,t1⟩:=h2.get hx
  obtain⟨d2,q2,t2⟩:=h4.get hy
  rw[e1] at q1
  rw[e2] at q2
  cases q1
  cases q2
  exact⟨col,r.tup (.cons t1 (.cons t2 .nil)) hp⟩
 stop:=fun {ρ σ P' H} s R=>by
  obtain⟨col,r⟩:=R
  have h1:=r.pd _ (s _ C0)
  have h2:A9 (Z col) H vs xs:=r.pd _ (s _ (B6 _ C0))
  have h3:=r.pd _ (s _ (B6 _ (B6 _ C0)))
  have h4:A9 (Z col) H ws ys:=r.pd _ (s _ (B6 _ (B6 _ (B6 _ C0))))
  have l1:=h2.len
  have l2:=h4.len
  refine⟨vs,ws,SqL.of h1.2.2,SqL.of h3.2.2,?_⟩
  unfold A2b
  rw[D5,B7g]
  lia
def A34 (t u:DE)  (ρ:List Sl) (Q:List PyData->List Sl->Prop):Prop:=t ρ fun d ρ1=>u ρ1 fun d2 ρ2=>bnd (M8 d) fun xs=>bnd (M8 d2) fun ys=>Q (A2b xs ys) ρ2
theorem C6s {K:B3} (h:PI X tg e (B84 K (X7 (eOf C t) (X7 (eOf C u) g9)))):PI X tg e (iOf C (A34 t u)):=PI.wk h fun _ _ _ zz1=>el3 zz1 fun ρ P _ R ht k=>⟨ρ,P,_,R,ht,fun v d ρ1 H1 R1 h1=>⟨ρ1,_,_,R1,h1,fun w d2 ρ2 H2 zz2 q=>zz2.elim fun col r=>by
 obtain⟨xs,hx,q⟩:=K5 q
 obtain⟨ys,hy,q⟩:=K5 q
 have:=A0f hx
 subst this
 have:=A0f hy
 subst this
 obtain⟨b,ws,rfl,zb,e2,t2⟩:=K1 (show ThV (Z col) H2 w (.list ys) from r.pd _ C0)
 obtain⟨a,vs,rfl,za,e1,t1⟩:=K1 (show ThV (Z col) H2 v (.list xs) from r.pd _ (B6 _ C0))
 refine⟨a,b,rfl,⟨vs,SqL.of e1⟩,⟨ws,SqL.of e2⟩,k _ ρ2 (.n a (.lst vs)::.s vs xs::.n b (.lst ws)::.s ws ys::P) H2 _ ⟨col,?_⟩ (fun _ h=>B6 _ (B6 _ (B6 _ (B6 _ h)))) C6r q⟩
 have ok:∀(c:Addr) (o:HO),col c=0->H2 c=some o->PeR C col H2 (.n c o):=fun c o z e=>⟨by rw[z];decide,r.notH (by rw[z];decide),e⟩
 exact ((((r.sub fun _ h=>B6 _ (B6 _ h)).add (x:=.s ws ys) t2).add (x:=.n b (.lst ws)) (ok b _ zb e2)).add (x:=.s vs xs) t1).add (x:=.n a (.lst vs)) (ok a _ za e1)⟩⟩
end
def A0k (tt:DT) (te:DE) (ρ:List Sl) (Q:List PyData->Prop):List PyData->List PyData->Prop
 | [],acc=>Q acc
 | .tuple [x,y]::r,acc=>tt (ρ++[.sh x,.sh y]) fun b ρ'=>ρ'=ρ++[.sh x,.sh y]/\if b=true then te (ρ++[.sh x,.sh y]) fun d ρ''=>ρ''=ρ++[.sh x,.sh y]/\A0k tt te ρ Q r (acc++[d]) else A0k tt te ρ Q r acc
 | _::_,_=>False
def A2c (it:DF) (tt:DT) (te:DE) (ρ:List Sl) (Q:List PyData->List Sl->Prop):Prop:=it ρ fun xs ρ1=>xs.length<=1000/\A0k tt te ρ1 (fun ds=>Q ds ρ1) xs []
theorem C6t {tt:DT} {te:DE} {ρ:List Sl} {Q:List PyData->Prop} {dx:PyData} {r acc:List PyData} (h:A0k tt te ρ Q (dx::r) acc):∃a b,dx=.tuple [a,b]:=by
 cases dx with
 | tuple l=>
  match l,h with
  | [a,b],_=>exact⟨a,b,rfl⟩
  | [],h=>simp [A0k] at h
  | [_],h=>simp [A0k] at h
  | _::_::_::_,h=>simp [A0k] at h
 | _=>simp [A0k] at h
section
variable {X:Cx} {C:DC}
theorem Rel.ext2 {ρ:List Sl} {σ:St} {P:List Pe} {H:Hp} {v1 v2:V} {a b:PyData} (R:∃col,D8 C col ρ σ P H/\ThV (Z col) H v1 a/\ThV (Z col) H v2 b):Rel C (ρ++[.sh a,.sh b]) (σ++[some v1,some v2]) P H:=by
 obtain⟨col,r,t1,t2⟩:=R
 refine⟨col,{ r with sl:=fun i s e=>?_,len:=by rw[M4,M4,r.len];rfl }⟩
 by_cases hi:i < ρ.length
 ·rw[l6 hi] at e
  rw[l6 (by rw[<-r.len];exact hi)]
  exact r.sl i s e
 ·rw[f7 (by lia)] at e
  rw[f7 (by rw[<-r.len];lia),<-r.len]
  match q:i - ρ.length with
  | 0=>rw[q] at e;cases e;exact⟨_,rfl,t1⟩
  | 1=>rw[q] at e;cases e;exact⟨_,rfl,t2⟩
  | n + 2=>rw[q] at e;simp at e
theorem C6u {K:B3} {it:DF} {tt:DT} {te:DE} {σ:St} {H:Hp} {Q:VK} (h:fOf C (A2c it tt te) σ H Q):B3o K (iOf C it) (fun _=>cOf C tt) (fun _=>eOf C te) σ H Q:=by
 obtain⟨ρ,P,Qd,R,ht,k⟩:=h
 refine⟨ρ,P,_,R,ht,fun xs ρ1 P1 H1 J R1 s1 io q=>?_⟩
 obtain⟨hx,q⟩:=q
 have lz:∀m,m<=1000->m<=sizeLine:=fun m hm=>A4l (A7e hm)
 refine⟨fun i m ys H'=>m=xs.length - i/\i<=xs.length/\ys.length<=i/\∃acc,Rel C ρ1 σ (.s ys acc::P1) H'/\A0k tt te ρ1 (fun ds=>Qd ds ρ1) (xs.drop i) acc,⟨xs.length,by simp,M6 _,F3 _,[],?_,q⟩,?_⟩
 ·obtain⟨col,r⟩:=R1
  exact⟨col,r.add (x:=.s [] []) .nil⟩
 rintro i m ys H2 ⟨rfl,hi,hy,acc,R2,q2⟩
 refine⟨lz _ (by lia),?_⟩
 have sub2:∀p∈P1,p∈Pe.s ys acc::P1:=fun _ h=>B6 _ h
 have hlen:ρ1.length=σ.length:=by obtain⟨col,r⟩:=R2;exact r.len
 by_cases hlt:i < xs.length
 ·rw[A4o hlt] at q2
  refine .inr ⟨io.go sub2 R2 hlt,fun ys' H'=>ys'.length<=i + 1/\∃acc,Rel C ρ1 σ (.s ys' acc::P1) H'/\A0k tt te ρ1 (fun ds=>Qd ds ρ1) (xs.drop (i + 1)) acc,fun ys' H' zz3=>zz3.elim fun h1 h2=>⟨xs.length - (i + 1),by lia,rfl,hlt,h1,h2⟩,fun x H3 y a=>?_⟩
  obtain⟨col,r⟩:=io.yld sub2 R2 (K3 hlt) y
  have tx:ThV (Z col) H3 x xs[i]:=r.pd _ C0
  generalize xs[i]=dx at tx q2
  obtain⟨d1,d2,rfl⟩:=C6t q2
  ·replace q2:tt (ρ1++[.sh d1,.sh d2]) _:=q2
   obtain⟨pa,us,rfl,za,e1,t1⟩:=U9 tx
   obtain⟨y1,y2,rfl,u2,u3⟩:=S9 t1
   refine⟨pa,_,_,rfl,SqT.of e1,?_⟩
   have R3:=Rel.ext2 ⟨col,(r.sub fun _ h=>B6 _ h),u2,u3⟩
   refine⟨_,_,_,R3,q2,fun b ρ' H4 R4 q4=>?_⟩
   obtain⟨rfl,q4⟩:=q4
   cases b with
   | true=>
    refine J0 ⟨_,_,_,R4,by simpa using q4,fun v d ρ'' H5 R5 q5=>?_⟩
    obtain⟨rfl,q5⟩:=q5
    refine⟨by rw[M4];simp;lia,acc++[d],?_,q5⟩
    obtain⟨col',r'⟩:=R5
    have w1:ThV (Z col') H5 v d:=r'.pd _ C0
    have w2:A9 (Z col') H5 ys acc:=r'.pd _ (B6 _ C0)
    exact⟨col',((r'.unext hlen).sub fun _ h=>B6 _ (B6 _ h)).add (x:=.s (ys++[v]) (acc++[d])) (w2.snoc w1)⟩
   | false=>
    refine G6 ⟨by lia,acc,?_,by simpa using q4⟩
    obtain⟨col',r'⟩:=R4
    exact⟨col',r'.unext hlen⟩
 ·have e:i=xs.length:=by lia
  subst e
  rw[B2l] at q2
  refine .inl ⟨io.stop sub2 R2,fun p hp=>k _ _ _ _ _ ?_ hp q2⟩
  obtain⟨col,r⟩:=R2
  exact⟨col,r.sub fun p hp=>B6 _ (s1 p hp),r.pd _ C0⟩
theorem B4c {e:Expr} {K:B3} {it:DF} {tt:DT} {te:DE} (h:PE X e (B3o K (iOf C it) (fun _=>cOf C tt) (fun _=>eOf C te))):PE X e (fOf C (A2c it tt te)):=PE.wk h fun _ _ _ h=>C6u h
end
theorem B0s {α:Type} {te:DE} {ρ:List Sl} {Q:List PyData->Prop} {g1 g2 f:α->PyData}:∀{xs:List α} {acc:List PyData},(∀x∈xs,∀Q':PyData->List Sl->Prop,Q' (f x) (ρ++[.sh (g1 x),.sh (g2 x)])->te (ρ++[.sh (g1 x),.sh (g2 x)]) Q')->Q (acc++xs.map f)->A0k A80 te ρ Q (xs.map fun x=>.tuple [g1 x,g2 x]) acc
 | [],acc,_,q=>by
  have q':Q (acc++[]):=q
  rw[n6] at q'
  exact q'
 | x::r,acc,h,q=>by
  refine⟨rfl,?_⟩
  rw[if_pos rfl]
  refine h x C0 _ ⟨rfl,B0s (fun y hy=>h y (B6 _ hy)) ?_⟩
  rw[A1h]
  exact q
section
variable {X:Cx} {C:DC} {st:Stmt} {te:DE}
end
inductive Z3 {α β:Type} (R:α->β->Prop):List α->List β->Prop
 | nil:Z3 R [] []
 | cons {a b as bs}:R a b->Z3 R as bs->Z3 R (a::as) (b::bs)
section
variable {X:Cx} {C:DC} {st:Stmt}
def D34 (i:Nat) (tk te:DE)  (D:K2) (ρ:List Sl):Prop:=match ρ[i]? with
 | some (.ow _)=>tk ρ fun k ρ1=>te ρ1 fun d ρ2=>match ρ2[i]? with
  | some (.ow ds)=>∃n:Nat,k=.int ((n:Nat):Int)/\n<=ds.length/\ds.length<=1000/\D.nx (ρ2.set i (.ow (ds.take n++[d]++ds.drop n)))
  | _=>False
 | _=>False
end
section
variable {C:DC} {col col':Addr->Nat} {ρ:List Sl} {σ σ':St} {P:List Pe} {H H':Hp} {p:Addr}
end
section
variable {X:Cx} {C:DC} {a b e:Expr} {pos:Pos}
end
section
variable {X:Cx} {C:DC} {e:Expr}
end
section
variable {X:Cx} {C:DC} {st:Stmt} {e:Expr} {te:DE} {pos:Pos} {u:DA}
def A2d (i:Nat)  (D:K2) (ρ:List Sl):Prop:=match ρ[i]? with
 | some (.o2 dss)=>D.ro (.o2 dss)
 | some (.ow ds)=>D.ro (.ow ds)
 | some (.di false ks)=>D.ro (.di false ks)
 | _=>False
theorem C6v {i:Nat} (h:PE X e (X4 i)):PS X (.Return (some e) pos) (sOf C (A2d i)):=PS.wk (Q3 h) fun D σ H z=>el3 z fun ρ P Dd R ht E=>R.elim fun col r=>by
 unfold A2d at ht
 split at ht
 ·rename_i dss e0
  obtain⟨a,as,e1,c,e2,nd,t⟩:=r.sl i _ e0
  exact⟨_,L4 e1,E.ro _ (.o2 dss) ρ σ H col r ⟨a,as,rfl,⟨c.2,by lia⟩,e2,nd,t.mv (fun _ _ z e=>⟨z,e⟩) fun b o g e=>⟨⟨g.2,by have:=g.1;lia⟩,e⟩⟩ ht⟩
 ·rename_i ds e0
  obtain⟨a,vs,e1,c,n,e2,t⟩:=r.sl i _ e0
  exact⟨_,L4 e1,E.ro _ (.ow ds) ρ σ H col r ⟨a,vs,rfl,n,by lia,e2,t⟩ ht⟩
 ·rename_i ks e0
  obtain⟨a,e1,c,n,e2⟩:=r.sl i _ e0
  exact⟨_,L4 e1,E.ro _ (.di false ks) ρ σ H col r ⟨a,rfl,n,e2⟩ ht⟩
 ·exact ht.elim
end
section
variable {X:Cx} {C:DC} {e:Expr} {ta:DE}
end
end My
namespace My
abbrev Tb:=List (Option Int)
abbrev Rn:=List (Option Nat)
abbrev Wy:=Nat×Nat×Int
def K6 (st lv c:Int):Option Int:=if lv + c < 0 then none else some (if st < lv + c then st else lv + c)
def gt {α:Type} (t:List (Option α)) (p:Nat):Option α:=(t[p]?).join
def N0 (st:Int) (t:Tb) (w:Wy):Option Int:=match gt t w.1 with
 | none=>none
 | some l=>K6 st l w.2.2
def U4:Option Int->Option Int->Bool
 | none,_=>false
 | some _,none=>true
 | some a,some b=>decide (b < a)
def leO (a b:Option Int):Prop:=U4 a b=false
theorem V0 {a b:Int}:leO (some a) (some b)↔a<=b:=by unfold leO U4;simp
theorem B4d {b:Option Int}:leO none b:=rfl
theorem A0l {a:Int}:¬ leO (some a) none:=by unfold leO U4;simp
theorem A2e (a:Option Int):leO a a:=by
 cases a with
 | none=>rfl
 | some x=>exact V0.mpr (B2m x)
theorem l8 {a b c:Option Int} (h1:leO a b) (h2:leO b c):leO a c:=by
 cases a with
 | none=>rfl
 | some x=>
  cases b with
  | none=>exact absurd h1 A0l
  | some y=>
   cases c with
   | none=>exact absurd h2 A0l
   | some z=>exact V0.mpr (Int.le_trans (V0.mp h1) (V0.mp h2))
theorem B93 {a b:Option Int} (h1:leO a b) (h2:leO b a):a=b:=by
 cases a with
 | none=>cases b with
  | none=>rfl
  | some y=>exact absurd h2 A0l
 | some x=>cases b with
  | none=>exact absurd h1 A0l
  | some y=>rw[Int.le_antisymm (V0.mp h1) (V0.mp h2)]
theorem B94 {a b:Option Int} (h:U4 a b=true):leO b a:=by
 cases a with
 | none=>cases h
 | some x=>cases b with
  | none=>rfl
  | some y=>unfold U4 at h;exact V0.mpr (by have:=of_decide_eq_true h;lia)
theorem B4e {a b:Option Int} (h:U4 a b=true):¬ leO a b:=fun z=>by unfold leO at z;rw[z] at h;cases h
theorem B4f {a b:Option Int}:U4 a b=true\/leO a b:=by
 cases e:U4 a b with
 | true=>exact .inl rfl
 | false=>exact .inr e
theorem B4g {st a b c:Int} (h:a<=b):leO (K6 st a c) (K6 st b c):=by
 unfold K6
 by_cases h1:a + c < 0
 ·rw[if_pos h1];rfl
 ·have h2:¬ b + c < 0:=by lia
  rw[if_neg h1,if_neg h2]
  apply V0.mpr
  split <;> split <;> lia
theorem B0t {st l c x:Int} (h0:0<=st) (h:K6 st l c=some x):0<=x/\x<=st:=by
 unfold K6 at h
 split at h
 ·cases h
 ·have:=Option.some.inj h
  subst this
  split <;> lia
def leT (t u:Tb):Prop:=∀p,leO (gt t p) (gt u p)
theorem B0u (t:Tb):leT t t:=fun _=>A2e _
theorem B95 {t u v:Tb} (a:leT t u) (b:leT u v):leT t v:=fun p=>l8 (a p) (b p)
theorem C6w {st:Int} {t u:Tb} {w:Wy} (h:leT t u):leO (N0 st t w) (N0 st u w):=by
 have:=h w.1
 unfold N0
 cases e:gt t w.1 with
 | none=>rfl
 | some a=>
  rw[e] at this
  cases e2:gt u w.1 with
  | none=>rw[e2] at this;exact absurd this A0l
  | some b=>rw[e2] at this;exact B4g (V0.mp this)
theorem C6x {st:Int} {t:Tb} {w:Wy} {x:Int} (h0:0<=st) (h:N0 st t w=some x):0<=x/\x<=st:=by
 unfold N0 at h
 split at h
 ·cases h
 ·exact B0t h0 h
structure G7 (m:Nat) (st:Int) (t:Tb):Prop where
 len:t.length=m
 bd:∀p x,gt t p=some x->0<=x/\x<=st
structure J8 (m:Nat) (ws:List Wy):Prop where
 m1:1<=m
 m2:m<=12
 few:ws.length<=40
 st:∀w∈ws,w.1 < m
 en:∀w∈ws,w.2.1 < m
 lo:∀w∈ws,-1000000000000000000<=w.2.2
 hi:∀w∈ws,w.2.2<=1000000000000000000
theorem A35 {α:Type} {t:List (Option α)} {p:Nat} (h:t.length<=p):gt t p=none:=by unfold gt;rw[f9 h];rfl
theorem B0v {α:Type} {t:List (Option α)} {p:Nat} (h:p < t.length):t[p]?=some (gt t p):=by unfold gt;rw[K3 h];rfl
theorem j5 {α:Type} {t:List (Option α)} {i j:Nat} {x:Option α} (h:i < t.length):gt (t.set i x) j=if i=j then x else gt t j:=by
 unfold gt
 rw[n9]
 by_cases e:i=j
 ·rw[if_pos e,if_pos h,if_pos e];rfl
 ·rw[if_neg e,if_neg e]
theorem A36 {α:Type} {m p:Nat}:gt (G5 m (none:Option α)) p=none:=by
 unfold gt
 rw[B65]
 split <;> rfl
theorem B4h {t u:Tb} (hl:t.length=u.length) (h:∀p,gt t p=gt u p):t=u:=by
 apply B7e
 intro i
 by_cases hi:i < t.length
 ·rw[B0v hi,B0v (by lia),h i]
 ·rw[f9 (by lia),f9 (by lia)]
theorem B96 {t u:Tb} (hl:t.length=u.length) (h1:leT t u) (h2:leT u t):t=u:=B4h hl fun p=>B93 (h1 p) (h2 p)
def A37 (st:Int) (t:Tb) (acc:Tb×Rn) (p:Wy×Nat):Tb×Rn:=
 if U4 (N0 st t p.1) (gt acc.1 p.1.2.1)=true then (acc.1.set p.1.2.1 (N0 st t p.1),acc.2.set p.1.2.1 (some p.2)) else acc
def O0 (m:Nat) (ws:List Wy) (st:Int) (t s:Tb):Tb×Rn:=ws.zipIdx.foldl (A37 st t) (s,G5 m none)
structure A7n (m:Nat) (ws:List Wy) (st:Int) (t s:Tb) (L:List (Wy×Nat)) (acc:Tb×Rn):Prop where
 l1:acc.1.length=m
 l2:acc.2.length=m
 up:leT s acc.1
 no:∀p,gt acc.2 p=none->gt acc.1 p=gt s p
 yes:∀p n,gt acc.2 p=some n->∃w,ws[n]?=some w/\w.2.1=p/\gt acc.1 p=N0 st t w/\U4 (N0 st t w) (gt s p)=true
 top:∀q∈L,leO (N0 st t q.1) (gt acc.1 q.1.2.1)
theorem C6y {m:Nat} {ws:List Wy} {st:Int} {t s:Tb} {L:List (Wy×Nat)} {acc:Tb×Rn} (ok:J8 m ws) (I:A7n m ws st t s L acc) {q:Wy×Nat} (hq:ws[q.2]?=some q.1):A7n m ws st t s (L++[q]) (A37 st t acc q):=by
 have hw:q.1∈ws:=O2 hq
 have he:q.1.2.1 < m:=ok.en _ hw
 unfold A37
 by_cases c:U4 (N0 st t q.1) (gt acc.1 q.1.2.1)=true
 ·rw[if_pos c]
  have g1:∀j,gt (acc.1.set q.1.2.1 (N0 st t q.1)) j=if q.1.2.1=j then N0 st t q.1 else gt acc.1 j:=fun j=>j5 (by rw[I.l1];exact he)
  have g2:∀j,gt (acc.2.set q.1.2.1 (some q.2)) j=if q.1.2.1=j then some q.2 else gt acc.2 j:=fun j=>j5 (by rw[I.l2];exact he)
  have hup:∀j,leO (gt acc.1 j) (gt (acc.1.set q.1.2.1 (N0 st t q.1)) j):=fun j=>by
   rw[g1]
   by_cases e:q.1.2.1=j
   ·rw[if_pos e,<-e];exact B94 c
   ·rw[if_neg e];exact A2e _
  refine⟨by rw[O3];exact I.l1,by rw[O3];exact I.l2,fun p=>l8 (I.up p) (hup p),fun p hp=>?_,fun p n hp=>?_,fun r hr=>?_⟩
  ·rw[g2] at hp
   by_cases e:q.1.2.1=p
   ·rw[if_pos e] at hp;cases hp
   ·rw[if_neg e] at hp;rw[g1,if_neg e];exact I.no p hp
  ·rw[g2] at hp
   by_cases e:q.1.2.1=p
   ·rw[if_pos e] at hp
    cases hp
    refine⟨q.1,hq,e,by rw[g1,if_pos e],?_⟩
    rcases B4f (a:=N0 st t q.1) (b:=gt s p) with z | z
    ·exact z
    ·exact absurd (l8 z (I.up p)) (B4e (e▸c))
   ·rw[if_neg e] at hp;rw[g1,if_neg e];exact I.yes p n hp
  ·rcases O9.mp hr with hr | hr
   ·exact l8 (I.top r hr) (hup _)
   ·have:r=q:=by simpa using hr
    subst this
    rw[g1,if_pos rfl];exact A2e _
 ·rw[if_neg c]
  refine⟨I.l1,I.l2,I.up,I.no,I.yes,fun r hr=>?_⟩
  rcases O9.mp hr with hr | hr
  ·exact I.top r hr
  ·have:r=q:=by simpa using hr
   subst this
   rcases B4f (a:=N0 st t r.1) (b:=gt acc.1 r.1.2.1) with z | z
   ·exact absurd z c
   ·exact z
theorem B97 {m:Nat} {ws:List Wy} {st:Int} {t s:Tb} (ok:J8 m ws):∀(R L:List (Wy×Nat)) (acc:Tb×Rn),A7n m ws st t s L acc->(∀q∈R,ws[q.2]?=some q.1)->A7n m ws st t s (L++R) (R.foldl (A37 st t) acc)
 | [],L,acc,I,_=>by rw[n6];exact I
 | q::R,L,acc,I,h=>by
  have:=B97 ok R (L++[q]) _ (C6y ok I (h q C0)) fun r hr=>h r (B6 _ hr)
  rw[A1h] at this
  exact this
theorem A0m {m:Nat} {ws:List Wy} {st:Int} {t s:Tb} (ok:J8 m ws) (hs:s.length=m):A7n m ws st t s ws.zipIdx (O0 m ws st t s):=by
 have h0:A7n m ws st t s [] (s,G5 m none):=⟨hs,by rw[A4m],B0u s,fun _ _=>rfl,fun p n h=>(by rw[A36] at h;cases h),fun q hq=>(nomatch hq)⟩
 have:=B97 ok ws.zipIdx [] _ h0 fun q hq=>by
  obtain⟨w,n⟩:=q
  rw[B7h] at hq
  exact hq
 rw[Q9] at this
 exact this
theorem B98 {m:Nat} {ws:List Wy} {st:Int} {t s:Tb} (ok:J8 m ws) (hs:s.length=m) {w:Wy} (hw:w∈ws):leO (N0 st t w) (gt (O0 m ws st t s).1 w.2.1):=by
 obtain⟨n,hn,e⟩:=A0t.mp hw
 exact (A0m ok hs).top (w,n) (by rw[B7h];show ws[n]?=some w;rw[K3 hn,e])
theorem C6z {m:Nat} {ws:List Wy} {st:Int} {t s:Tb} (ok:J8 m ws) (h0:0<=st) (hs:G7 m st s):G7 m st (O0 m ws st t s).1:=by
 have I:=A0m (st:=st) (t:=t) ok hs.len
 refine⟨I.l1,fun p x h=>?_⟩
 cases e:gt (O0 m ws st t s).2 p with
 | none=>rw[I.no p e] at h;exact hs.bd p x h
 | some n=>
  obtain⟨w,_,_,e2,_⟩:=I.yes p n e
  rw[e2] at h
  exact C6x h0 h
def A2f (ws:List Wy) (st:Int) (t:Tb):Prop:=∀w∈ws,leO (N0 st t w) (gt t w.2.1)
theorem C60 {m:Nat} {ws:List Wy} {st:Int} {t s L:Tb} (ok:J8 m ws) (hs:s.length=m) (h1:leT t L) (h2:leT s L) (c:A2f ws st L):leT (O0 m ws st t s).1 L:=fun p=>by
 have I:=A0m (st:=st) (t:=t) ok hs
 cases e:gt (O0 m ws st t s).2 p with
 | none=>rw[I.no p e];exact h2 p
 | some n=>
  obtain⟨w,hw,e1,e2,_⟩:=I.yes p n e
  rw[e2,<-e1]
  exact l8 (C6w h1) (c w (O2 hw))
structure U5 (m:Nat) (ws:List Wy) (st:Int) (b t:Tb):Prop where
 tab:G7 m st t
 up:leT b t
 cl:A2f ws st t
 le:∀L,G7 m st L->leT b L->A2f ws st L->leT t L
theorem U5.uniq {m:Nat} {ws:List Wy} {st:Int} {b t u:Tb} (h:U5 m ws st b t) (h':U5 m ws st b u):t=u:=B96 (h.tab.len.trans h'.tab.len.symm) (h.le u h'.tab h'.up h'.cl) (h'.le t h.tab h.up h.cl)
abbrev Rw:=Tb×Rn
def T8 (m:Nat) (ws:List Wy) (st:Int):Nat->Rw->List Rw
 | 0,r=>[r]
 | k + 1,r=>if (O0 m ws st r.1 r.1).1=r.1 then [r] else r::T8 m ws st k (O0 m ws st r.1 r.1)
inductive Rows (m:Nat) (ws:List Wy) (st:Int) (b:Tb):List Rw->Prop
 | one:Rows m ws st b [(b,G5 m none)]
 | more {r rs}:Rows m ws st b (r::rs)->(O0 m ws st r.1 r.1).1≠r.1->Rows m ws st b (O0 m ws st r.1 r.1::r::rs)
theorem B99 {m:Nat} {ws:List Wy} {st:Int} {b:Tb}:∀(k:Nat) (r:Rw) (rs:List Rw),Rows m ws st b (r::rs)->∃r' rs',(rs.reverse++T8 m ws st k r).reverse=r'::rs'/\Rows m ws st b (r'::rs')/\((O0 m ws st r'.1 r'.1).1=r'.1\/(r'::rs').length=rs.length + k + 1)
 | 0,r,rs,h=>⟨r,rs,by simp [T8],h,.inr (by simp)⟩
 | k + 1,r,rs,h=>by
  unfold T8
  by_cases c:(O0 m ws st r.1 r.1).1=r.1
  ·rw[if_pos c]
   exact⟨r,rs,by simp,h,.inl c⟩
  ·rw[if_neg c]
   obtain⟨r',rs',e,h',z⟩:=B99 k _ (r::rs) (.more h c)
   refine⟨r',rs',?_,h',?_⟩
   ·rw[<-e];simp
   ·rcases z with z | z
    ·exact .inl z
    ·refine .inr ?_
     rw[z,K8];lia
section
variable {m:Nat} {ws:List Wy} {st:Int} {b:Tb}
theorem Rows.ok (ok:J8 m ws) (h0:0<=st) (hb:G7 m st b):∀{r:Rw} {rs:List Rw},Rows m ws st b (r::rs)->G7 m st r.1/\r.2.length=m/\leT b r.1
 | _,_,.one=>⟨hb,by simp,B0u b⟩
 | _,_,.more (r:=r) h c=>by
  obtain⟨a1,_,a3⟩:=Rows.ok ok h0 hb h
  have I:=A0m (st:=st) (t:=r.1) ok a1.len
  exact⟨C6z ok h0 a1,I.l2,B95 a3 I.up⟩
theorem Rows.under (ok:J8 m ws) (hb:b.length=m) {L:Tb} (h1:leT b L) (c:A2f ws st L):∀{r:Rw} {rs:List Rw},Rows m ws st b (r::rs)->r.1.length=m/\leT r.1 L
 | _,_,.one=>⟨hb,h1⟩
 | _,_,.more (r:=r) h _=>by
  obtain⟨a1,a2⟩:=Rows.under ok hb h1 c h
  exact⟨(A0m (st:=st) (t:=r.1) ok a1).l1,C60 ok a1 a2 a2 c⟩
theorem Rows.least (ok:J8 m ws) (h0:0<=st) (hb:G7 m st b) {r:Rw} {rs:List Rw} (h:Rows m ws st b (r::rs)) (c:(O0 m ws st r.1 r.1).1=r.1):U5 m ws st b r.1:=by
 obtain⟨a1,_,a3⟩:=h.ok ok h0 hb
 refine⟨a1,a3,fun w hw=>?_,fun L _ h1 cl=>(h.under ok hb.len h1 cl).2⟩
 have:=B98 (st:=st) (t:=r.1) (s:=r.1) ok a1.len hw
 rw[c] at this
 exact this
end
abbrev Ef:=Option (Int×Int×Int)
def EOk (st:Int) (e:Int×Int×Int):Prop:=0<=e.1/\e.1<=st/\0<=e.2.2/\e.2.2<=st/\0<=e.1 + e.2.1/\e.2.2<=st + e.2.1
def M0 (e:Ef) (x:Int):Option Int:=match e with
 | none=>none
 | some (l,g,t)=>if x < l then none else some (if t < x + g then t else x + g)
def V1 (a b:Ef):Ef:=match a,b with
 | some (l1,g1,t1),some (l2,g2,t2)=>if t1 < l2 then none else some (if l2 - g1 > l1 then l2 - g1 else l1,g1 + g2,if t2 < t1 + g2 then t2 else t1 + g2)
 | _,_=>none
theorem A5q {a b:Int×Int×Int} (h:¬ a.2.2 < b.1):V1 (some a) (some b)=some (if b.1 - a.2.1 > a.1 then b.1 - a.2.1 else a.1,a.2.1 + b.2.1,if b.2.2 < a.2.2 + b.2.1 then b.2.2 else a.2.2 + b.2.1):=by
 obtain⟨l1,g1,t1⟩:=a
 obtain⟨l2,g2,t2⟩:=b
 unfold V1
 simp only at h
 simp only[if_neg h]
theorem A7o {a b:Int×Int×Int} (h:a.2.2 < b.1):V1 (some a) (some b)=none:=by
 obtain⟨l1,g1,t1⟩:=a
 obtain⟨l2,g2,t2⟩:=b
 unfold V1
 simp only at h
 simp only[if_pos h]
theorem C61 {st:Int} {a b r:Int×Int×Int} (ha:EOk st a) (hb:EOk st b) (h:V1 (some a) (some b)=some r):EOk st r:=by
 by_cases c:a.2.2 < b.1
 ·rw[A7o c] at h;cases h
 ·rw[A5q c] at h
  cases h
  obtain⟨l1,g1,t1⟩:=a
  obtain⟨l2,g2,t2⟩:=b
  obtain⟨h1,h2,h3,h4,h5,h6⟩:=ha
  obtain⟨i1,i2,i3,i4,i5,i6⟩:=hb
  simp only at h1 h2 h3 h4 h5 h6 i1 i2 i3 i4 i5 i6 c
  refine⟨?_,?_,?_,?_,?_,?_⟩ <;> dsimp only <;> (repeat' split) <;> lia
theorem C62 {a b r:Int×Int×Int} (h:V1 (some a) (some b)=some r) (x:Int):M0 (some r) x=(M0 (some a) x).bind (M0 (some b)):=by
 by_cases c:a.2.2 < b.1
 ·rw[A7o c] at h;cases h
 ·rw[A5q c] at h
  cases h
  obtain⟨l1,g1,t1⟩:=a
  obtain⟨l2,g2,t2⟩:=b
  simp only at c
  unfold M0
  dsimp only
  by_cases c1:x < l1
  ·rw[if_pos c1,if_pos (by split <;> lia)]
   rfl
  ·rw[if_neg c1]
   show _=(if (if t1 < x + g1 then t1 else x + g1) < l2 then none else some (if t2 < (if t1 < x + g1 then t1 else x + g1) + g2 then t2 else (if t1 < x + g1 then t1 else x + g1) + g2))
   obtain⟨y,ey,y1,y2,y3⟩:∃y,(if t1 < x + g1 then t1 else x + g1)=y/\y<=t1/\y<=x + g1/\(y=t1\/y=x + g1):=⟨_,rfl,by split <;> lia,by split <;> lia,by split <;> lia⟩
   obtain⟨m,em,m1,m2,m3⟩:∃m,(if l2 - g1 > l1 then l2 - g1 else l1)=m/\l1<=m/\l2 - g1<=m/\(m=l1\/m=l2 - g1):=⟨_,rfl,by split <;> lia,by split <;> lia,by split <;> lia⟩
   obtain⟨n,en,n1,n2,n3⟩:∃n,(if t2 < t1 + g2 then t2 else t1 + g2)=n/\n<=t2/\n<=t1 + g2/\(n=t2\/n=t1 + g2):=⟨_,rfl,by split <;> lia,by split <;> lia,by split <;> lia⟩
   rw[ey,em,en]
   by_cases c2:x < m
   ·rw[if_pos c2,if_pos (show y < l2 by lia)]
   ·rw[if_neg c2,if_neg (show ¬ y < l2 by lia)]
    congr 1
    split <;> split <;> lia
def OkE (st:Int):Ef->Prop
 | none=>True
 | some e=>EOk st e
theorem OkE.join {st:Int} {a b:Ef} (ha:OkE st a) (hb:OkE st b):OkE st (V1 a b):=by
 rcases a with _ | a
 ·exact trivial
 ·rcases b with _ | b
  ·exact trivial
  ·cases q:V1 (some a) (some b) with
   | none=>exact trivial
   | some r=>exact C61 ha hb q
theorem C0a {st:Int} (h:0<=st):EOk st (0,0,st):=⟨B2m _,h,h,B2m _,by simp,by simp⟩
def W7 (st c:Int):Ef:=if st + c < 0 then none else some (if -c > 0 then -c else 0,c,if st + c < st then st + c else st)
def foF (st:Int) (w:Ef) (cs:List Int):Ef:=cs.foldl (fun w c=>V1 w (W7 st c)) w
def fxF (st:Int) (cs:List Int):Ef:=foF st (some (0,0,st)) cs
theorem C0b {st:Int} (h:0<=st) (c:Int):OkE st (W7 st c):=by
 unfold W7
 split
 ·exact trivial
 ·refine⟨?_,?_,?_,?_,?_,?_⟩ <;> dsimp only <;> (repeat' split) <;> lia
theorem C0c {st:Int} (h:0<=st):∀(cs:List Int) {w:Ef},OkE st w->OkE st (foF st w cs)
 | [],_,hw=>hw
 | c::cs,w,hw=>C0c h cs (hw.join (C0b h c))
theorem C0d {st:Int} (h:0<=st) (cs:List Int):OkE st (fxF st cs):=C0c h cs (C0a h)
theorem C63 (a b:Ef) (x:Int):M0 (V1 a b) x=(M0 a x).bind (M0 b):=by
 rcases a with _ | a
 ·rfl
 ·rcases b with _ | b
  ·show none=(M0 (some a) x).bind (M0 none)
   cases M0 (some a) x <;> rfl
  ·by_cases c:a.2.2 < b.1
   ·rw[A7o c]
    obtain⟨l1,g1,t1⟩:=a
    obtain⟨l2,g2,t2⟩:=b
    simp only at c
    show none=_
    unfold M0
    dsimp only
    by_cases c1:x < l1
    ·rw[if_pos c1];rfl
    ·rw[if_neg c1]
     show none=if (if t1 < x + g1 then t1 else x + g1) < l2 then none else _
     rw[if_pos (by split <;> lia)]
   ·exact C62 (A5q c) x |>.symm▸(by rw[A5q c])
def wkF (st:Int) (o:Option Int) (cs:List Int):Option Int:=cs.foldl (fun o c=>o.bind (fun x=>K6 st x c)) o
theorem A84 (st:Int):∀cs:List Int,wkF st none cs=none
 | []=>rfl
 | _::cs=>A84 st cs
theorem C64 {st x c:Int} (h0:0<=x) (h1:x<=st):M0 (W7 st c) x=K6 st x c:=by
 unfold W7 K6
 by_cases d:st + c < 0
 ·rw[if_pos d,if_pos (by lia)]
  rfl
 ·rw[if_neg d]
  unfold M0
  dsimp only
  by_cases e:x + c < 0
  ·rw[if_pos e,if_pos (by split <;> lia)]
  ·rw[if_neg e,if_neg (by split <;> lia)]
   congr 1
   split <;> split <;> (try split) <;> lia
theorem C0e {st:Int} (h:0<=st) (x:Int):∀(cs:List Int) (w:Ef),(∀y,M0 w x=some y->0<=y/\y<=st)->M0 (foF st w cs) x=wkF st (M0 w x) cs
 | [],_,_=>rfl
 | c::cs,w,hw=>by
  have e:M0 (V1 w (W7 st c)) x=(M0 w x).bind (fun y=>K6 st y c):=by
   rw[C63]
   cases q:M0 w x with
   | none=>rfl
   | some y=>exact C64 (hw y q).1 (hw y q).2
  show M0 (foF st (V1 w (W7 st c)) cs) x=wkF st ((M0 w x).bind (fun y=>K6 st y c)) cs
  rw[C0e h x cs _ ?_,e]
  intro y q
  rw[e] at q
  cases q2:M0 w x with
  | none=>rw[q2] at q;cases q
  | some z=>rw[q2] at q;exact B0t h q
theorem C0f {st x:Int} (h0:0<=x) (h1:x<=st):M0 (some (0,0,st)) x=some x:=by
 unfold M0
 dsimp only
 rw[if_neg (by lia)]
 congr 1
 split <;> lia
theorem A7p {st x:Int} (h0:0<=x) (h1:x<=st) (cs:List Int):M0 (fxF st cs) x=wkF st (some x) cs:=by
 unfold fxF
 rw[C0e (by lia) x cs _ ?_,C0f h0 h1]
 intro y q
 rw[C0f h0 h1] at q
 cases q
 exact⟨h0,h1⟩
theorem C0g {st:Int}:∀(cs:List Int) {w:Int×Int×Int} {r:Int×Int×Int},foF st (some w) cs=some r->r.2.1=w.2.1 + cs.sum
 | [],w,r,q=>by
  have q':some w=some r:=q
  cases q'
  simp
 | c::cs,w,r,q=>by
  have q':foF st (V1 (some w) (W7 st c)) cs=some r:=q
  cases q2:V1 (some w) (W7 st c) with
  | none=>
   rw[q2] at q'
   have:∀cs:List Int,foF st none cs=none:=by
    intro cs
    induction cs with
    | nil=>rfl
    | cons c cs ih=>exact ih
   rw[this] at q'
   cases q'
  | some a=>
   rw[q2] at q'
   rw[C0g cs q']
   have ga:a.2.1=w.2.1 + c:=by
    unfold W7 at q2
    split at q2
    ·cases q2
    ·by_cases d:w.2.2 < (if -c > 0 then -c else 0)
     ·rw[A7o (by exact d)] at q2;cases q2
     ·rw[A5q (by exact d)] at q2;cases q2;rfl
   rw[ga,B7i]
   lia
theorem C0h {st:Int} {cs:List Int} {r:Int×Int×Int} (q:fxF st cs=some r):r.2.1=cs.sum:=by
 rw[C0g cs q]
 show 0 + cs.sum=cs.sum
 lia
def P9 (ws:List Wy) (n:Nat):Nat:=match ws[n]? with
 | some w=>w.1
 | none=>0
def A2g (ws:List Wy) (n:Nat):Nat:=match ws[n]? with
 | some w=>w.2.1
 | none=>0
def V2 (ws:List Wy) (n:Nat):Int:=match ws[n]? with
 | some w=>w.2.2
 | none=>0
def wlk (ws:List Wy):List Rw->Nat->Nat×List Nat
 | [],p=>(p,[])
 | r::rs,p=>match gt r.2 p with
  | none=>wlk ws rs p
  | some n=>((wlk ws rs (P9 ws n)).1,(wlk ws rs (P9 ws n)).2++[n])
structure Wk (ws:List Wy) (st:Int) (b:Tb) (N:List Nat) (P:Nat->Nat) (L:Nat->Int):Prop where
 way:∀k n,N[k]?=some n->∃w,ws[n]?=some w/\w.1=P k/\w.2.1=P (k + 1)/\K6 st (L k) w.2.2=some (L (k + 1))
 beg:gt b (P 0)=some (L 0)
 rise:∀k,1<=k->k<=N.length->U4 (some (L k)) (gt b (P k))=true
 strict:∀i j,i < j->j<=N.length->P i=P j->L i < L j
theorem C65 {a b c:Option Int} (h:U4 a c=true) (z:leO b c):U4 a b=true:=by
 rcases B4f (a:=a) (b:=b) with q | q
 ·exact q
 ·exact absurd (l8 q z) (B4e h)
section
variable {m:Nat} {ws:List Wy} {st:Int} {b:Tb}
theorem C0i (ok:J8 m ws) (h0:0<=st) (hb:G7 m st b):∀{r:Rw} {rs:List Rw},Rows m ws st b (r::rs)->∀p,((rs=[]/\∃l,gt b p=some l)\/(∃n,gt r.2 p=some n))->
  ∃N P L,wlk ws (r::rs) p=(P 0,N)/\N.length=rs.length/\P N.length=p/\gt r.1 p=some (L N.length)/\Wk ws st b N P L/\∀k,k<=N.length->leO (some (L k)) (gt r.1 (P k))
 | _,_,.one,p,h=>by
  rcases h with ⟨_,l,hl⟩ | ⟨n,hn⟩
  ·refine⟨[],fun _=>p,fun _=>l,?_,rfl,rfl,hl,⟨fun k n e=>by simp at e,hl,fun k h1 h2=>?_,fun i j h1 h2=>?_⟩,fun k _=>by show leO (some l) (gt b p);rw[hl];exact A2e _⟩
   ·unfold wlk
    rw[A36]
    rfl
   ·simp at h2;lia
   ·simp at h2;lia
  ·rw[A36] at hn;cases hn
 | _,_,.more (r:=r) (rs:=rs) h c,p,hp=>by
  obtain⟨a1,_,a3⟩:=h.ok ok h0 hb
  have I:=A0m (st:=st) (t:=r.1) ok a1.len
  have hp':∃n,gt (O0 m ws st r.1 r.1).2 p=some n:=by
   rcases hp with ⟨z,_⟩ | z
   ·cases z
   ·exact z
  obtain⟨n,hn⟩:=hp'
  obtain⟨w,hw,e1,e2,e3⟩:=I.yes p n hn
  obtain⟨l,hl⟩:∃l,N0 st r.1 w=some l:=by
   cases q:N0 st r.1 w with
   | none=>rw[q] at e3;cases e3
   | some l=>exact⟨l,rfl⟩
  obtain⟨l',hl',hs⟩:∃l',gt r.1 w.1=some l'/\K6 st l' w.2.2=some l:=by
   have hl2:=hl
   unfold N0 at hl2
   split at hl2
   ·cases hl2
   ·rename_i l' e;exact⟨l',e,hl2⟩
  rw[hl] at e2 e3
  have hq:(rs=[]/\∃l,gt b w.1=some l)\/(∃n,gt r.2 w.1=some n):=by
   cases h with
   | one=>exact .inl ⟨rfl,l',hl'⟩
   | @more r0 rs0 h' c'=>
    obtain⟨b1,_,_⟩:=h'.ok ok h0 hb
    have I0:=A0m (st:=st) (t:=r0.1) ok b1.len
    cases e:gt (O0 m ws st r0.1 r0.1).2 w.1 with
    | some n'=>exact .inr ⟨n',rfl⟩
    | none=>
     have e4:=I0.no w.1 e
     have e5:N0 st r0.1 w=some l:=by
      unfold N0
      rw[<-e4,hl']
      exact hs
     have:=B98 (st:=st) (t:=r0.1) (s:=r0.1) ok b1.len (O2 hw)
     rw[e5,e1] at this
     exact absurd this (B4e e3)
  obtain⟨N,P,L,f1,f2,f3,f4,W,f6⟩:=C0i ok h0 hb h w.1 hq
  have eL:L N.length=l':=by rw[hl'] at f4;exact (Option.some.inj f4).symm
  let P':Nat->Nat:=fun k=>if k<=N.length then P k else p
  let L':Nat->Int:=fun k=>if k<=N.length then L k else l
  have p1:∀k,k<=N.length->P' k=P k:=fun k hk=>if_pos hk
  have p2:∀k,¬ k<=N.length->P' k=p:=fun k hk=>if_neg hk
  have l1:∀k,k<=N.length->L' k=L k:=fun k hk=>if_pos hk
  have l2:∀k,¬ k<=N.length->L' k=l:=fun k hk=>if_neg hk
  have hlen:(N++[n]).length=N.length + 1:=by simp
  refine⟨N++[n],P',L',?_,by rw[hlen,f2];rfl,by rw[hlen];exact p2 _ (by lia),by rw[hlen,l2 _ (by lia)];exact e2,⟨fun k n' e=>?_,by rw[p1 0 (M6 _),l1 0 (M6 _)];exact W.beg,fun k k1 k2=>?_,fun i j hij hj hp=>?_⟩,fun k hk=>?_⟩
  ·show (match gt (O0 m ws st r.1 r.1).2 p with
    | none=>wlk ws (r::rs) p
    | some n=>((wlk ws (r::rs) (P9 ws n)).1,(wlk ws (r::rs) (P9 ws n)).2++[n]))=_
   rw[hn]
   have:P9 ws n=w.1:=by unfold P9;rw[hw]
   show ((wlk ws (r::rs) (P9 ws n)).1,(wlk ws (r::rs) (P9 ws n)).2++[n])=_
   rw[this,f1,p1 0 (M6 _)]
  ·by_cases hk:k < N.length
   ·rw[l6 hk] at e
    rw[p1 k (by lia),p1 (k + 1) (by lia),l1 k (by lia),l1 (k + 1) (by lia)]
    exact W.way k n' e
   ·rw[f7 (by lia)] at e
    have hk':k=N.length:=by
     match q:k - N.length with
     | 0=>lia
     | z + 1=>rw[q] at e;simp at e
    subst hk'
    rw[Nat.sub_self] at e
    cases e
    refine⟨w,hw,?_,?_,?_⟩
    ·rw[p1 _ (F3 _),f3]
    ·rw[p2 _ (by lia),e1]
    ·rw[l1 _ (F3 _),l2 _ (by lia),eL];exact hs
  ·by_cases hk:k<=N.length
   ·rw[p1 k hk,l1 k hk];exact W.rise k k1 hk
   ·rw[p2 k hk,l2 k hk];exact C65 e3 (a3 p)
  ·by_cases hk:j<=N.length
   ·rw[l1 i (by lia),l1 j hk]
    rw[p1 i (by lia),p1 j hk] at hp
    exact W.strict i j hij hk hp
   ·rw[hlen] at hj
    rw[p1 i (by lia),p2 j hk] at hp
    rw[l1 i (by lia),l2 j hk]
    have z:=f6 i (by lia)
    rw[hp] at z
    cases q:gt r.1 p with
    | none=>rw[q] at z;exact absurd z A0l
    | some y=>
     rw[q] at z e3
     have z1:=V0.mp z
     have z2:y < l:=of_decide_eq_true e3
     lia
  ·by_cases hk':k<=N.length
   ·rw[p1 k hk',l1 k hk'];exact l8 (f6 k hk') (I.up _)
   ·rw[p2 k hk',l2 k hk',e2];exact A2e _
end
def seg (N:List Nat) (i j:Nat):List Nat:=(N.drop i).take (j - i)
def chs (ws:List Wy) (ns:List Nat):List Int:=ns.map (V2 ws)
theorem A7q (N:List Nat) (i:Nat):seg N i i=[]:=by unfold seg;rw[Nat.sub_self];rfl
theorem B4i {N:List Nat} {i j:Nat} (h:i<=j) (h2:j < N.length):seg N i (j + 1)=seg N i j++[N[j]]:=by
 unfold seg
 have e:j + 1 - i=j - i + 1:=by lia
 rw[e,A63,List.getElem?_drop,show i + (j - i)=j by lia,K3 h2]
 rfl
theorem A85 {N:List Nat} {i j:Nat} (h:j<=N.length):(seg N i j).length=j - i:=by
 unfold seg
 rw[e9,B67]
 lia
theorem B4j (st:Int) (o:Option Int) (xs ys:List Int):wkF st o (xs++ys)=wkF st (wkF st o xs) ys:=by unfold wkF;rw[List.foldl_append]
section
variable {ws:List Wy} {st:Int} {b:Tb} {N:List Nat} {P:Nat->Nat} {L:Nat->Int}
theorem Wk.ch (W:Wk ws st b N P L) {k:Nat} (h:k < N.length):K6 st (L k) (V2 ws N[k])=some (L (k + 1)):=by
 obtain⟨w,hw,_,_,e⟩:=W.way k N[k] (K3 h)
 unfold V2
 rw[hw]
 exact e
theorem Wk.seg (W:Wk ws st b N P L) {i:Nat}:∀{j:Nat},i<=j->j<=N.length->wkF st (some (L i)) (chs ws (My.seg N i j))=some (L j)
 | 0,h1,_=>by
  have:i=0:=by lia
  subst this
  rw[A7q];rfl
 | j + 1,h1,h2=>by
  by_cases e:i=j + 1
  ·subst e
   rw[A7q];rfl
  ·rw[B4i (by lia) (by lia)]
   unfold chs
   rw[O5,B4j]
   have:=W.seg (i:=i) (j:=j) (by lia) (by lia)
   unfold chs at this
   rw[this]
   exact W.ch (by lia)
theorem Wk.bd (W:Wk ws st b N P L) (h0:0<=st) {m:Nat} (hb:G7 m st b):∀k,k<=N.length->0<=L k/\L k<=st
 | 0,_=>hb.bd _ _ W.beg
 | k + 1,h=>B0t h0 (W.ch (k:=k) (by lia))
theorem Wk.pl (W:Wk ws st b N P L) {m:Nat} (ok:J8 m ws) (hb:G7 m st b):∀k,k<=N.length->P k < m
 | 0,_=>by
  by_cases h:P 0 < m
  ·exact h
  ·have:=W.beg
   rw[A35 (by rw[hb.len];lia)] at this
   cases this
 | k + 1,h=>by
  obtain⟨w,hw,_,e,_⟩:=W.way k N[k] (K3 (by lia))
  rw[<-e]
  exact ok.en w (O2 hw)
theorem Wk.lid (W:Wk ws st b N P L) {T:Tb} (c:A2f ws st T) {i:Nat} {x:Int} (hx:leO (some x) (gt T (P i))):∀{j:Nat} {y:Int},i<=j->j<=N.length->wkF st (some x) (chs ws (My.seg N i j))=some y->leO (some y) (gt T (P j))
 | 0,y,h1,_,e=>by
  have:i=0:=by lia
  subst this
  rw[A7q] at e
  cases e
  exact hx
 | j + 1,y,h1,h2,e=>by
  by_cases q:i=j + 1
  ·subst q
   rw[A7q] at e
   cases e
   exact hx
  ·rw[B4i (by lia) (by lia)] at e
   unfold chs at e
   rw[O5,B4j] at e
   obtain⟨w,hw,e1,e2,_⟩:=W.way j N[j] (K3 (by lia))
   cases z:wkF st (some x) ((My.seg N i j).map (V2 ws)) with
   | none=>rw[z] at e;cases e
   | some v=>
    rw[z] at e
    have e':K6 st v (V2 ws N[j])=some y:=e
    have ih:=W.lid c hx (j:=j) (y:=v) (by lia) (by lia) z
    have hc:V2 ws N[j]=w.2.2:=by unfold V2;rw[hw]
    cases g:gt T (P j) with
    | none=>rw[g] at ih;exact absurd ih A0l
    | some u=>
     rw[g] at ih
     have s1:=B4g (st:=st) (c:=w.2.2) (V0.mp ih)
     rw[<-hc,e',hc] at s1
     have s2:=c w (O2 hw)
     unfold N0 at s2
     rw[e1,g,e2] at s2
     exact l8 s1 s2
end
def O1 (st lv:Int):List Int->List Int
 | []=>[lv]
 | c::cs=>match K6 st lv c with
  | none=>[lv]
  | some x=>lv::O1 st x cs
theorem C66 {st lv c:Int} {cs:List Int} (h:K6 st lv c=none):O1 st lv (c::cs)=[lv]:=by rw[O1,h]
theorem C67 {st lv c x:Int} {cs:List Int} (h:K6 st lv c=some x):O1 st lv (c::cs)=lv::O1 st x cs:=by rw[O1,h]
theorem B4k {st:Int}:∀{cs:List Int} {x y:Int},wkF st (some x) cs=some y->∀k,k<=cs.length->∃z,(O1 st x cs)[k]?=some z/\wkF st (some x) (cs.take k)=some z
 | [],x,y,_,k,hk=>by
  have:k=0:=by simpa using hk
  subst this
  exact⟨x,rfl,rfl⟩
 | c::cs,x,y,h,k,hk=>by
  cases e:K6 st x c with
  | none=>
   have h':wkF st (K6 st x c) cs=some y:=h
   rw[e,A84] at h'
   cases h'
  | some x1=>
   have h':wkF st (K6 st x c) cs=some y:=h
   rw[e] at h'
   unfold O1
   rw[e]
   cases k with
   | zero=>exact⟨x,rfl,rfl⟩
   | succ k=>
    obtain⟨z,z1,z2⟩:=B4k h' k (by simpa using hk)
    refine⟨z,z1,?_⟩
    show wkF st (K6 st x c) (cs.take k)=some z
    rw[e];exact z2
theorem B4l {st:Int}:∀{cs:List Int} {x y:Int},wkF st (some x) cs=some y->(O1 st x cs).length=cs.length + 1
 | [],_,_,_=>rfl
 | c::cs,x,y,h=>by
  have h':wkF st (K6 st x c) cs=some y:=h
  cases e:K6 st x c with
  | none=>rw[e,A84] at h';cases h'
  | some x1=>
   rw[e] at h'
   unfold O1
   rw[e,K8,K8,B4l h']
theorem C0j {st:Int}:∀{cs:List Int} {x y:Int},wkF st (some x) cs=some y->y=x + cs.sum\/st∈O1 st x cs
 | [],x,y,h=>by
  cases h
  exact .inl (by simp)
 | c::cs,x,y,h=>by
  have h':wkF st (K6 st x c) cs=some y:=h
  cases e:K6 st x c with
  | none=>rw[e,A84] at h';cases h'
  | some x1=>
   rw[e] at h'
   have hd:(O1 st x1 cs).head?=some x1:=by
    cases cs with
    | nil=>rfl
    | cons d ds=>
     unfold O1
     cases K6 st x1 d <;> rfl
   by_cases q:x1=st
   ·refine .inr ?_
    unfold O1
    rw[e]
    refine B6 _ ?_
    have hm:=List.mem_of_head? hd
    have e3:(st∈O1 st x1 cs)=(x1∈O1 st x1 cs):=congrArg (·∈O1 st x1 cs) q.symm
    rw[e3]
    exact hm
   ·have e1:x1=x + c:=by
     unfold K6 at e
     split at e
     ·cases e
     ·have e2:=Option.some.inj e
      split at e2
      ·exact absurd e2.symm q
      ·exact e2.symm
    rcases C0j h' with z | z
    ·refine .inl ?_
     rw[z,e1,B7i];lia
    ·refine .inr ?_
     unfold O1
     rw[e]
     exact B6 _ z
structure Rnd (st:Int) (cs:List Int) (x:Int) (le g tp:Int) (k:Nat):Prop where
 fx:fxF st cs=some (le,g,tp)
 g0:0 < g
 gs:g=cs.sum
 xt:x < tp
 tst:tp<=st
 kl:k<=cs.length
 ki:(O1 st tp cs).idxOf st=k
 km:st∈O1 st tp cs
 kw:wkF st (some tp) (cs.take k)=some st
 ll:(O1 st tp cs).length=cs.length + 1
theorem C68 {st:Int} {cs:List Int} {x y:Int} (h0:0<=x) (h1:x<=st) (w:wkF st (some x) cs=some y) (hy:x < y):∃le g tp k,Rnd st cs x le g tp k/\le<=x:=by
 have hp:=A7p h0 h1 cs
 rw[w] at hp
 have hok:=C0d (by lia) cs (st:=st)
 cases e:fxF st cs with
 | none=>rw[e] at hp;cases hp
 | some r=>
  obtain⟨le,g,tp⟩:=r
  rw[e] at hp hok
  have gs:=C0h e
  obtain⟨o1,o2,o3,o4,o5,o6⟩:=hok
  simp only at o1 o2 o3 o4 o5 o6 gs
  unfold M0 at hp
  dsimp only at hp
  split at hp
  ·cases hp
  ·rename_i hle
   have hy2:=Option.some.inj hp
   have g0:0 < g:=by split at hy2 <;> lia
   have xt:x < tp:=by split at hy2 <;> lia
   have wt:=A7p (st:=st) (x:=tp) o3 o4 cs
   rw[e] at wt
   unfold M0 at wt
   dsimp only at wt
   rw[if_neg (by lia),if_pos (by lia)] at wt
   have km:st∈O1 st tp cs:=by
    rcases C0j wt.symm with z | z
    ·lia
    ·exact z
   have hlt:=B2i.mpr km
   have ll:=B4l wt.symm
   rw[ll] at hlt
   obtain⟨z,z1,z2⟩:=B4k wt.symm ((O1 st tp cs).idxOf st) (by lia)
   have ez:z=st:=by
    have hl2:=B2i.mpr km
    rw[K3 hl2,C27 hl2] at z1
    exact (Option.some.inj z1).symm
   subst ez
   exact⟨le,g,tp,_,⟨e,g0,gs,xt,o4,by lia,rfl,km,z2,ll⟩,by lia⟩
section
variable {m:Nat} {ws:List Wy} {st:Int} {b:Tb} {N:List Nat} {P:Nat->Nat} {L:Nat->Int}
theorem B4m {N:List Nat} {i j k:Nat} (h:k<=j - i):(seg N i j).take k=seg N i (i + k):=by
 unfold seg
 rw[List.take_take,show min k (j - i)=k by lia,show i + k - i=k by lia]
theorem C69 (W:Wk ws st b N P L) {i j:Nat} (hij:i < j) (hj:j<=N.length) (hp:P i=P j) {le g tp:Int} {k:Nat} (hle:le<=L i) (R:Rnd st (chs ws (seg N i j)) (L i) le g tp k) {T:Tb} (hT:G7 m st T) (hb:leT b T) (c:A2f ws st T) :
  leO (some st) (gt T (P (i + k))):=by
 have kl:k<=j - i:=by
  have:=R.kl
  unfold chs at this
  rw[D5,A85 hj] at this
  exact this
 have h0:leO (some (L 0)) (gt T (P 0)):=by rw[<-W.beg];exact hb _
 have hi:=W.lid c h0 (j:=i) (M6 _) (by lia) (W.seg (M6 _) (by lia))
 cases q:gt T (P i) with
 | none=>rw[q] at hi;exact absurd hi A0l
 | some z=>
  rw[q] at hi
  have hz:=V0.mp hi
  obtain⟨z0,z1⟩:=hT.bd _ _ q
  have wz:=A7p z0 z1 (chs ws (seg N i j))
  rw[R.fx] at wz
  unfold M0 at wz
  dsimp only at wz
  rw[if_neg (by lia)] at wz
  have hr:=W.lid c (x:=z) (by rw[q];exact A2e _) (j:=j) (by lia) hj wz.symm
  rw[<-hp,q] at hr
  have hr':=V0.mp hr
  have:=R.g0
  have htz:tp<=z:=by split at hr' <;> lia
  have ht:leO (some tp) (gt T (P i)):=by rw[q];exact V0.mpr htz
  refine W.lid c ht (j:=i + k) (by lia) (by lia) ?_
  have kw:=R.kw
  unfold chs at kw ⊢
  rw[<-A1j,B4m kl] at kw
  exact kw
theorem C7a (W:Wk ws st b N P L) (h0:0<=st) (hb:G7 m st b) {i j k:Nat} (hij:i < j) (hj:j<=N.length) (hp:P i=P j) (hk:i + k<=j):gt b (P (i + k))≠some st:=fun e=>by
 have key:∀q,1<=q->q<=N.length->gt b (P q)≠some st:=fun q h1 h2 e=>by
  have r:=W.rise q h1 h2
  rw[e] at r
  have:=of_decide_eq_true r
  have:=(W.bd h0 hb q h2).2
  lia
 by_cases hk0:i + k=0
 ·rw[hk0] at e
  have:i=0:=by lia
  rw[this] at hp
  rw[hp] at e
  exact key j (by lia) hj e
 ·exact key (i + k) (by lia) (by lia) e
theorem U5.fill (hb:G7 m st b) {p:Nat} (hp:p < m) {t:Tb} (h:U5 m ws st (b.set p (some st)) t) (hl:∀T,G7 m st T->leT b T->A2f ws st T->leO (some st) (gt T p)):U5 m ws st b t:=by
 have g:∀j,gt (b.set p (some st)) j=if p=j then some st else gt b j:=fun j=>j5 (by rw[hb.len];exact hp)
 refine⟨h.tab,fun q=>l8 ?_ (h.up q),h.cl,fun T hT h1 h2=>h.le T hT (fun q=>?_) h2⟩
 ·rw[g]
  by_cases e:p=q
  ·rw[if_pos e]
   cases z:gt b q with
   | none=>rfl
   | some x=>exact V0.mpr (hb.bd _ _ z).2
  ·rw[if_neg e];exact A2e _
 ·rw[g]
  by_cases e:p=q
  ·rw[if_pos e,<-e];exact hl T hT h1 h2
  ·rw[if_neg e];exact h1 q
theorem C7b (h0:0<=st) (hb:G7 m st b) {p:Nat} (hp:p < m):G7 m st (b.set p (some st)):=by
 refine⟨by rw[O3];exact hb.len,fun q x h=>?_⟩
 rw[j5 (by rw[hb.len];exact hp)] at h
 by_cases e:p=q
 ·rw[if_pos e] at h;cases h;exact⟨h0,B2m _⟩
 ·rw[if_neg e] at h;exact hb.bd q x h
end
def A5r (st:Int) (b:Tb):Nat:=b.countP fun x=>!(x == some st)
theorem C0k (st:Int):∀(b:Tb) (p:Nat),p < b.length->gt b p≠some st->A5r st (b.set p (some st)) < A5r st b
 | [],_,h,_=>by simp at h
 | x::b,0,_,h=>by
  have hx:x≠some st:=h
  show List.countP _ (some st::b) < List.countP _ (x::b)
  rw[List.countP_cons_of_neg (by simp),List.countP_cons_of_pos (by simp [hx])]
  lia
 | x::b,p + 1,h1,h2=>by
  have ih:=C0k st b p (by simpa using h1) h2
  show List.countP _ (x::b.set p (some st)) < List.countP _ (x::b)
  unfold A5r at ih
  rw[List.countP_cons,List.countP_cons]
  lia
theorem B0w:∀(m:Nat) (l:List Nat),l.Nodup->(∀x∈l,x < m)->l.length<=m
 | 0,l,_,h=>by
  cases l with
  | nil=>exact F3 _
  | cons x r=>exact absurd (h x C0) (by lia)
 | m + 1,l,nd,h=>by
  by_cases c:m∈l
  ·have h1:=B0w m (l.erase m) (nd.erase m) fun x hx=>by
    have h2:=h x (List.mem_of_mem_erase hx)
    have h3:x≠m:=fun e=>by
     subst e
     exact absurd hx (nd.not_mem_erase)
    lia
   rw[List.length_erase_of_mem c] at h1
   lia
  ·have:=B0w m l nd fun x hx=>by
    have h2:=h x hx
    have h3:x≠m:=fun e=>c (e▸hx)
    lia
   lia
abbrev Sp2:=Nat×Int
def A09 (m:Nat) (b:Sp2):Tb:=(G5 m none).set b.1 (some b.2)
def enF (t:Tb) (g:Sp2):Bool:=match gt t g.1 with
 | none=>false
 | some l=>decide (g.2<=l)
section
variable {m:Nat} {ws:List Wy} {st:Int} {b g:Sp2}
theorem C7c:(A09 m b).length=m:=by unfold A09;rw[O3,A4m]
end
section
variable {ws:List Wy} {row:List Nat} {cs:List Int} {st sc gv x y:Int} {p0:Nat}
end
section
variable {m:Nat} {row:List Nat} {cs:List Int} {sc gv:Int} {B S ws:List Wy}
end
section
variable {m:Nat} {ws:List Wy} {row:List Nat} {cs:List Int} {sc gv st x y:Int} {p0 pl:Nat}
end
section
variable {m:Nat} {ws:List Wy} {st:Int}
end
section
variable {m:Nat} {st:Int}
end
end My
namespace L2
open PySem PySem.Spec PyProof.Rows
def C0l (N:List Str) (osc scope:Scope) (x:Str) (j:Nat):Bool:=
 decide N.Nodup&&decide (N[j]?=some x)&&decide (scope.kind=.function)&&decide (osc.kind=.function)&&(scope.names.lookup x == some .local)&&
  scope.names.all fun y=>match y.2 with
   | .cell=>false
   | .local=>scope.names.lookup y.1 == some .local&&(y.1 == x||!(N.contains y.1))
   | .free=>osc.names.lookup y.1 == some .cell
   | _=>true
theorem N5.old {N:List Str} {osc scope:Scope} {x:Str} {j:Nat} (h:C0l N osc scope x j=true):N5 N N osc scope j x:=by
 unfold C0l at h
 simp only[U7,decide_eq_true_eq,B68,beq_iff_eq] at h
 obtain⟨⟨⟨⟨⟨h1,h0⟩,h2⟩,h3⟩,h4⟩,h5⟩:=h
 refine⟨h1,h0,fun i y _ e=>e,A1i _,h2,fun y hy e=>?_,fun y hy e=>?_,fun y hy e=>?_,h4,h3,fun y hy e=>?_⟩
 ·have:=h5 y hy;rw[e] at this;cases this
 ·have:=h5 y hy
  rw[e] at this
  simp only[U7,beq_iff_eq] at this
  exact this.1
 ·have:=h5 y hy
  rw[e] at this
  simp only[U7,Bool.or_eq_true,beq_iff_eq,B69,B7a,decide_eq_false_iff_not] at this
  exact this.2
 ·have:=h5 y hy
  rw[e] at this
  simp only[beq_iff_eq] at this
  exact this
end L2
namespace My
open PySem L2
def A86 (j:Nat) (tt:DT) (te:DE) (ρ:List Sl) (Q:List PyData->Prop):List PyData->List PyData->Prop
 | [],acc=>Q acc
 | x::r,acc=>tt (ρ.set j (.sh x)) fun b ρ'=>ρ'=ρ.set j (.sh x)/\if b=true then te (ρ.set j (.sh x)) fun d ρ''=>ρ''=ρ.set j (.sh x)/\A86 j tt te ρ Q r (acc++[d]) else A86 j tt te ρ Q r acc
def B4n (n j:Nat) (it:DF) (tt:DT) (te:DE)  (ρ:List Sl) (Q:List PyData->List Sl->Prop):Prop:=it ρ fun xs ρ1=>(ρ1.length=n/\ρ1[j]?=some .no/\xs.length<=1000)/\A86 j tt te ρ1 (fun ds=>Q ds ρ1) xs []
section
variable {X:Cx} {C:DC}
theorem D8.unset {col:Addr->Nat} {ρ:List Sl} {σ:St} {P:List Pe} {H:Hp} {j:Nat} {s:Sl} {v:Option V} (r:D8 C col (ρ.set j s) (σ.set j v) P H) (hj:ρ[j]?=some .no) (hl:ρ.length=σ.length):D8 C col ρ σ P H:=by
 refine { r with sl:=fun i s' e=>?_,len:=hl }
 by_cases c:j=i
 ·subst c
  rw[hj] at e
  cases e
  trivial
 ·have:=r.sl i s' (by rw[U6 c];exact e)
  rw[U6 c] at this
  exact this
theorem C7d {σ:St} {n j:Nat} {x:V} (h1:n=σ.length):(O7 n j σ).set j (some x)=σ.set j (some x):=by
 subst h1
 unfold O7
 rw[List.take_append_of_le_length (F3 _),A64,List.set_set]
theorem C7e {it:DF} {tt:DT} {te:DE} {n j:Nat} {σ:St} {H:Hp} {Q:VK} (h:fOf C (B4n n j it tt te) σ H Q):A1t (iOf C it) n j (fun _=>cOf C tt) (fun _=>eOf C te) σ H Q:=by
 obtain⟨ρ,P,Qd,R,ht,k⟩:=h
 refine⟨ρ,P,_,R,ht,fun xs ρ1 P1 H1 J R1 s1 io q=>?_⟩
 obtain⟨⟨hn,hj,hx⟩,q⟩:=q
 have lz:∀m,m<=1000->m<=sizeLine:=fun m hm=>A4l (A7e hm)
 refine⟨fun i m ys H'=>m=xs.length - i/\i<=xs.length/\ys.length<=i/\∃acc,Rel C ρ1 σ (.s ys acc::P1) H'/\A86 j tt te ρ1 (fun ds=>Qd ds ρ1) (xs.drop i) acc,⟨xs.length,by simp,M6 _,F3 _,[],?_,q⟩,?_⟩
 ·obtain⟨col,r⟩:=R1
  exact⟨col,r.add (x:=.s [] []) .nil⟩
 rintro i m ys H2 ⟨rfl,hi,hy,acc,R2,q2⟩
 refine⟨lz _ (by lia),?_⟩
 have sub2:∀p∈P1,p∈Pe.s ys acc::P1:=fun _ h=>B6 _ h
 have hlen:ρ1.length=σ.length:=by obtain⟨col,r⟩:=R2;exact r.len
 by_cases hlt:i < xs.length
 ·rw[A4o hlt] at q2
  refine .inr ⟨io.go sub2 R2 hlt,fun ys' H'=>ys'.length<=i + 1/\∃acc,Rel C ρ1 σ (.s ys' acc::P1) H'/\A86 j tt te ρ1 (fun ds=>Qd ds ρ1) (xs.drop (i + 1)) acc,fun ys' H' hh=>⟨xs.length - (i + 1),by lia,rfl,hlt,hh.1,hh.2⟩,fun x H3 y a=>?_⟩
  have R3:Rel C (ρ1.set j (.sh xs[i])) (σ.set j (some x)) (.s ys acc::P1) H3:=by
   obtain⟨col,r⟩:=io.yld sub2 R2 (K3 hlt) y
   exact⟨col,(r.store (i:=j) (r.pd _ C0)).sub fun _ h=>B6 _ h⟩
  rw[C7d (by rw[<-hlen,hn])]
  refine⟨_,_,_,R3,q2,fun b ρ' H4 R4 q4=>?_⟩
  obtain⟨rfl,q4⟩:=q4
  cases b with
  | true=>
   refine J0 ⟨_,_,_,R4,by simpa using q4,fun v d ρ'' H5 R5 q5=>?_⟩
   obtain⟨rfl,q5⟩:=q5
   refine⟨by rw[M4];simp;lia,acc++[d],?_,q5⟩
   obtain⟨col,r⟩:=R5
   have t1:ThV (Z col) H5 v d:=r.pd _ C0
   have t2:A9 (Z col) H5 ys acc:=r.pd _ (B6 _ C0)
   exact⟨col,((r.unset hj hlen).sub fun _ h=>B6 _ (B6 _ h)).add (x:=.s (ys++[v]) (acc++[d])) (t2.snoc t1)⟩
  | false=>
   refine G6 ⟨by lia,acc,?_,by simpa using q4⟩
   obtain⟨col,r⟩:=R4
   exact⟨col,r.unset hj hlen⟩
 ·have e:i=xs.length:=by lia
  subst e
  rw[B2l] at q2
  refine .inl ⟨io.stop sub2 R2,fun p hp=>k _ _ _ _ _ ?_ hp q2⟩
  obtain⟨col,r⟩:=R2
  exact⟨col,r.sub fun p hp=>B6 _ (s1 p hp),r.pd _ C0⟩
variable {st:Stmt} {te:DE}
end
section
variable {X:Cx} {C:DC} {st:Stmt} {te:DE} {tg e:Expr} {u:DF}
end
section
variable {C:DC}
section
variable {X:Cx} {st:Stmt} {ta:DF}
def C0m (i j k:Nat) (ta:DF) (D:K2) (ρ:List Sl):Prop:=ta ρ fun ds ρ'=>match ds with
 | [a,b,c]=>D.nx (((ρ'.set i (.sh a)).set j (.sh b)).set k (.sh c))
 | _=>False
theorem C7f {i j l:Nat} (hp:PS X st (B8w i j l (vOf C ta))):PS X st (sOf C (C0m i j l ta)):=PS.wk hp fun _ _ _ zz=>el3 zz fun ρ P _ R ht E=>⟨ρ,P,_,R,ht,fun vs ds ρ' P' H' zr s p q=>by
 obtain⟨col,r⟩:=zr
 have t:=p.th r
 split at q
 ·cases t with
  | cons t1 t=>
   obtain⟨y,z,rfl,t2,t3⟩:=S9 t
   exact⟨_,y,z,rfl,E.nx _ _ _ ⟨col,((((r.store (i:=i) t1).store (i:=j) t2).store (i:=l) t3).sub s)⟩ q⟩
 ·exact q.elim⟩
def C0n (n j:Nat) (it:DF) (tt:DT) (te:DE) (ρ:List Sl) (Q:List PyData->List Sl->Prop):Prop:=B4n n j it tt te (ρ.set j .no) Q
theorem Rel.forget {ρ:List Sl} {σ:St} {P:List Pe} {H:Hp} {j:Nat} (r:Rel C ρ σ P H):Rel C (ρ.set j .no) σ P H:=by
 obtain⟨col,r⟩:=r
 refine⟨col,{ r with sl:=fun i s e=>?_,len:=by rw[O3];exact r.len }⟩
 by_cases c:j=i
 ·subst c
  rw[n9] at e
  simp only[if_true] at e
  split at e
  ·cases e;trivial
  ·cases e
 ·rw[U6 c] at e
  exact r.sl i s e
theorem C7g {e:Expr} {n j:Nat} {it:DF} {tt:DT} {te:DE} (h:PE X e (A1t (iOf C it) n j (fun _=>cOf C tt) (fun _=>eOf C te))):PE X e (fOf C (C0n n j it tt te)):=PE.wk h fun _ _ _ ⟨_,P,Qd,R,ht,k⟩=>C7e ⟨_,P,Qd,R.forget,ht,k⟩
variable {a b:Expr} {te:DE} {pos:Pos}
end
end
section
variable {X:Cx} {C:DC} {st:Stmt} {te:DE}
def A2h (f:Int->Int->Int) (i:Nat) (te:DE) (D:K2) (ρ:List Sl):Prop:=match ρ[i]? with
 | some (.sh (.int x))=>te ρ fun d ρ'=>match d with
  | .int y=>D.nx (ρ'.set i (.sh (.int (f x y))))
  | _=>False
 | _=>False
theorem C7h {f:Int->Int->Int} {i:Nat} (hp:PS X st (B7w i (eOf C te) (ipI f))):PS X st (sOf C (A2h f i te)):=PS.wk hp fun _ _ _ zz=>el3 zz fun ρ P _ R ht E=>R.elim fun col r=>by
 unfold A2h at ht
 split at ht
 ·rename_i x e
  obtain⟨v,e1,t⟩:=r.sl i _ e
  cases (show ThV (Z col) _ v (.int x) from t)
  refine⟨_,L4 e1,ρ,P,_,⟨col,r⟩,ht,fun v d ρ' H' R' q=>?_⟩
  split at q
  ·obtain⟨col',r'⟩:=R'
   have t':=r'.pd _ C0
   cases (show ThV (Z col') H' v (.int _) from t')
   exact⟨_,_,rfl,rfl,E.nx _ _ _ ⟨col',((r'.store (i:=i) (d:=.int (f x _)) (.int _)).sub fun _ h=>B6 _ h)⟩ q⟩
  ·exact q.elim
 ·exact ht.elim
end
section
variable {C:DC}
def A38:G2:=gI A69 fun i j=>.int (i * 2 ^ j.toNat)
def A39:G2:=gI0 fun i j=>.int (Builtin.bitAnd i j)
theorem B4o:R7 C (rI A69 (fun i j=>.int (i * 2 ^ j.toNat))) A38:=A8x (f:=fun i j=>.int (i * 2 ^ j.toNat)) fun _ _ _ _=>.int _
theorem A7r:R7 C (rI0 (fun i j=>.int (Builtin.bitAnd i j))) A39:=A41 (f:=fun i j=>.int (Builtin.bitAnd i j)) fun _ _ _ _=>.int _
end
section
variable {X:Cx} {C:DC}
def gT4 (i j k l:Nat)  (d:PyData) (ρ:List Sl) (Q:List Sl->Prop):Prop:=match d with
 | .tuple [a,b,c,e]=>Q ((((ρ.set i (.sh a)).set j (.sh b)).set k (.sh c)).set l (.sh e))
 | _=>False
theorem C0o {tg:Expr} {i j l m:Nat} {K:B3} (h:PG X tg (A67 K 4 (X5 (R6 i) (X5 (R6 j) (X5 (R6 l) (X5 (R6 m) A4s)))))):PG X tg (gOf C (gT4 i j l m)):=PG.wk h fun v σ H Q ⟨ρ,P,d,Qd,⟨col,r⟩,ht,k⟩=>by
 unfold gT4 at ht
 split at ht
 ·rename_i a b c x
  have z:ThV (Z col) H v (.tuple [a,b,c,x]):=r.pd _ C0
  cases z with
  | tup za e t=>
   cases t with
   | cons t1 t=>
    cases t with
    | cons t2 t=>
     obtain⟨y,z,rfl,t3,t4⟩:=S9 t
     exact⟨_,_,rfl,SqT.of e,rfl,_,_,rfl,_,_,rfl,y,[z],rfl,z,[],rfl,rfl,k _ _ ⟨col,(((((r.store (i:=i) t1).store (i:=j) t2).store (i:=l) t3).store (i:=m) t4).sub fun _ h=>B6 _ h)⟩ ht⟩
 ·exact ht.elim
end
section
variable {C:DC}
end
section
variable {X:Cx} {C:DC} {st:Stmt} {te:DE}
end
section
variable {C:DC}
def gOr:G2:=gI0 fun i j=>.int (Builtin.bitOr i j)
theorem B0x:R7 C (rI0 (fun i j=>.int (Builtin.bitOr i j))) gOr:=A41 (f:=fun i j=>.int (Builtin.bitOr i j)) fun _ _ _ _=>.int _
end
def L6:List Sl->Bool
 | []=>true
 | .b2 _::_=>false
 | .no::r=>L6 r
 | .sh _::r=>L6 r
 | .ow _::r=>L6 r
 | .bo _::r=>L6 r
 | .hd::r=>L6 r
 | .o2 _::r=>L6 r
 | .di _ _::r=>L6 r
 | .dm _ _::r=>L6 r
 | .bd _::r=>L6 r
 | .ot _::_=>false
 | .ob _::r=>L6 r
theorem l9:∀{ρ:List Sl} {j:Nat} {d:List (List PyData)},L6 ρ=true->ρ[j]?=some (.b2 d)->False
 | [],_,_,_,e=>by cases e
 | s::r,0,d,h,e=>by cases e;cases h
 | s::r,j + 1,d,h,e=>by
  have e:r[j]?=some (.b2 d):=e
  cases s with
  | b2 _=>cases h
  | no=>exact l9 (show L6 r=true from h) e
  | sh _=>exact l9 (show L6 r=true from h) e
  | ow _=>exact l9 (show L6 r=true from h) e
  | bo _=>exact l9 (show L6 r=true from h) e
  | hd=>exact l9 (show L6 r=true from h) e
  | o2 _=>exact l9 (show L6 r=true from h) e
  | di _ _=>exact l9 (show L6 r=true from h) e
  | dm _ _=>exact l9 (show L6 r=true from h) e
  | bd _=>exact l9 (show L6 r=true from h) e
  | ot _=>cases h
  | ob _=>exact l9 (show L6 r=true from h) e
theorem m5:∀{ρ:List Sl} {j:Nat} {d:PyData},L6 ρ=true->ρ[j]?=some (.ot d)->False
 | [],_,_,_,e=>by cases e
 | s::r,0,d,h,e=>by cases e;cases h
 | s::r,j + 1,d,h,e=>by
  have e:r[j]?=some (.ot d):=e
  cases s with
  | b2 _=>cases h
  | no=>exact m5 (show L6 r=true from h) e
  | sh _=>exact m5 (show L6 r=true from h) e
  | ow _=>exact m5 (show L6 r=true from h) e
  | bo _=>exact m5 (show L6 r=true from h) e
  | hd=>exact m5 (show L6 r=true from h) e
  | o2 _=>exact m5 (show L6 r=true from h) e
  | di _ _=>exact m5 (show L6 r=true from h) e
  | dm _ _=>exact m5 (show L6 r=true from h) e
  | bd _=>exact m5 (show L6 r=true from h) e
  | ot _=>cases h
  | ob _=>exact m5 (show L6 r=true from h) e
def A5s (C:DC) (a:Addr) (o:HO):DC:=⟨fun b=>C.F b/\b≠a,C.hand,fun b=>if b=a then some o else C.H0 b⟩
section
variable {C:DC} {col col2:Addr->Nat} {ρ:List Sl} {σ:St} {P:List Pe} {H H2:Hp} {i:Nat} {ds:List PyData} {a:Addr} {vs:List V}
theorem D8.lend (r:D8 C col ρ σ P H) (hn:L6 ρ=true) (e1:(σ[i]?).join=some (.ref a)) (ca:col a=2 * i + 3) (n:C.H0 a=none) (e2:H a=some (.lst vs)) (t:A9 (Z col) H vs ds) :
  D8 (A5s C a (.lst vs)) (fun b=>if b=a then 1 else col b) (ρ.set i (.bo ds)) σ P H:=by
 have cn:∀b,b≠a->(if b=a then 1 else col b)=col b:=fun b hb=>if_neg hb
 have nz:∀b,col b<=1->b≠a:=fun b hb q=>by rw[q] at hb;omega
 have mv0:∀b o,Z col b->H b=some o->Z (fun b=>if b=a then 1 else col b) b/\H b=some o:=fun b o z e=>⟨by show (if b=a then 1 else col b)=0;rw[cn b (nz b (by rw[show col b=0 from z];omega))];exact z,e⟩
 have h0:∀b,b≠a->(A5s C a (.lst vs)).H0 b=C.H0 b:=fun b hb=>if_neg hb
 have nh:∀q,C.hand=some q->a≠q.1:=r.notH (by omega)
 refine⟨fun b hb=>?_,fun b hb=>?_,fun q hq=>?_,fun j s es=>?_,fun p hp=>?_,fun b o eb nb=>?_,r.hq,fun q hq=>?_,⟨fun b hb=>?_,fun b xs hb=>?_⟩,by rw[O3];exact r.len⟩
 ·have:b≠a:=fun q=>by rw[q,e2] at hb;cases hb
  show (if b=a then 1 else col b)=0
  rw[cn b this];exact r.fresh b hb
 ·have hb:(if b=a then 1 else col b)=0:=hb
  have:b≠a:=fun q=>by rw[if_pos q] at hb;cases hb
  rw[cn b this] at hb
  exact⟨r.inF b hb,this⟩
 ·show (if q.1=a then 1 else col q.1)=1
  rw[cn _ (fun z=>nh q hq z.symm)];exact r.hnd q hq
 ·by_cases hj:j=i
  ·subst hj
   rw[n9] at es
   simp only[if_true] at es
   split at es
   ·cases es
    exact⟨a,vs,e1,by show (if a=a then 1 else col a)<=1;rw[if_pos rfl];exact F3 _,nh,e2,t.mv mv0⟩
   ·cases es
  ·rw[U6 (Ne.symm hj)] at es
   have h:=r.sl j s es
   cases s with
   | no=>trivial
   | sh d=>obtain⟨v,g1,t⟩:=h;exact⟨v,g1,t.mv mv0⟩
   | ow ds=>obtain⟨b,us,g1,c,n',g2,t⟩:=h;have nb:b≠a:=(fun q=>by rw[q] at c;omega);exact⟨b,us,g1,by show (if b=a then 1 else col b)=_;rw[cn b nb];exact c,by rw[h0 b nb];exact n',g2,t.mv mv0⟩
   | bo ds=>obtain⟨b,us,g1,c,n',g2,t⟩:=h;have nb:=nz b c;exact⟨b,us,g1,by show (if b=a then 1 else col b)<=1;rw[cn b nb];exact c,n',g2,t.mv mv0⟩
   | hd=>exact h
   | o2 dss=>obtain⟨b,us,g1,c,g2,nd,t⟩:=h;have nb:b≠a:=(fun q=>by rw[q] at c;have:=c.1;omega);exact⟨b,us,g1,⟨by show (if b=a then 1 else col b)=_;rw[cn b nb];exact c.1,by rw[h0 b nb];exact c.2⟩,g2,nd,t.mv mv0 fun b' o g e=>⟨(by have nb':b'≠a:=(fun q=>by rw[q] at g;have:=g.1;omega);exact⟨by show (if b'=a then 1 else col b')=_;rw[cn b' nb'];exact g.1,by rw[h0 b' nb'];exact g.2⟩),e⟩⟩
   | b2 dss=>exact (l9 hn es).elim
   | bd d=>obtain⟨v,g1,t⟩:=h;exact⟨v,g1,t.mv fun b o g e=>(by have nb:b≠a:=(fun q=>g.1 (by rw[q];exact n));exact⟨⟨by rw[h0 b nb];exact g.1,g.2⟩,by rw[h0 b nb];exact e⟩)⟩
   | ot d=>exact (m5 hn es).elim
   | ob R=>obtain⟨v,g1,t⟩:=h;exact⟨v,g1,R.mv (fun b o g e=>⟨g.imp (fun g=>(by have nb:b≠a:=(fun q=>by have:=g.1;rw[q] at this;omega);exact⟨by show (if b=a then 1 else col b)=_;rw[cn b nb];exact g.1,by rw[h0 b nb];exact g.2⟩)) fun g=>⟨(mv0 b o g.1 e).1,g.2⟩,e⟩) t⟩
   | di f ks=>obtain⟨b,g1,c,n',g2⟩:=h;have nb:b≠a:=(fun q=>by rw[q] at c;omega);exact⟨b,g1,by show (if b=a then 1 else col b)=_;rw[cn b nb];exact c,by rw[h0 b nb];exact n',g2⟩
   | dm f ks=>obtain⟨b,g1,c,n',g2⟩:=h;have nb:b≠a:=(fun q=>by rw[q] at c;omega);exact⟨b,g1,by show (if b=a then 1 else col b)=_;rw[cn b nb];exact c,by rw[h0 b nb];exact n',g2⟩
 ·have h:=r.pd p hp
  cases p with
  | v v d=>exact ThV.mv mv0 h
  | n b o=>exact⟨by show (if b=a then 1 else col b)<=1;rw[cn b (nz b h.1)];exact h.1,h.2⟩
  | s vs ds=>exact A9.mv mv0 h
  | o c as dss=>exact⟨h.1,h.2.mv mv0 fun b' o g e=>⟨(by have nb':b'≠a:=(fun q=>by rw[q] at g;have:=g.1;omega);exact⟨by show (if b'=a then 1 else col b')=_;rw[cn b' nb'];exact g.1,by rw[h0 b' nb'];exact g.2⟩),e⟩⟩
  | w v d=>exact ThV.mv (fun b o g e=>(by have nb:b≠a:=(fun q=>g.1 (by rw[q];exact n));exact⟨⟨by rw[h0 b nb];exact g.1,g.2⟩,by rw[h0 b nb];exact e⟩)) h
 ·by_cases q:b=a
  ·subst q
   have eb:(if b=b then some (HO.lst vs) else C.H0 b)=some o:=eb
   rw[if_pos rfl] at eb
   rw[<-eb];exact e2
  ·rw[h0 b q] at eb
   exact r.kq b o eb nb
 ·obtain⟨ns,p,b,c,u,v,hl,hp,ha⟩:=r.hq0 q hq
  exact⟨ns,p,b,c,u,v,by rw[h0 _ (fun z=>by rw[z,n] at hl;cases hl)];exact hl,hp,by rw[h0 _ (fun z=>by rw[z,n] at ha;cases ha)];exact ha⟩
 ·have hb:(if b=a then some (HO.lst vs) else C.H0 b)=none:=hb
  have:b≠a:=fun q=>by rw[if_pos q] at hb;cases hb
  rw[if_neg this] at hb
  exact⟨r.nf.1 b hb,this⟩
 ·have hb:(if b=a then some (HO.lst vs) else C.H0 b)=some (.tup xs):=hb
  have:b≠a:=fun q=>by rw[if_pos q] at hb;cases hb
  rw[if_neg this] at hb
  exact⟨r.nf.2 b xs hb,this⟩
theorem D8.back (r:D8 C col ρ σ P H) (hn:L6 ρ=true) (e:ρ[i]?=some (.ow ds)) (e1:(σ[i]?).join=some (.ref a)) (ca:col a=2 * i + 3) (n:C.H0 a=none) (r2:D8 (A5s C a (.lst vs)) col2 (ρ.set i (.bo ds)) σ P H2) :
  D8 C (fun b=>if b=a then 2 * i + 3 else col2 b) ρ σ P H2/\∀b,col2 b=0->(if b=a then 2 * i + 3 else col2 b)=0:=by
 have hi:i < ρ.length:=by
  rcases A0v i ρ.length with z | z
  ·exact z
  ·rw[f9 z] at e;cases e
 obtain⟨a',us,g1,c1,g2,g3,tl⟩:=r2.sl i (.bo ds) (by rw[B63 hi])
 rw[e1] at g1
 cases g1
 have c2:col2 a=1:=by
  rcases Nat.eq_zero_or_pos (col2 a) with z | z
  ·exact absurd rfl (r2.inF a z).2
  ·omega
 have cn:∀b,b≠a->(if b=a then 2 * i + 3 else col2 b)=col2 b:=fun b hb=>if_neg hb
 have h0:∀b,b≠a->(A5s C a (.lst vs)).H0 b=C.H0 b:=fun b hb=>if_neg hb
 have z0:∀b,col2 b=0->(if b=a then 2 * i + 3 else col2 b)=0:=fun b hb=>by
  rw[cn b (fun q=>by rw[q,c2] at hb;cases hb)];exact hb
 have mv0:∀b o,Z col2 b->H2 b=some o->Z (fun b=>if b=a then 2 * i + 3 else col2 b) b/\H2 b=some o:=fun b o z e=>⟨z0 b z,e⟩
 have nh:∀q,C.hand=some q->a≠q.1:=r.notH (by omega)
 have ng:∀b c,(A5s C a (.lst vs)).H0 b=none->C.H0 b=none\/c:=fun b c hb=>by
  by_cases q:b=a
  ·have hb:(if b=a then some (HO.lst vs) else C.H0 b)=none:=hb
   rw[if_pos q] at hb;cases hb
  ·rw[h0 b q] at hb;exact .inl hb
 have hz:∀b,(A5s C a (.lst vs)).H0 b=none->C.H0 b=none:=fun b hb=>by
  rcases ng b False hb with z | z
  ·exact z
  ·exact z.elim
 refine⟨⟨fun b hb=>z0 b (r2.fresh b hb),fun b hb=>?_,fun q hq=>?_,fun j s es=>?_,fun p hp=>?_,fun b o eb nb=>?_,r2.hq,r.hq0,r.nf,r.len⟩,z0⟩
 ·have hb:(if b=a then 2 * i + 3 else col2 b)=0:=hb
  have:b≠a:=fun q=>by rw[if_pos q] at hb;omega
  rw[cn b this] at hb
  exact (r2.inF b hb).1
 ·show (if q.1=a then 2 * i + 3 else col2 q.1)=1
  rw[cn _ (fun z=>nh q hq z.symm)];exact r2.hnd q hq
 ·by_cases hj:j=i
  ·subst hj
   rw[e] at es
   cases es
   exact⟨a,us,e1,by show (if a=a then 2 * j + 3 else col2 a)=_;rw[if_pos rfl],n,g3,tl.mv mv0⟩
  ·have es2:(ρ.set i (.bo ds))[j]?=some s:=by rw[U6 (Ne.symm hj)];exact es
   have h:=r2.sl j s es2
   have hr:=r.sl j s es
   cases s with
   | no=>trivial
   | sh d=>obtain⟨v,k1,t⟩:=h;exact⟨v,k1,t.mv mv0⟩
   | ow ds'=>obtain⟨b,us',k1,c,n',k2,t⟩:=h;have nb:b≠a:=(fun q=>by rw[q,c2] at c;omega);exact⟨b,us',k1,by show (if b=a then 2 * i + 3 else col2 b)=_;rw[cn b nb];exact c,hz b n',k2,t.mv mv0⟩
   | bo ds'=>
    obtain⟨b,us',k1,c,n',k2,t⟩:=h
    obtain⟨b',_,k1',c',_⟩:=hr
    rw[k1] at k1'
    cases k1'
    have nb:b≠a:=(fun q=>by rw[q,ca] at c';omega)
    exact⟨b,us',k1,by show (if b=a then 2 * i + 3 else col2 b)<=1;rw[cn b nb];exact c,n',k2,t.mv mv0⟩
   | hd=>exact h
   | o2 dss=>obtain⟨b,us',k1,c,k2,nd,t⟩:=h;have nb:b≠a:=(fun q=>by rw[q,c2] at c;have:=c.1;omega);exact⟨b,us',k1,⟨by show (if b=a then 2 * i + 3 else col2 b)=_;rw[cn b nb];exact c.1,hz b c.2⟩,k2,nd,t.mv mv0 fun b' o g e=>⟨(by have nb':b'≠a:=(fun q=>by rw[q,c2] at g;have:=g.1;omega);exact⟨by show (if b'=a then 2 * i + 3 else col2 b')=_;rw[cn b' nb'];exact g.1,hz b' g.2⟩),e⟩⟩
   | b2 dss=>exact (l9 hn es).elim
   | bd d=>exact hr
   | ot d=>exact (m5 hn es).elim
   | ob R=>obtain⟨v,k1,t⟩:=h;exact⟨v,k1,R.mv (fun b o g e=>⟨g.imp (fun g=>(by have nb:b≠a:=(fun q=>by have:=g.1;rw[q,c2] at this;omega);exact⟨by show (if b=a then 2 * i + 3 else col2 b)=_;rw[cn b nb];exact g.1,hz b g.2⟩)) fun g=>⟨(mv0 b o g.1 e).1,g.2⟩,e⟩) t⟩
   | di f ks=>obtain⟨b,k1,c,n',k2⟩:=h;have nb:b≠a:=(fun q=>by rw[q,c2] at c;omega);exact⟨b,k1,by show (if b=a then 2 * i + 3 else col2 b)=_;rw[cn b nb];exact c,hz b n',k2⟩
   | dm f ks=>obtain⟨b,k1,c,n',k2⟩:=h;have nb:b≠a:=(fun q=>by rw[q,c2] at c;omega);exact⟨b,k1,by show (if b=a then 2 * i + 3 else col2 b)=_;rw[cn b nb];exact c,hz b n',k2⟩
 ·have h:=r2.pd p hp
  have hr:=r.pd p hp
  cases p with
  | v v d=>exact ThV.mv mv0 h
  | n b o=>have nb:b≠a:=(fun q=>by have:=hr.1;rw[q,ca] at this;omega);exact⟨by show (if b=a then 2 * i + 3 else col2 b)<=1;rw[cn b nb];exact h.1,h.2⟩
  | s vs ds=>exact A9.mv mv0 h
  | o c as dss=>exact⟨h.1,h.2.mv mv0 fun b' o g e=>⟨(by have nb':b'≠a:=(fun q=>by rw[q,c2] at g;have:=g.1;omega);exact⟨by show (if b'=a then 2 * i + 3 else col2 b')=_;rw[cn b' nb'];exact g.1,hz b' g.2⟩),e⟩⟩
  | w v d=>exact hr
 ·have nb':b≠a:=fun q=>by rw[q,n] at eb;cases eb
  exact r2.kq b o (by rw[h0 b nb'];exact eb) nb
variable {X:Cx} {e:Expr}
def B4p (i j:Nat) (tt:DT) (te:DE)  (ρ:List Sl) (Q:List PyData->List Sl->Prop):Prop:=match ρ[i]? with
 | some (.ow ds)=>(L6 ρ=true/\ρ.length=j/\ds.length<=1000)/\A0g tt te (ρ.set i (.bo ds)) (fun out=>Q out ρ) ds []
 | _=>False
theorem C7i {i j:Nat} {tt:DT} {te:DE} (h:∀C,PE X e (fOf C (j4 j (dIv i) tt te))):PE X e (fOf C (B4p i j tt te)):=fun pins s σ H Q I q=>by
 obtain⟨ρ,P,Qd,⟨col,r⟩,ht,k⟩:=q
 unfold B4p at ht
 split at ht
 ·rename_i ds es
  obtain⟨⟨hn,hl,h3⟩,ht⟩:=ht
  obtain⟨a,vs,e1,ca,n,e2,t⟩:=r.sl i _ es
  have hi:i < ρ.length:=by
   rcases A0v i ρ.length with z | z
   ·exact z
   ·rw[f9 z] at es;cases es
  refine h (A5s C a (.lst vs)) pins s σ H Q I ⟨ρ.set i (.bo ds),P,fun out ρ2=>ρ2=ρ.set i (.bo ds)/\Qd out ρ,⟨_,r.lend hn e1 ca n e2 t⟩,?_,?_⟩
  ·unfold j4 dIv
   rw[B63 hi]
   refine⟨⟨by rw[O3];exact hl,h3⟩,?_⟩
   have eq:(fun out=>(ρ.set i (.bo ds)=ρ.set i (.bo ds)/\Qd out ρ))=fun out=>Qd out ρ:=funext fun out=>propext ⟨And.right,fun z=>⟨rfl,z⟩⟩
   show A0g tt te (ρ.set i (.bo ds)) (fun out=>(ρ.set i (.bo ds)=ρ.set i (.bo ds)/\Qd out ρ)) ds []
   rw[eq]
   exact ht
  ·rintro p us ds' ρ2 H1 ⟨col2,r2,t2⟩ hp ⟨rfl,z⟩
   obtain⟨r3,z0⟩:=r.back (vs:=vs) hn es e1 ca n r2
   exact k p us ds' ρ H1 ⟨_,r3,t2.mv fun b o zz eb=>⟨z0 b zz,eb⟩⟩ hp z
 ·exact ht.elim
end
end My
namespace L2
open PySem PySem.Spec PyProof.Rows
section
variable {κ:Type} [DecidableEq κ]
end
section
variable {P:Program} {w:World} {H:Hp} {h:Heap} {a:Addr}
end
section
variable {X:Cx} {pins:List (Addr×Obj)} {σ:St} {H:Hp} {s:Shared} {a:Addr} {y v:V} {u r:Value} {o:Option V} {A:Around} {E:Value->Shared->Prop}
end
section
variable {X:Cx} {pins:List (Addr×Obj)} {σ:St} {H:Hp} {s:Shared} {a:Addr} {kvs:List (Key×V)} {k:Key} {u:Value} {A:Around} {E:Value->Shared->Prop}
end
section
variable {X:Cx} {o i e value:Expr} {pos pos' tpos:Pos} {td ty tv:TE}
end
section
variable {X:Cx} {pos:Pos}
end
section
variable {X:Cx} {pins:List (Addr×Obj)} {σ:St} {H:Hp} {s:Shared} {a:Addr} {y d:V} {u r:Value} {o:Option V} {A:Around} {E:Value->Shared->Prop}
end
section
variable {X:Cx} {o e f:Expr} {apos cpos:Pos} {td ty tx:TE}
end
section
variable {X:Cx} {pins:List (Addr×Obj)} {σ:St} {H:Hp} {s:Shared} {a:Addr} {kvs:List (Key×V)} {A:Around} {E:Value->Shared->Prop}
end
section
variable {X:Cx} {pins:List (Addr×Obj)} {σ:St} {H:Hp} {s:Shared} {a:Addr} {y:V} {u:Value} {A:Around} {E:Value->Shared->Prop}
end
section
variable {prog:Program} {w:World} {A:Around} {E:Value->Shared->Prop} {s:Shared}
end
end L2
namespace My
open PySem L2
def C0p:PyData->Option (List Int)
 | .tuple xs=>A19 xs
 | _=>none
def C7j (ks:List (List Int)) (k:List Int):List (List Int):=if ks.contains k=true then ks else ks++[k]
section
variable {C:DC} {col:Addr->Nat} {ρ:List Sl} {σ:St} {P:List Pe} {H H':Hp} {p:Addr}
end
def C0q (F:Addr->Prop) (H H':Hp) (v:V):Sl->Prop
 | .ow ds=>∃a vs,v=.ref a/\H a=none/\H' a=some (.lst vs)/\A9 (fun b=>F b/\b≠a) H' vs ds
 | .di false ks=>∃a,v=.ref a/\H a=none/\H' a=some (.dT (dEn ks))
 | _=>False
abbrev A7s:=List PyData->(Sl->Prop)->Prop
def B4q (ms:List Md) (sp:A7s):Sp:=fun vs H Q _=>∃F hand ds Qd,((∀b,H b=none->F b)/\∀b xs,H b=some (.tup xs)->F b)/\(∀q,hand=some q->¬ F q.1)/\Hq hand H/\U3 F hand H ms vs ds/\sp ds Qd/\
 ∀s v H',Qd s->C0q F H H' v s->Kq hand H H'->Hq hand H'->Q v H'
open PySem.Spec PyProof.Rows
section
variable {P:Program} {w:World} {K:B3} {mg:Str->Option Value} {base:Heap}
def roN (Q:Sl->Prop):Sl->Prop
 | .ow ds=>Q (.ow ds)
 | .di false ks=>Q (.di false ks)
 | _=>False
open Classical in
theorem C7k {x qual:Str} {st:Stmt} {f:Addr} {fd:FuncData} {N ps:List Str} {k:Nat} {sp:A7s} {ms:List Md} (F:Fun K x qual st f fd) (S:E1 N ps (C2 st)) (hm:ms.length=ps.length)
  (hb:∀(C:DC) (cdv:Value) (A:Around) (outer:List Env) (s:Shared) (H:Hp) (E:XK),U2 k (A.deeper (envOfC qual (C2 st) s.heap.objs.size f cdv))->
   ∃t,PSs (X8 CX0 P w K mg base N qual (C2 st) f cdv A outer s H E).nox (A0y st) (sOf C t)/\∀ds Q,ds.length=ms.length->sp ds Q->t { nx:=fun _=>False,rt:=fun _=>False,ro:=roN Q } (c5 N ms ds)) :
  D0 P w K mg base CX0 (k + 1) f fd ps (B4q ms sp):=by
 refine F.ok S (fun vs H Q E h=>?_) (fun cdv A outer s H vs Q E hr h=>?_)
 ·obtain⟨_,_,_,_,_,_,_,a,_⟩:=h
  rw[a.len.1,hm]
 ·obtain⟨G,hand,ds,Qd,h1,h2,h3,a,h4,h5⟩:=h
  obtain⟨t,ht,q⟩:=hb ⟨G,hand,H⟩ cdv A outer s H E hr
  have hN:ps.length<=N.length:=by have:=congrArg A2o S.pre;rw[e9] at this;lia
  let col:Addr->Nat:=fun b=>if G b then 0 else 1
  have c0:∀b,G b->col b=0:=fun b hb=>if_pos hb
  have c1:∀b,¬ G b->col b=1:=fun b hb=>if_neg hb
  have lo:∀b,col b<=1:=fun b=>by
   by_cases z:G b
   ·rw[c0 b z];lia
   ·rw[c1 b z];lia
  refine⟨_,ht,A18 N.length ms ds,[],⟨fun _=>False,fun _=>False,fun _=>False,fun _=>False,roN Qd⟩,⟨col,fun b hb=>c0 b (h1.1 b hb),fun b hb=>?_,fun q hq=>c1 _ (h2 q hq),fun i s e=>B9w (C:=⟨G,hand,H⟩) rfl rfl c0 lo a i s e i,fun p hp=>(nomatch hp),Kq.refl,h3,h3,h1,?_⟩,by rw[<-B38 (by lia) a.len.2];exact q ds Qd a.len.2 h4,⟨fun _ _ _ _ h=>h.elim,fun _ _ _ _ _ _ h=>h.elim,fun _ _ _ _ h=>h.elim,fun _ _ _ _ h=>h.elim,fun v s ρ σ H' col' r nw h=>?_⟩⟩
  ·by_cases z:G b
   ·exact z
   ·rw[c1 b z] at hb;cases hb
  ·rw[B9x a (by lia)]
   unfold L2.start
   rw[M4,D5,A4m,a.len.1]
   lia
  ·cases s with
   | ow es=>
    obtain⟨a,vs,rfl,n,c,e2,t⟩:=nw
    exact h5 _ _ _ h ⟨a,vs,rfl,n,e2,t.mv fun b o z e=>⟨⟨r.inF b z,fun q=>c (q▸z)⟩,e⟩⟩ r.kq r.hq
   | di f ks=>
    cases f with
    | true=>exact h.elim
    | false=>
     obtain⟨a,rfl,n,e2⟩:=nw
     exact h5 _ _ _ h ⟨a,rfl,n,e2⟩ r.kq r.hq
   | _=>exact h.elim
end
section
variable {X:Cx} {C:DC} {st:Stmt} {e a b:Expr} {te tk:DE} {u:DA} {pos:Pos}
def A5t (i:Nat) (D:K2) (ρ:List Sl):Prop:=D.nx (ρ.set i (.di false []))
def A5u (i:Nat) (tk:DE) (D:K2) (ρ:List Sl):Prop:=match ρ[i]? with
 | some (.di false _)=>tk ρ fun d ρ1=>match ρ1[i]?,C0p d with
  | some (.di false ks),some k=>ks.length < 100000/\D.nx (ρ1.set i (.di false (C7j ks k)))
  | _,_=>False
 | _=>False
def A5v (neg:Bool) (te:DE) (i:Nat) (ρ:List Sl) (Q:PyData->List Sl->Prop):Prop:=te ρ fun d ρ1=>match ρ1[i]?,C0p d with
 | some (.di false ks),some k=>Q (.bool (if neg then !(ks.contains k) else ks.contains k)) ρ1
 | _,_=>False
def A5w (i:Nat) (ms:List Md) (sp:A7s) (u:DA)  (D:K2) (ρ:List Sl):Prop:=u ρ fun as ρ'=>bnd (P7 ρ' ms as) fun ds=>sp ds fun s=>D.nx (ρ'.set i s)
def A5x (ms:List Md) (sp:A7s) (u:DA)  (ρ:List Sl) (Q:List PyData->List Sl->Prop):Prop:=u ρ fun as ρ'=>bnd (P7 ρ' ms as) fun ds=>sp ds fun s=>match s with
 | .di false ks=>Q (ks.map B86) ρ'
 | _=>False
def A5y (i:Nat) (ρ:List Sl) (Q:PyData->List Sl->Prop):Prop:=match ρ[i]? with
 | some (.ow ds)=>bnd (ds[ds.length - 1]?) fun d=>Q d (ρ.set i (.ow ds.dropLast))
 | _=>False
def A5z (i:Nat) (D:K2) (ρ:List Sl):Prop:=match ρ[i]? with
 | some (.ow _)=>D.nx (ρ.set i (.ow []))
 | _=>False
end
end My
namespace My
open PySem L2
mutual
def C7l:PyData->List (List PyData)
 | .list ds=>ds::B4r ds
 | .tuple ds=>B4r ds
 | _=>[]
def B4r:List PyData->List (List PyData)
 | []=>[]
 | d::ds=>C7l d++B4r ds
end
mutual
def szD:PyData->Nat
 | .list ds=>szL ds + 1
 | .tuple ds=>szL ds + 1
 | _=>1
def szL:List PyData->Nat
 | []=>0
 | d::ds=>szD d + szL ds
end
section
variable {X:Cx} {C:DC} {st:Stmt} {u:DA}
variable {a b:Expr} {tb:DE} {pos:Pos}
def D35 (neg:Bool) (i:Nat) (tb:DE)  (ρ:List Sl) (Q:PyData->List Sl->Prop):Prop:=bnd (P3 ρ i) fun _=>tb ρ fun b ρ1=>bnd (P3 ρ1 i) fun a=>gEq neg a b fun d=>Q d ρ1
variable {a b:Expr} {tb:DE} {pos:Pos}
end
end My
namespace L2
open PySem PySem.Spec PyProof.Rows
end L2
namespace My
open PySem L2
open PySem.Spec PyProof.Rows
section
variable {C:DC} {col:Addr->Nat} {ρ:List Sl} {σ:L2.St} {P:List Pe} {H H':Hp} {p:Addr}
end
section
variable {X:Cx} {C:DC} {st:Stmt} {e:Expr} {te:DE} {u:DA} {pos:Pos}
end
end My
namespace My
open PySem L2
section
variable {X:Cx} {C:DC} {st:Stmt} {e:Expr} {ta:DE}
end
end My
namespace My
abbrev Ct:=List (List (Option Int))
abbrev Spt:=Nat×Nat
def ca (t:Ct) (s:Spt):Option Int:=gt (t.getD s.1 []) s.2
open PySem L2
def mnI (a b:Int):Int:=if b < a then b else a
def mxI (a b:Int):Int:=if b > a then b else a
theorem C0r {st:Int} {lo g tp c:Int} (h:EOk st (lo,g,tp)):V1 (some (lo,g,tp)) (W7 st c)=if tp + c < 0 then none else some (mxI lo (-c - g),g + c,mnI st (tp + c)):=by
 obtain⟨h1,h2,h3,h4,h5,h6⟩:=h
 simp only at h1 h2 h3 h4 h5 h6
 unfold W7
 by_cases d:st + c < 0
 ·rw[if_pos d,if_pos (by omega)];rfl
 ·rw[if_neg d]
  by_cases e:tp + c < 0
  ·rw[if_pos e]
   exact A7o (by show tp < (if -c > 0 then -c else 0);split <;> omega)
  ·rw[if_neg e,A5q (by show ¬ tp < (if -c > 0 then -c else 0);split <;> omega)]
   unfold mxI mnI
   simp only[Option.some.injEq,Prod.mk.injEq]
   refine⟨?_,trivial,?_⟩
   ·repeat' split
    all_goals omega
   ·repeat' split
    all_goals omega
def B0y (e:Ef) (n:Int) (o:Option Int):Option Int:=match e,o with
 | some (lo,g,tp),some x=>if x < lo then none else if n > 1/\g ≥ 0/\mnI (x + g) tp < lo then none else
   if g < 0 then (if n > 1/\mnI (x + (n - 1) * g) (tp + (n - 2) * g) < lo then none else some (mnI (x + n * g) (tp + (n - 1) * g))) else some (mnI (x + n * g) tp)
 | _,_=>none
def itN (st:Int) (cs:List Int):Nat->Option Int->Option Int
 | 0,o=>o
 | n + 1,o=>itN st cs n (wkF st o cs)
theorem A7t {st:Int} {cs:List Int}:∀n,itN st cs n none=none
 | 0=>rfl
 | n + 1=>by
  show itN st cs n (wkF st none cs)=none
  rw[A84];exact A7t n
theorem A87 {st:Int} {cs:List Int} {lo g tp x y:Int} (fx:fxF st cs=some (lo,g,tp)) (x0:0<=x) (x1:x<=st) (h:wkF st (some x) cs=some y):lo<=x/\y=mnI (x + g) tp:=by
 have w:=A7p x0 x1 cs
 rw[fx,h] at w
 unfold M0 at w
 dsimp only at w
 split at w
 ·cases w
 ·rename_i c
  refine⟨by omega,?_⟩
  have:=Option.some.inj w
  rw[<-this]
  unfold mnI
  repeat' split
  all_goals omega
theorem C7m {st:Int} {cs:List Int} {x y:Int} (x0:0<=x) (x1:x<=st) (h:wkF st (some x) cs=some y):∃lo g tp,fxF st cs=some (lo,g,tp)/\EOk st (lo,g,tp):=by
 have w:=A7p x0 x1 cs
 have hok:=C0d (st:=st) (by omega) cs
 cases e:fxF st cs with
 | none=>rw[e,h] at w;cases w
 | some r=>
  rw[e] at hok
  exact⟨r.1,r.2.1,r.2.2,rfl,hok⟩
theorem C0s {st:Int} {cs:List Int} {lo g tp:Int} (fx:fxF st cs=some (lo,g,tp)) (ok:EOk st (lo,g,tp)) (g0:0<=g):∀(n:Nat) {x y:Int},0<=x->x<=st->itN st cs (n + 1) (some x)=some y->lo<=x/\(1<=n->lo<=mnI (x + g) tp)/\y=mnI (x + (((n + 1:Nat)):Int) * g) tp
 | 0,x,y,x0,x1,h=>by
  obtain⟨a,b⟩:=A87 fx x0 x1 (show wkF st (some x) cs=some y from h)
  refine⟨a,fun z=>by omega,?_⟩
  rw[b];simp
 | n + 1,x,y,x0,x1,h=>by
  have h':itN st cs (n + 1) (wkF st (some x) cs)=some y:=h
  cases e:wkF st (some x) cs with
  | none=>rw[e,A7t] at h';cases h'
  | some z=>
   rw[e] at h'
   obtain⟨a,b⟩:=A87 fx x0 x1 e
   obtain⟨o1,o2,o3,o4,o5,o6⟩:=ok
   simp only at o1 o2 o3 o4 o5 o6
   have hz:0<=z/\z<=st:=by rw[b];unfold mnI;split <;> omega
   obtain⟨c1,c2,c3⟩:=C0s fx ⟨o1,o2,o3,o4,o5,o6⟩ g0 n hz.1 hz.2 h'
   refine⟨a,fun _=>by rw[<-b];exact c1,?_⟩
   have e1:(((n + 1 + 1:Nat)):Int) * g=(((n + 1:Nat)):Int) * g + g:=by rw[B2n (n + 1) 1,A8e];simp
   have e0:0<=(((n + 1:Nat)):Int) * g:=Int.mul_nonneg (by omega) g0
   rw[c3,b,e1]
   generalize (((n + 1:Nat)):Int) * g=u at *
   unfold mnI
   split <;> split <;> split <;> omega
theorem C0t {st:Int} {cs:List Int} {lo g tp:Int} (fx:fxF st cs=some (lo,g,tp)) (ok:EOk st (lo,g,tp)) (g0:g < 0):∀(n:Nat) {x y:Int},0<=x->x<=st->itN st cs (n + 1) (some x)=some y->lo<=x/\(1<=n->lo<=mnI (x + ((n:Nat):Int) * g) (tp + (((n:Nat):Int) - 1) * g))/\y=mnI (x + (((n + 1:Nat)):Int) * g) (tp + ((n:Nat):Int) * g)
 | 0,x,y,x0,x1,h=>by
  obtain⟨a,b⟩:=A87 fx x0 x1 (show wkF st (some x) cs=some y from h)
  refine⟨a,fun z=>by omega,?_⟩
  rw[b];simp
 | n + 1,x,y,x0,x1,h=>by
  have h':itN st cs (n + 1) (wkF st (some x) cs)=some y:=h
  cases e:wkF st (some x) cs with
  | none=>rw[e,A7t] at h';cases h'
  | some z=>
   rw[e] at h'
   obtain⟨a,b⟩:=A87 fx x0 x1 e
   obtain⟨o1,o2,o3,o4,o5,o6⟩:=ok
   simp only at o1 o2 o3 o4 o5 o6
   have hz:0<=z/\z<=st:=by rw[b];unfold mnI;split <;> omega
   obtain⟨c1,c2,c3⟩:=C0t fx ⟨o1,o2,o3,o4,o5,o6⟩ g0 n hz.1 hz.2 h'
   have e1:(((n + 1 + 1:Nat)):Int) * g=((n:Nat):Int) * g + g + g:=by
    rw[show (((n + 1 + 1:Nat)):Int)=((n:Nat):Int) + 1 + 1 by omega,A8e,A8e];simp
   have e2:(((n + 1:Nat)):Int) * g=((n:Nat):Int) * g + g:=by rw[B2n,A8e];simp
   have e3:(((n:Nat):Int) - 1) * g=((n:Nat):Int) * g - g:=by rw[Int.sub_mul];simp
   have e4:((((n + 1:Nat)):Int) - 1) * g=((n:Nat):Int) * g:=by rw[show (((n + 1:Nat)):Int) - 1=((n:Nat):Int) by omega]
   rw[e2] at c3
   rw[e3] at c2
   rw[e1,e2,e4]
   have hn:1<=n\/n=0:=by omega
   have hm:n=0->((n:Nat):Int) * g=0:=fun q=>by rw[q];simp
   generalize ((n:Nat):Int) * g=u at *
   refine⟨a,fun _=>?_,?_⟩
   ·rcases hn with q | q
    ·have:=c2 q
     rw[b] at this
     unfold mnI at *
     split at this <;> split at this <;> split <;> omega
    ·have:=hm q
     rw[b] at c1
     unfold mnI at *
     split at c1 <;> split <;> omega
   ·rw[c3,b]
    unfold mnI
    split <;> split <;> split <;> omega
theorem C0u {st:Int} {cs:List Int} {n x y:Int} (h0:0<=x) (h1:x<=st) (n1:1<=n) (h:itN st cs n.toNat (some x)=some y):B0y (fxF st cs) n (some x)=some y/\0<=y/\y<=st:=by
 obtain⟨k,rfl⟩:∃k:Nat,n=(((k + 1:Nat)):Int):=⟨n.toNat - 1,by omega⟩
 rw[A1g] at h
 have hw:∃z,wkF st (some x) cs=some z:=by
  cases e:wkF st (some x) cs with
  | none=>
   have h':itN st cs k (wkF st (some x) cs)=some y:=h
   rw[e,A7t] at h';cases h'
  | some z=>exact⟨z,rfl⟩
 obtain⟨z,hz⟩:=hw
 obtain⟨lo,g,tp,fx,ok⟩:=C7m h0 h1 hz
 rw[fx]
 have hy:0<=y/\y<=st:=by
  have key:∀(k:Nat) (x:Int),0<=x->x<=st->itN st cs k (some x)=some y->0<=y/\y<=st:=by
   intro k
   induction k with
   | zero=>intro x a b e;cases e;exact⟨a,b⟩
   | succ k ih=>
    intro x a b e
    have e':itN st cs k (wkF st (some x) cs)=some y:=e
    cases q:wkF st (some x) cs with
    | none=>rw[q,A7t] at e';cases e'
    | some z=>
     rw[q] at e'
     obtain⟨c1,c2⟩:=A87 fx a b q
     obtain⟨o1,o2,o3,o4,o5,o6⟩:=ok
     simp only at o1 o2 o3 o4 o5 o6
     exact ih z (by rw[c2];unfold mnI;split <;> omega) (by rw[c2];unfold mnI;split <;> omega) e'
  exact key _ x h0 h1 h
 refine⟨?_,hy⟩
 unfold B0y
 dsimp only
 by_cases g0:0<=g
 ·obtain⟨a,b,c⟩:=C0s fx ok g0 k h0 h1 h
  rw[if_neg (by omega),if_neg (fun q=>by have:=b (by omega);omega),if_neg (by omega),c]
 ·obtain⟨a,b,c⟩:=C0t fx ok (by omega) k h0 h1 h
  have e1:(((k + 1:Nat)):Int) - 1=((k:Nat):Int):=by omega
  have e2:(((k + 1:Nat)):Int) - 2=((k:Nat):Int) - 1:=by omega
  rw[if_neg (by omega),if_neg (fun q=>by omega),if_pos (by omega),e1,e2,if_neg (fun q=>by have:=b (by omega);omega),c]
end My
namespace L2
open PySem PySem.Spec PyProof.Rows
section
variable {X:Cx}
end
end L2
namespace My
open PySem L2
section
variable {C:DC}
end
end My
namespace L2
open PySem PySem.Spec PyProof.Rows
abbrev Z4 (X:Cx) (scope:Scope) (N':List Str) (x:Str) (a:CA):Cx where
 prog:=X.prog
 w:=X.w
 K:=X.K
 mg:=X.mg
 base:=X.base
 A:=X.A
 N:=N'
 s₀:=a.s
 H₀:=a.H
 env:=compEnvC scope ((x,a.C + 1)::N4 X.env.cells scope.names []) a.C X.env
 outer:=X.stack
 stack:=X.stack
 ex:=a.fp
 fn:=fun y=>y == x
 calm:=X.calm
 pn:=[]
 xe:=fun _ _=>False
structure CompScC (N N':List Str) (osc scope:Scope) (j:Nat) (x:Str):Prop where
 nd:N'.Nodup
 at_:N'[j]?=some x
 sub:∀(i:Nat) y,i≠j->N'[i]?=some y->N[i]?=some y
 len:N'.length<=N.length + 1
 kind:scope.kind=.function
 ocell:∀y∈scope.names,y.2=.cell->y.1=x
 cells:∀b cl,cellsFrom b scope.names cl=(x,b)::cl
 names:∀y∈scope.names,y.2=.local->scope.names.lookup y.1=some .local
 only:∀y∈scope.names,y.2=.local->y.1∉N'
 loc:scope.names.lookup x=some .cell
 okind:osc.kind=.function
 free:∀y∈scope.names,y.2=.free->osc.names.lookup y.1=some .cell
theorem C0v {env:Env}:∀{names:List (Str×NameKind)} {x:Str},names.lookup x=some .cell->
  (names.map fun (n,k)=>if (k == NameKind.free&&env.scope.kind == .function&&env.kindOf n == some .cell) then (n,NameKind.cell) else (n,k)).lookup x=some .cell
 | [],_,h=>by simp at h
 | (n,k)::r,x,h=>by
  have ih:=@C0v env r x
  show List.lookup x ((if (k == NameKind.free&&env.scope.kind == .function&&env.kindOf n == some .cell)=true then (n,NameKind.cell) else (n,k))::_)=_
  cases hx:x == n with
  | true=>
   simp only[Z7,hx] at h
   cases h
   simp [Z7,hx]
  | false=>
   simp only[Z7,hx] at h
   by_cases hc:(k == NameKind.free&&env.scope.kind == .function&&env.kindOf n == some .cell)=true
   ·rw[if_pos hc];simp only[Z7,hx];exact ih h
   ·rw[if_neg hc];simp only[Z7,hx];exact ih h
theorem C0w {env:Env} {y:Str}:∀{names:List (Str×NameKind)},
  ((names.map fun (n,k)=>if (k == NameKind.free&&env.scope.kind == .function&&env.kindOf n == some .cell) then (n,NameKind.cell) else (n,k)).lookup y=some .cell\/(names.map fun (n,k)=>if (k == NameKind.free&&env.scope.kind == .function&&env.kindOf n == some .cell) then (n,NameKind.cell) else (n,k)).lookup y=some .free)->(y,NameKind.free)∈names\/(y,NameKind.cell)∈names
 | [],h=>by simp at h
 | (n,k)::r,h=>by
  have ih:=@C0w env y r
  rw[n8] at h
  dsimp only at h
  by_cases q:y=n
  ·subst q
   by_cases hc:(k == NameKind.free&&env.scope.kind == .function&&env.kindOf y == some .cell)=true
   ·have:k=.free:=by
     simp only[U7,beq_iff_eq] at hc
     exact hc.1.1
    subst this
    exact .inl C0
   ·rw[if_neg hc,C28] at h
    rcases h with h | h
    ·cases h;exact .inr C0
    ·cases h;exact .inl C0
  ·have e:∀k',List.lookup y ((n,k')::r.map fun (n,k)=>if (k == NameKind.free&&env.scope.kind == .function&&env.kindOf n == some .cell) then (n,NameKind.cell) else (n,k))=List.lookup y (r.map fun (n,k)=>if (k == NameKind.free&&env.scope.kind == .function&&env.kindOf n == some .cell) then (n,NameKind.cell) else (n,k)):=fun k'=>by
    rw[Z7,beq_eq_false_iff_ne.mpr q]
   have h2:(r.map fun (n,k)=>if (k == NameKind.free&&env.scope.kind == .function&&env.kindOf n == some .cell) then (n,NameKind.cell) else (n,k)).lookup y=some .cell\/(r.map fun (n,k)=>if (k == NameKind.free&&env.scope.kind == .function&&env.kindOf n == some .cell) then (n,NameKind.cell) else (n,k)).lookup y=some .free:=by
    split at h
    ·rw[e] at h;exact h
    ·rw[e] at h;exact h
   exact (ih h2).imp (B6 _) (B6 _)
theorem CompScC.fre {N N':List Str} {osc scope:Scope} {j:Nat} {x y:Str} {env:Env} (S:CompScC N N' osc scope j x) (h:(relabel scope env).names.lookup y=some .cell\/(relabel scope env).names.lookup y=some .free) (ne:y≠x):(y,NameKind.free)∈scope.names:=by
 rcases C0w h with z | z
 ·exact z
 ·exact absurd (S.ocell _ z rfl) ne
theorem C7n {M:Model} {A:Around} {E:Value->Shared->Prop} {s:Shared} {scope:Scope} {globals:Addr} {closure:List (Str×Addr)} {qual:Str} {outer:Env} {x:Str} {Q:Env->Shared->Prop}
  (hc:∀b cl,cellsFrom b scope.names cl=(x,b)::cl)
  (hQ:∀h',h'.Ns s.heap.objs.size (fun _=>none)->(∀b o,s.heap.get? b=some o->h'.get? b=some o)->h'.IsCell (s.heap.objs.size + 1) none->
   Q { scope,locals:=s.heap.objs.size,globals,cells:=(x,s.heap.objs.size + 1)::closure,qual,func:=none,code:=outer.code,frame:=outer.frame,builtins:=outer.builtins } { s with heap:=h',toks:=s.toks }) :
  wpAny M A (newFunctionEnv scope globals closure [] qual none .none (some outer)) Q E s:=by
 simp only[newFunctionEnv,Option.isSome_some,if_true]
 refine wpAny_bind (wpAny_alloc ?_)
 refine wpAny_bind (wpAny_layCells _ (fun name kind cells=>by cases hkc:kind == NameKind.cell <;> simp [hkc]) _ _ _ _ ?_)
 have ok:=cellsFrom_ok scope.names (s.heap.push { cls:=.type "dict",data:=.dict #[] }) (s.heap.objs.size + 1) [] ⟨fun _ _ hm=>(nomatch hm),B2g.nil⟩ (by rw[A8d];exact F3 _)
 rw[A8d,hc] at ok
 rw[show ({ s with heap:=s.heap.push { cls:=.type "dict",data:=.dict #[] } }:Shared).heap.objs.size=s.heap.objs.size + 1 from A8d ..,hc]
 rw[List.forIn_nil]
 refine wpAny_bind (wpAny_pure (wpAny_pure ?_))
 exact hQ _ ((Heap.Ns.new s.heap (.type "dict")).keeps (pushCells_keeps _ _)) (fun b o e=>pushCells_keeps _ _ b o (P6 _ e)) (ok.empty x _ C0).1
section
variable {X:Cx} {pins:List (Addr×Obj)} {σ:St} {H:Hp} {s:Shared}
theorem C7o {elt iter:Expr} {x:Str} {px pos:Pos} {ifs:List Expr} {scope:Scope} {N':List Str} {j:Nat} {tt:CA->TT} {te:CA->TE} {it:Addr} {fp:List Addr} {tn:Nat->Heap->Prop} {J:It} {Q:List V->Hp->Prop}
  {RR:Value->Addr->Result->Shared->Prop} {E:Value->Shared->Prop}
  (S:CompScC X.N N' X.env.scope scope j x) (hc:X.calm=true)
  (ht:∀a:CA,PTs (Z4 X scope N' x a) ifs (tt a)) (he:∀a:CA,PE (Z4 X scope N' x a) elt (te a))
  (I:Inv X pins σ H s) (T:A1p X.prog X.w X.K (.Name x px) J fp it tn) (st:tn 0 s.heap) (f2:∀b∈fp,U0 X pins H b) (h:A8s σ N'.length j tt te J H Q)
  (hRR:∀(D C:Addr) (ys:List V) (H':Hp) (s':Shared) (m:Str->Option Value),s'.heap.Ns C m->Own X pins (upd H' D (.lst ys)) C->Inv X pins σ (upd H' D (.lst ys)) s'->H' D=none->Q ys H'->RR (.ref D) C (.ok .next) s') :
  wpAny (model X.prog X.w) X.A (newList []) (fun acc s₃=>wpAny (model X.prog X.w) X.A (newFunctionEnv scope X.env.globals (N4 X.env.cells scope.names []) [] X.env.qual none .none (some X.env)) (fun cenv s₄=>
   codeAny (model X.prog X.w) X.A (.compStart (.ListComp elt [⟨.Name x px,iter,ifs,0⟩] scope pos) 0 (.ref it) acc { cenv with scope:=relabel scope X.env }) (RR acc cenv.locals) s₄) E s₃) E s:=by
 refine wpAny_newObj_type (C7n S.cells (fun h₁ hns₁ hkp₁ hcl₁=>?_))
 dsimp only at hns₁ hkp₁ hcl₁ ⊢
 generalize hH2:s.heap.push { cls:=.type "list",dict:=none,data:=.seq ([]:List Value).toArray }=H2 at hns₁ hkp₁ hcl₁ ⊢
 have hC:H2.objs.size=s.heap.objs.size + 1:=by rw[<-hH2,A8d]
 have hDC:s.heap.objs.size≠H2.objs.size:=by rw[hC];exact M5 (B2h _)
 have hCle:s.heap.objs.size<=H2.objs.size:=by rw[hC];exact A1i _
 have below:∀b,b < s.heap.objs.size->b≠H2.objs.size/\b≠s.heap.objs.size:=fun b hb=>⟨by rw[hC];exact M5 (A9r hb),M5 hb⟩
 have old:∀b o,s.heap.get? b=some o->h₁.get? b=some o:=fun b o e=>hkp₁ b o (hH2▸P6 _ e)
 have hacc:h₁.get? s.heap.objs.size=some { cls:=.type "list",data:=.seq ([]:List Value).toArray }:=hkp₁ _ _ (hH2▸X2 _ rfl)
 have fplt:∀b∈fp,b < s.heap.objs.size:=fun b hb=>let ⟨_,e,_⟩:=T.obj 0 _ st b hb;G9 e
 have hcells:∀y∈scope.names,y.2=.free->∃c,X.env.cells.lookup y.1=some c:=fun y hy e=>I.ok.has y.1 (.inl (S.free y hy e))
 have sub0:∀y c,(N4 X.env.cells scope.names []).lookup y=some c->X.env.cells.lookup y=some c:=A99 hcells (fun y c e=>by cases e)
 have sub:∀y c,((x,H2.objs.size + 1)::N4 X.env.cells scope.names []).lookup y=some c->(y=x/\c=H2.objs.size + 1)\/(y≠x/\X.env.cells.lookup y=some c):=fun y c e=>by
  by_cases q:y=x
  ·subst q
   rw[C28] at e
   exact .inl ⟨rfl,(Option.some.inj e).symm⟩
  ·rw[Z7,beq_eq_false_iff_ne.mpr q] at e
   exact .inr ⟨q,sub0 y c e⟩
 have cne0:∀b∈fp,∀y c,((x,H2.objs.size + 1)::N4 X.env.cells scope.names []).lookup y=some c->c≠b:=fun b hb y c e=>by
  rcases sub y c e with ⟨_,q⟩ | ⟨_,q⟩
  ·have:=fplt b hb
   lia
  ·exact (f2 b hb).2.2.2.2.1 y c q
 have cellLt:∀y c,X.env.cells.lookup y=some c->c < s.heap.objs.size:=fun y c e=>by
  obtain⟨v,z⟩:=I.cell y c e
  exact z.lt
 let a:CA:=⟨s,H,H2.objs.size,fp⟩
 have ok:(Z4 X scope N' x a).Ok:=by
  refine⟨I.ok.mod,S.kind,I.ok.glob,I.ok.blt,hCle,fun y z c e1 e2=>?_,fun y hy=>?_,fun y c z e=>?_,I.ok.hd,I.ok.frames,.inl rfl,fun b hb=>⟨(below b (fplt b hb)).1,cne0 b hb⟩,I.bs,
   m8 I.ok.bsz I.sz,fun b o e hb=>?_,fun b hb z=>?_,I.stack,I.stkFree⟩
  ·rcases sub y c e1 with ⟨q1,q2⟩ | ⟨_,q1⟩
   ·rcases sub z c e2 with ⟨q3,_⟩ | ⟨_,q3⟩
    ·rw[q1,q3]
    ·have:=cellLt z c q3
     lia
   ·rcases sub z c e2 with ⟨_,q4⟩ | ⟨_,q3⟩
    ·have:=cellLt y c q1
     lia
    ·exact I.ok.inj y z c q1 q3
  ·by_cases q:y=x
   ·subst q;exact⟨_,C28⟩
   ·obtain⟨c,e⟩:=A4x (cells:=X.env.cells) (cs:=[]) (S.fre hy q)
    exact⟨c,by show ((x,H2.objs.size + 1)::N4 X.env.cells scope.names []).lookup y=some c;rw[Z7,beq_eq_false_iff_ne.mpr q];exact e⟩
  ·have z:y=x:=beq_iff_eq.mp z
   rcases sub y c e with ⟨_,q⟩ | ⟨q,_⟩
   ·rw[q];show s.heap.objs.size<=H2.objs.size + 1;lia
   ·exact absurd z q
  ·rcases (f2 b hb).2.2.2.1 with z | z
   ·exact I.ok.noex b o e z
   ·exact absurd (S1 (G9 (I.ok.bs b o e).1) z) (V9 _)
  ·rcases N1.mp (I.stkSub b z) with e | e
   ·exact (f2 b hb).2.1 e
   ·exact (f2 b hb).2.2.1 e
 have look:∀(h':Heap) (m':Str->Option Value),(∀y c,X.env.cells.lookup y=some c->∀v,s.heap.IsCell c v->h'.IsCell c v)->∀(i:Nat) (y:Str) (v:V),N'[i]?=some y->(O7 N'.length j σ)[i]?=some (some v)->
   Vis (relabel scope X.env) y->∃u,G3 v u/\A9w (compEnvC scope ((x,H2.objs.size + 1)::N4 X.env.cells scope.names []) H2.objs.size X.env) h' m' y u:=by
  intro h' m' kc i y v e1 e2 e3
  obtain⟨ne,e4⟩:=B0a e2
  have e5:=S.sub i y ne e1
  have nx:y≠x:=fun z=>ne (A4r S.nd e1 (by rw[S.at_,z]))
  have hy:(y,NameKind.free)∈scope.names:=by
   rcases e3 with e3 | e3 | e3
   ·exact absurd (O2 e1) (S.only _ (A2t e3) rfl)
   ·exact S.fre (.inl e3) nx
   ·exact S.fre (.inr e3) nx
  have kcell:X.env.scope.names.lookup y=some .cell:=S.free _ hy rfl
  obtain⟨m0,hn0,hl0⟩:=I.loc
  obtain⟨u,r,l⟩:=hl0 i y v e5 e4 (.inr (.inl kcell))
  refine⟨u,r,.inr ⟨?_,?_⟩⟩
  ·rcases e3 with e3 | e3 | e3
   ·exact absurd (O2 e1) (S.only _ (A2t e3) rfl)
   ·exact .inl e3
   ·exact .inr e3
  ·rcases l with ⟨k,_⟩ | ⟨k,c,e,z⟩
   ·have k':X.env.scope.names.lookup y=some .local:=k
    rw[kcell] at k';cases k'
   ·obtain⟨c',e'⟩:=A4x (cells:=X.env.cells) (cs:=[]) hy
    have e'':=sub0 y c' e'
    rw[e] at e''
    cases e''
    exact⟨c,by show ((x,H2.objs.size + 1)::N4 X.env.cells scope.names []).lookup y=some c;rw[Z7,beq_eq_false_iff_ne.mpr nx];exact e',kc y c e _ z⟩
 have cellOld:∀y c,X.env.cells.lookup y=some c->∀v,s.heap.IsCell c v->h₁.IsCell c v:=fun y c _ v zz232=>el2 zz232 fun o ho hd=>⟨o,old c o ho,hd⟩
 have fr0:∀b,s.heap.objs.size<=b->H b=none:=fun b hb=>I.hok.fresh hb
 have noPn:∀p,p∉(Z4 X scope N' x a).pn++([]:List (Addr×Obj)):=fun p hp=>by simp at hp
 have I0:Inv (Z4 X scope N' x a) [] (O7 N'.length j σ) H { s with heap:=h₁,toks:=s.toks + ([]:List (Str×Value)).length }:=by
  refine⟨ok,rfl,I.bare,Un.kept old,⟨_,hns₁,look h₁ _ cellOld⟩,fun y c e=>?_,fr0 _ hCle,fun y c e=>(sub y c e).elim (fun q=>fr0 _ (by have:=q.2;lia)) (fun q=>I.freeC y c q.2),fun p hp=>absurd hp (noPn p),I.hok.kept old,B8q (by rw[I.len];exact S.len)⟩
  rcases sub y c e with ⟨_,q⟩ | ⟨_,q⟩
  ·exact⟨none,by rw[q];exact hcl₁⟩
  ·obtain⟨v,z⟩:=I.cell y c q
   exact⟨v,cellOld y c q v z⟩
 obtain⟨W,⟨m0,w0⟩,turn⟩:=h
 have loop:∀s₃:Shared,s₃={ s with heap:=h₁,toks:=s.toks + ([]:List (Str×Value)).length }->
   codeAny (model X.prog X.w) X.A (.compLoop (.ListComp elt [⟨.Name x px,iter,ifs,0⟩] scope pos) 0 (.ref it) (.ref s.heap.objs.size) (compEnvC scope ((x,H2.objs.size + 1)::N4 X.env.cells scope.names []) H2.objs.size X.env)) (RR (.ref s.heap.objs.size) H2.objs.size) s₃:=by
  rintro s₃ rfl
  refine B3e (fun k s'=>∃(i:Nat) (ys:List V) (its:List Value) (n:Nat) (H':Hp),Inv (Z4 X scope N' x a) [] (O7 N'.length j σ) H' s'/\s'.heap.get? s.heap.objs.size=some { cls:=.type "list",data:=.seq its.toArray n }/\D7 ys its/\
   H' s.heap.objs.size=none/\tn i s'.heap/\(∀b∈fp,H' b=none)/\W i k ys H') ?_ m0
   ⟨0,[],[],0,H,I0,hacc,.nil,fr0 _ (F3 _),T.keep _ _ _ st fun b hb o e=>old b o e,fun b hb=>(f2 b hb).1,w0⟩
  rintro k s' ⟨i,ys,its,n,H',I',hD,rv,nD',st',fr',w'⟩ E'
  obtain⟨hz,hw⟩:=turn i k ys H' w'
  have ownD:Own (Z4 X scope N' x a) [] H' s.heap.objs.size:=⟨nD',hDC,F3 _,fun y c e z=>by
   rcases sub y c e with ⟨_,q⟩ | ⟨_,q⟩
   ·lia
   ·have:=cellLt y c q
    lia,fun p hp=>absurd hp (noPn p)⟩
  have fpok:∀(pl:List (Addr×Obj)) (H'':Hp),(∀b∈fp,H'' b=none)->(∀p∈pl,p.1∉fp)->∀b∈fp,U0 (Z4 X scope N' x a) pl H'' b:=fun pl H'' hn hpl b hb=>
   ⟨hn b hb,(below b (fplt b hb)).1,fun z=>by
    rcases N1.mp (I.stkSub b z) with e | e
    ·exact (f2 b hb).2.1 e
    ·exact (f2 b hb).2.2.1 e,.inl hb,cne0 b hb,fun p hp z=>by
    have hp':p∈pl:=by simpa using hp
    exact hpl p hp' (z▸hb)⟩
  have nDfp:s.heap.objs.size∉fp:=fun z=>absurd (fplt _ z) (V9 _)
  have pinD:∀p∈([(s.heap.objs.size,{ cls:=.type "list",data:=.seq its.toArray n })]:List (Addr×Obj)),s'.heap.get? p.1=some p.2/\H' p.1=none/\p.1≠(Z4 X scope N' x a).env.locals/\p.1∉(Z4 X scope N' x a).fs/\∀v,p.2.data≠.cell v:=fun p hp=>by
   have e:p=(s.heap.objs.size,{ cls:=.type "list",data:=.seq its.toArray n }):=by simpa using hp
   subst e
   refine⟨hD,nD',hDC,fun z=>?_,fun v z=>by cases z⟩
   rcases N1.mp (I.stkSub _ z) with e | e
   ·exact absurd I.lt (by rw[<-e];exact V9 _)
   ·exact I.nofs (F3 _) e
  have Ip:=I'.pins_of pinD
  have hpl:∀p∈([(s.heap.objs.size,{ cls:=.type "list",data:=.seq its.toArray n })]:List (Addr×Obj)),p.1∉fp:=fun p hp=>by
   have e:p=(s.heap.objs.size,{ cls:=.type "list",data:=.seq its.toArray n }):=by simpa using hp
   subst e
   exact nDfp
  rcases hw with ⟨stop,q⟩ | ⟨go,N,hN,step⟩
  ·refine thn (T.done (Z4 X scope N' x a) rfl rfl rfl hc i _ s' _ H' E' Ip (fpok _ H' fr' hpl) st' stop) fun r s4 zz233=>zz233.elim fun hr I4=>?_
   subst hr
   have hD4:=(I4.pin (s.heap.objs.size,{ cls:=.type "list",data:=.seq its.toArray n }) (by simp)).1
   have J4:Inv X pins σ H' s4:=I.call' (ch:=fp) I4.os I4.base I4.hok I4.bare fun b hb=>⟨(f2 b hb).2.2.2.1,(f2 b hb).2.1,(f2 b hb).2.2.2.2.1,(f2 b hb).2.2.2.2.2⟩
   obtain⟨m4,hn4,_⟩:=I4.loc
   have hC4:H' H2.objs.size=none:=I4.free
   exact hRR _ _ ys H' s4 m4 hn4 (I.own hCle (by rw[C1 (Ne.symm hDC)];exact hC4)) (J4.track (I.own (F3 _) nD') hD4 rv hz) nD' q
  ·refine thn (T.item (Z4 X scope N' x a) rfl rfl rfl hc i _ s' _ H' E' Ip (fpok _ H' fr' hpl) st' go) fun r s5 zz234=>el2 zz234 fun u hr h5=>?_
   subst hr
   refine thn h5 fun _ s6 zz235=>zz235.elim fun xv zz236=>zz236.elim fun H6 zz237=>zz237.elim fun I6 zz238=>zz238.elim fun r6 zz239=>zz239.elim fun y6 zz240=>zz240.elim fun st6 fr6=>?_
   have I6':=I6.pinned (fpok _ H6 fr6 hpl) (T.obj _ _ st6)
   refine wpAny_assign_Name (A2p I6' S.nd S.at_ (.inr (C0v S.loc)) r6 (fun s7 I7=>?_) (.inl (beq_self_eq_true x)))
   have wk:∀(i:Nat) v,(O7 N'.length j σ)[i]?=some (some v)->((O7 N'.length j σ).set j (some xv))[i]?=some (some v):=fun i v e=>by
    rw[U6 (Ne.symm (B0a e).1)];exact e
   refine wpAny_mono (ht a _ s7 _ H6 _ I7 (step xv H6 y6 a)) (fun ok s8 zz241=>el2 zz241 fun H8 I8 q8=>?_) fun _ _ z=>z.elim
   have tnk:∀{H9:Hp} {s9:Shared} {σ9:St},Inv (Z4 X scope N' x a) ([(s.heap.objs.size,{ cls:=.type "list",data:=.seq its.toArray n })]++A4t fp s6.heap) σ9 H9 s9->tn (i + 1) s9.heap/\(∀b∈fp,H9 b=none)/\s9.heap.get? s.heap.objs.size=some { cls:=.type "list",data:=.seq its.toArray n }/\H9 s.heap.objs.size=none:=fun {H9 s9 σ9} I9=>by
    refine⟨T.keep _ _ _ st6 fun b hb o e=>(I9.pin (b,o) (S3 _ (S3 _ (A2r hb e)))).1,fun b hb=>?_,?_⟩
    ·obtain⟨o,e,d⟩:=T.obj _ _ st6 b hb
     exact (I9.pin (b,o) (S3 _ (S3 _ (A2r hb e)))).2.1
    ·have z:=I9.pin (s.heap.objs.size,{ cls:=.type "list",data:=.seq its.toArray n }) (S3 _ (A8c _ (by simp)))
     exact⟨z.1,z.2.1⟩
   cases ok with
   | false=>
    obtain⟨m',hm,w8⟩:∃m',m' < k/\W (i + 1) m' ys H8:=hN _ _ (by simpa using q8)
    obtain⟨t1,t2,t3,t4⟩:=tnk I8
    exact⟨m',hm,i + 1,ys,its,n,H8,(I8.pins_of (pins':=[]) fun p hp=>nomatch hp).weak (by rw[O3]) wk,t3,rv,t4,t1,t2,w8⟩
   | true=>
    have q8':=q8
    simp only[if_true] at q8'
    refine wpAny_mono (he a _ s8 _ H8 _ I8 q8') (fun u9 s9 zz242=>el5 zz242 fun v9 H9 I9 r9 q9=>?_) fun _ _ z=>z.elim
    obtain⟨m',hm,w9⟩:=hN _ _ q9
    obtain⟨t1,t2,t3,t4⟩:=tnk I9
    have hl:=rv.length
    refine append_at (hsz:=by show its.toArray.size<=sizeLine;rw[O4,<-hl];exact hz) t3 fun h' hs' hD'=>?_
    have J9:=((I9.pins_of (pins':=[]) fun p hp=>nomatch hp).weak (σ':=O7 N'.length j σ) (by rw[O3]) wk).own_turn (C:=s.heap.objs.size) ⟨t4,ownD.ne,ownD.ab,ownD.ce,ownD.pi⟩ hs'
    refine⟨m',hm,i + 1,ys++[v9],its++[u9],n + 1,H9,J9,?_,D7.append rv (.cons r9 .nil),t4,T.keep _ _ _ t1 fun b hb o e=>(hs'.2 b fun z=>nDfp (z▸hb)).trans e,t2,w9⟩
    rw[List.push_toArray] at hD'
    exact hD'
 exact codeAny_compStart_list (loop _ rfl) (T.self _ 0 _ _ _ (T.keep _ _ _ st fun b hb o e=>old b o e) (loop _ rfl))
end
section
variable {X:Cx}
end
def B4s (N:List Str) (osc scope:Scope) (x:Str) (j:Nat):Bool:=
 decide N.Nodup&&decide (N[j]?=some x)&&decide (scope.kind=.function)&&decide (osc.kind=.function)&&(scope.names.lookup x == some .cell)&&
  scope.names.all fun y=>match y.2 with
   | .cell=>y.1 == x
   | .local=>scope.names.lookup y.1 == some .local&&!(N.contains y.1)
   | .free=>osc.names.lookup y.1 == some .cell
   | _=>true
theorem CompScC.old {N:List Str} {osc scope:Scope} {x:Str} {j:Nat} (h:B4s N osc scope x j=true) (hc:∀b cl,cellsFrom b scope.names cl=(x,b)::cl):CompScC N N osc scope j x:=by
 unfold B4s at h
 simp only[U7,decide_eq_true_eq,B68,beq_iff_eq] at h
 obtain⟨⟨⟨⟨⟨h1,h0⟩,h2⟩,h3⟩,h4⟩,h5⟩:=h
 refine⟨h1,h0,fun i y _ e=>e,A1i _,h2,fun y hy e=>?_,hc,fun y hy e=>?_,fun y hy e=>?_,h4,h3,fun y hy e=>?_⟩
 ·have:=h5 y hy;rw[e] at this;exact beq_iff_eq.mp this
 ·have:=h5 y hy
  rw[e] at this
  simp only[U7,beq_iff_eq] at this
  exact this.1
 ·have:=h5 y hy
  rw[e] at this
  simp only[U7,B69,B7a,decide_eq_false_iff_not] at this
  exact this.2
 ·have:=h5 y hy
  rw[e] at this
  simp only[beq_iff_eq] at this
  exact this
section
variable {prog:Program} {w:World} {K:Type} [DecidableEq K] {knd:HeapKind prog w K} {A:Around} {E:Value->Shared->Prop} {s:Shared}
end
section
variable {X:Cx} {pins:List (Addr×Obj)} {σ:St} {H:Hp} {s:Shared} {a b:Addr} {kvs:List (List Key×V)} {k:List Key} {A:Around} {E:Value->Shared->Prop}
end
section
variable {prog:Program} {w:World} {A:Around} {E:Value->Shared->Prop} {s:Shared}
end
section
variable {prog:Program} {w:World} {A:Around} {R:Result->Shared->Prop} {I:Addr} {fp wr:List Addr} {n:Nat} {P:Nat->Value->Prop} {St:Nat->Heap->Prop}
end
section
variable {X:Cx}
end
end L2
namespace My
open PySem L2
open PySem.Spec PyProof.Rows
mutual
def O8:PyData->Bool
 | .none=>true
 | .bool _=>true
 | .int _=>true
 | .str _=>true
 | .tuple xs=>V5 xs
 | .list _=>false
 | .dict _=>false
def V5:List PyData->Bool
 | []=>true
 | d::ds=>O8 d&&V5 ds
end
mutual
theorem ThV.flat {F G:Addr->Prop} {H:Hp} (ft:∀b xs,H b=some (.tup xs)->F b):∀{v:V} {d:PyData},ThV G H v d->O8 d=true->ThV F H v d
 | _,_,.non,_=>.non
 | _,_,.bl b,_=>.bl b
 | _,_,.int i,_=>.int i
 | _,_,.str x,_=>.str x
 | _,_,.lst _ _ _,h=>by rw[O8] at h;cases h
 | _,_,.tup _ e t,h=>.tup (ft _ _ e) e (A9.flat ft t (by rw[O8] at h;exact h))
 | _,_,.dic _ _ _,h=>by rw[O8] at h;cases h
theorem A9.flat {F G:Addr->Prop} {H:Hp} (ft:∀b xs,H b=some (.tup xs)->F b):∀{vs:List V} {ds:List PyData},A9 G H vs ds->V5 ds=true->A9 F H vs ds
 | _,_,.nil,_=>.nil
 | _,_,.cons x t,h=>by
  rw[V5,U7] at h
  exact .cons (ThV.flat ft x h.1) (A9.flat ft t h.2)
end
open Classical in
theorem D8.norm0 {C:DC} {col:Addr->Nat} {ρ:List Sl} {σ:L2.St} {P:List Pe} {H:Hp} (r:D8 C col ρ σ P H):∃col',D8 C col' ρ σ P H/\(∀b xs,H b=some (.tup xs)->col' b=0)/\∀b,C.H0 b≠none->col' b<=1:=by
 obtain⟨col,r,tp⟩:=r.norm
 let col':Addr->Nat:=fun b=>if C.H0 b≠none/\1 < col b then 1 else col b
 have c0:∀b,C.H0 b=none->col' b=col b:=fun b h=>if_neg fun z=>z.1 h
 have c1:∀b,col b<=1->col' b=col b:=fun b h=>if_neg fun z=>absurd z.2 (by lia)
 have lo:∀b,col b<=1->col' b<=1:=fun b h=>by rw[c1 b h];exact h
 have z0:∀b,col' b=0->col b=0:=fun b h=>by
  by_cases q:C.H0 b≠none/\1 < col b
  ·have h:(if C.H0 b≠none/\1 < col b then 1 else col b)=0:=h
   rw[if_pos q] at h;cases h
  ·have h:(if C.H0 b≠none/\1 < col b then 1 else col b)=0:=h
   rw[if_neg q] at h;exact h
 have mv0:∀b o,Z col b->H b=some o->Z col' b/\H b=some o:=fun b o z e=>⟨(c1 b (by rw[show col b=0 from z];decide)).trans z,e⟩
 refine⟨col',⟨fun b hb=>(c1 b (by rw[r.fresh b hb];decide)).trans (r.fresh b hb),fun b hb=>r.inF b (z0 b hb),fun q hq=>(c1 _ (by rw[r.hnd q hq];decide)).trans (r.hnd q hq),fun i s e=>?_,fun p hp=>?_,r.kq,r.hq,r.hq0,r.nf,r.len⟩,fun b xs e=>(c1 b (by rw[tp b xs e];decide)).trans (tp b xs e),fun b hb=>?_⟩
 ·have h:=r.sl i s e
  cases s with
  | no=>trivial
  | sh d=>obtain⟨v,e1,t⟩:=h;exact⟨v,e1,t.mv mv0⟩
  | ow ds=>obtain⟨a,vs,e1,c,n,e2,t⟩:=h;exact⟨a,vs,e1,(c0 a n).trans c,n,e2,t.mv mv0⟩
  | bo ds=>obtain⟨a,vs,e1,c,n,e2,t⟩:=h;exact⟨a,vs,e1,lo a c,n,e2,t.mv mv0⟩
  | hd=>exact h
  | o2 dss=>obtain⟨a,as,e1,c,e2,nd,t⟩:=h;exact⟨a,as,e1,⟨(c0 a c.2).trans c.1,c.2⟩,e2,nd,t.mv mv0 fun b o g e=>⟨⟨(c0 b g.2).trans g.1,g.2⟩,e⟩⟩
  | b2 dss=>obtain⟨a,as,e1,c,e2,t⟩:=h;exact⟨a,as,e1,⟨lo a c.1,c.2⟩,e2,t.mv mv0 fun b o g e=>⟨⟨lo b g.1,g.2⟩,e⟩⟩
  | di f ks=>obtain⟨a,e1,c,n,e2⟩:=h;exact⟨a,e1,(c0 a n).trans c,n,e2⟩
  | dm f ks=>obtain⟨a,e1,c,n,e2⟩:=h;exact⟨a,e1,(c0 a n).trans c,n,e2⟩
  | bd d=>exact h
  | ot d=>obtain⟨v,e1,t⟩:=h;exact⟨v,e1,t.mv fun b o g e=>⟨g.imp (fun g=>⟨(c0 b g.2).trans g.1,g.2⟩) fun g=>⟨(c1 b (by rw[g.1];decide)).trans g.1,g.2⟩,e⟩⟩
  | ob R=>obtain⟨v,e1,t⟩:=h;exact⟨v,e1,R.mv (fun b o g e=>⟨g.imp (fun g=>⟨(c0 b g.2).trans g.1,g.2⟩) fun g=>⟨(c1 b (by rw[g.1];decide)).trans g.1,g.2⟩,e⟩) t⟩
 ·have h:=r.pd p hp
  cases p with
  | v v d=>exact ThV.mv mv0 h
  | n a o=>exact⟨lo a h.1,h.2⟩
  | s vs ds=>exact A9.mv mv0 h
  | o c as dss=>exact⟨h.1,h.2.mv mv0 fun b o g e=>⟨⟨(c0 b g.2).trans g.1,g.2⟩,e⟩⟩
  | w v d=>exact h
 ·show (if C.H0 b≠none/\1 < col b then 1 else col b)<=1
  split
  ·exact F3 _
  ·rename_i q
   rcases A0v 1 (col b) with z | z
   ·exact absurd ⟨hb,z⟩ q
   ·exact z
def lOf (C:DC) (t:DE):TE:=fun σ H Q=>∃ρ P Qd,Rel C ρ σ P H/\t ρ Qd/\∀v d ρ' H',Rel C ρ' σ (.w v d::P) H'->Qd d ρ'->Q v H'
section
variable {X:Cx} {C:DC} {e a b:Expr} {es:List Expr} {t ta tb te:DE} {u:DA} {pos:Pos} {st:Stmt} {tg:Expr}
def A4a (i:Nat) (ρ:List Sl) (Q:PyData->List Sl->Prop):Prop:=bnd (A06 ρ i) fun d=>Q d ρ
theorem c8 {i:Nat} (h:PE X e (X4 i)):PE X e (lOf C (A4a i)):=PE.wk h fun σ H Q z=>el3 z fun ρ P Qd R ht k=>R.elim fun col r=>by
 obtain⟨d,hd,q⟩:=K5 ht
 obtain⟨v,ev,t⟩:=r.lent hd
 exact⟨v,ev,k _ _ _ _ ⟨col,r.add (x:=.w v d) t⟩ q⟩
theorem D8.ixL {K:B3} {F:Addr->Prop} {col:Addr->Nat} {ρ:List Sl} {σ:L2.St} {P:List Pe} {H:Hp} {v w:V} {a b d:PyData} (r:D8 C col ρ σ P H) (t1:ThV (Le C) C.H0 v a) (t2:ThV F H w b) (h:ixD a b=some d):∃u,ThV (Le C) C.H0 u d/\∀Q:VK,Q u H->rIx K v w H Q:=by
 unfold ixD at h
 split at h
 ·cases t2
  obtain⟨p,vs,rfl,n,e,t⟩:=K1 t1
  obtain⟨u,hu,tu⟩:=A10 t h
  exact⟨u,tu,fun Q q=>.inl ⟨p,vs,_,u,rfl,rfl,SqL.of (r.kq p _ e n.2),hu,q⟩⟩
 ·cases t2
  obtain⟨p,vs,rfl,n,e,t⟩:=U9 t1
  obtain⟨u,hu,tu⟩:=A10 t h
  exact⟨u,tu,fun Q q=>.inr (.inl ⟨p,vs,_,u,rfl,rfl,SqT.of (r.kq p _ e n.2),hu,q⟩)⟩
 ·cases h
def A4b (ta tb:DE)  (ρ:List Sl) (Q:PyData->List Sl->Prop):Prop:=ta ρ fun a ρ1=>tb ρ1 fun b ρ2=>bnd (ixD a b) fun d=>Q d ρ2
theorem Q0 (ha:PE X a (lOf C ta)) (hb:PE X b (eOf C tb)) (hs:A96 b):PE X (.Subscript a b pos) (lOf C (A4b ta tb)):=PE.wk (D9 J3 ha hb hs) fun _ _ _ z=>el3 z fun ρ P _ R ht k=>⟨ρ,P,_,R,ht,fun v _ ρ1 H1 R1 h1=>⟨ρ1,_,_,R1,h1,fun w _ ρ2 H2 R2 h2=>R2.elim fun col r=>by
 obtain⟨d,hd,q⟩:=K5 h2
 obtain⟨x,tu,f⟩:=r.ixL (K:=X.K) (r.pd _ (B6 _ C0)) (show ThV (Z col) H2 w _ from r.pd _ C0) hd
 exact f _ (k _ _ _ _ ⟨col,(r.sub fun _ h=>B6 _ (B6 _ h)).add (x:=.w x d) tu⟩ q)⟩⟩
def A4c (t:DE)  (ρ:List Sl) (Q:PyData->List Sl->Prop):Prop:=t ρ fun d ρ'=>O8 d=true/\Q d ρ'
theorem A0n (h:PE X e (lOf C t)):PE X e (eOf C (A4c t)):=PE.wk h fun _ _ _ z=>el3 z fun ρ P _ R ht k=>⟨ρ,P,_,R,ht,fun v d ρ' H' R' q=>R'.elim fun col0 r0=>by
 obtain⟨col,r,tp,_⟩:=r0.norm0
 exact k _ _ _ _ ⟨col,(r.sub fun _ h=>B6 _ h).push ((r.le (r.pd _ C0)).flat tp q.1)⟩ q.2⟩
def A4d (t:DE)  (ρ:List Sl) (Q:PyData->List Sl->Prop):Prop:=t ρ fun d ρ'=>bnd (lenD d) fun n=>Q (.int n) ρ'
theorem C7p {K:B3} (h:PE X e (tCB (B0h K) (X7 (lOf C t) g9))):PE X e (eOf C (A4d t)):=PE.wk h fun _ _ _ z=>el3 z fun ρ P _ R ht k=>⟨ρ,P,_,R,ht,fun v d ρ' H' R' q=>R'.elim fun col r=>by
 obtain⟨n,hn,q⟩:=K5 q
 have t:=r.le (r.pd _ C0)
 have fin:=k _ _ _ _ ⟨col,(r.sub fun _ h=>B6 _ h).push (.int n)⟩ q
 cases d with
 | list ds=>
  cases hn
  obtain⟨p,vs,rfl,_,e,t⟩:=K1 t
  exact⟨p,vs,rfl,.inl (SqL.of e),by rw[t.len];exact fin⟩
 | tuple ds=>
  cases hn
  obtain⟨p,vs,rfl,_,e,t⟩:=U9 t
  exact⟨p,vs,rfl,.inr (SqT.of e),by rw[t.len];exact fin⟩
 | _=>cases hn⟩
def A50 (t:DE) (T:String)  (ρ:List Sl) (Q:PyData->List Sl->Prop):Prop:=t ρ fun a ρ'=>Q (.bool (Y1 T a)) ρ'
def A51 (neg:Bool) (t:DE)  (ρ:List Sl) (Q:PyData->List Sl->Prop):Prop:=t ρ fun a ρ'=>Q (.bool (if neg then !isN a else isN a)) ρ'
def A52 (t:DE)  (ρ:List Sl) (Q:List PyData->List Sl->Prop):Prop:=t ρ fun d ρ'=>bnd (A0e d) fun ds=>V5 ds=true/\Q ds ρ'
def dIL (t:DE)  (ρ:List Sl) (Q:List PyData->List Sl->Prop):Prop:=t ρ fun d ρ'=>bnd (M8 d) fun xs=>V5 xs=true/\Q xs ρ'
def B0z (t:DE)  (ρ:List Sl) (Q:List PyData->List Sl->Prop):Prop:=t ρ fun d ρ'=>bnd (M8 d) fun xs=>V5 xs=true/\Q (T1 xs) ρ'
theorem C7q {K:B3} (h:PI X tg e (B3n K (X7 (lOf C t) g9))):PI X tg e (iOf C (B0z t)):=PI.wk h fun _ _ _ z=>el3 z fun ρ P _ R ht k=>⟨ρ,P,_,R,ht,fun v d ρ' H' R' q=>R'.elim fun col0 r0=>by
 obtain⟨xs,hx,hf,q2⟩:=K5 q
 have:=A0f hx
 subst this
 obtain⟨col,r,tp,lo⟩:=r0.norm0
 obtain⟨a,vs,rfl,n,e1,t1⟩:=K1 (r.le (r.pd _ C0))
 refine⟨a,rfl,⟨vs,SqL.of e1⟩,k _ ρ' (.n a (.lst vs)::.s vs xs::P) H' _ ⟨col,?_⟩ (fun _ h=>B6 _ (B6 _ h)) B9t q2⟩
 exact ((r.sub fun _ h=>B6 _ h).add (x:=.s vs xs) (t1.flat tp hf)).add (x:=.n a (.lst vs)) ⟨lo a n.1,n.2,e1⟩⟩
def aW (t:DE) (u:DA)  (ρ:List Sl) (Q:List Ar->List Sl->Prop):Prop:=t ρ fun d ρ1=>u ρ1 fun as ρ2=>Q (.w d::as) ρ2
end
end My
namespace My
open PySem L2
def C0x (C:DC) (col:Addr->Nat) (i:Nat) (b:Addr):Prop:=col b=2 * i + 3/\C.H0 b=none
open Classical in
noncomputable def ldC (C:DC) (col:Addr->Nat) (H:Hp) (i:Nat):DC:=⟨fun b=>C.F b/\¬ C0x C col i b,C.hand,fun b=>if C0x C col i b\/(∃xs,H b=some (.tup xs)) then H b else C.H0 b⟩
def Q1:List Sl->Bool
 | []=>true
 | .b2 _::_=>false
 | .no::r=>Q1 r
 | .sh _::r=>Q1 r
 | .ow _::r=>Q1 r
 | .bo _::r=>Q1 r
 | .hd::r=>Q1 r
 | .o2 _::r=>Q1 r
 | .di _ _::r=>Q1 r
 | .dm _ _::r=>Q1 r
 | .bd _::r=>Q1 r
 | .ot _::r=>Q1 r
 | .ob _::r=>Q1 r
section
variable {C:DC} {col col2:Addr->Nat} {ρ:List Sl} {σ:L2.St} {P:List Pe} {H H2:Hp} {i:Nat} {d:PyData}
open Classical in
open Classical in
end
section
variable {X:Cx} {C:DC} {e:Expr} {st:Stmt} {t te:DE} {u:DA} {i:Nat}
def A53 (i:Nat) (t:DE)  (ρ:List Sl) (Q:PyData->List Sl->Prop):Prop:=match ρ[i]? with
 | some (.ot d)=>Q1 ρ=true/\t (ρ.set i (.bd d)) fun d' ρ'=>ρ'=ρ.set i (.bd d)/\Q d' ρ
 | _=>t ρ Q
def m6:List Md->List PyData->Bool
 | [],[]=>true
 | .sh::ms,d::ds=>O8 d&&m6 ms ds
 | .bo::ms,.list es::ds=>V5 es&&m6 ms ds
 | .bd::ms,_::ds=>m6 ms ds
 | .hd::ms,_::ds=>m6 ms ds
 | _,_=>false
def A54 (i:Nat) (ms:List Md) (sp:DSp) (u:DA)  (D:K2) (ρ:List Sl):Prop:=u ρ fun as ρ'=>bnd (P7 ρ' ms as) fun ds=>m6 ms ds=true/\sp ds fun d=>D.nx (ρ'.set i (.ot d))
open Classical in
mutual
def C7r:PyData->PyData
 | .tuple xs=>.tuple (A7u xs)
 | .list _=>.list []
 | .none=>.none
 | .bool b=>.bool b
 | .int i=>.int i
 | .str s=>.str s
 | .dict d=>.dict d
def A7u:List PyData->List PyData
 | []=>[]
 | d::ds=>C7r d::A7u ds
end
def A55 (i:Nat) (c:Int) (te:DE) (D:K2) (ρ:List Sl):Prop:=match ρ[i]? with
 | some (.ot (.tuple xs))=>Q1 ρ=true/\match atI xs c with
  | some (.list ds)=>(V5 ds=true/\ds.length<=100000)/\te (ρ.set i (.bd (.tuple xs))) fun d' ρ'=>ρ'=ρ.set i (.bd (.tuple xs))/\O8 d'=true/\∀xs',A7u xs'=A7u xs->D.nx (ρ.set i (.ot (.tuple xs')))
  | _=>False
 | _=>False
open Classical in
def A56 (i:Nat) (c:Int) (te:DE) (D:K2) (ρ:List Sl):Prop:=match ρ[i]? with
 | some (.ot (.tuple xs))=>Q1 ρ=true/\match atI xs c with
  | some (.list ds)=>ds.length<=100000/\te (ρ.set i (.bd (.tuple xs))) fun d' ρ'=>ρ'=ρ.set i (.bd (.tuple xs))/\D.nx (ρ.set i .no)
  | _=>False
 | _=>False
open Classical in
def A57 (i:Nat) (c:Int) (D:K2) (ρ:List Sl):Prop:=match ρ[i]? with
 | some (.ot (.tuple xs))=>match atI xs c with
  | some (.list _)=>∀xs',A7u xs'=A7u xs->D.nx (ρ.set i (.ot (.tuple xs')))
  | _=>False
 | _=>False
end
end My
namespace L2
open PySem PySem.Spec PyProof.Rows
section
variable {X:Cx}
end
end L2
namespace My
open PySem L2
section
variable {X:Cx} {C:DC} {a b:Expr} {te:DE} {pos:Pos} {i:Nat}
def A58 (te:DE) (i:Nat) (ρ:List Sl) (Q:PyData->List Sl->Prop):Prop:=te ρ fun d ρ1=>bnd (P3 ρ1 i) fun a=>bnd (M8 a) fun xs=>(PyData.canLayAll0 xs=true/\d.canLay0=true/\d.depth<=60)/\Q (.bool (!(xs.any fun z=>PyData.eqv z d))) ρ1
end
section
variable {X:Cx} {C:DC} {e a b:Expr} {t:DE} {tt:DT} {i:Nat} {pos:Pos}
def A59 (i:Nat) (tt:DT)  (ρ:List Sl) (Q:Bool->List Sl->Prop):Prop:=match ρ[i]? with
 | some (.ot d)=>Q1 ρ=true/\tt (ρ.set i (.bd d)) fun b ρ'=>ρ'=ρ.set i (.bd d)/\Q b ρ
 | _=>tt ρ Q
end
section
variable {X:Cx} {C:DC} {e:Expr} {u:DA} {i:Nat}
def arS (ρ:List Sl) (i:Nat) (m:Md) (a:Ar):Option PyData:=match m,a with
 | .sh,.s j=>if j=i then (match ρ[i]? with
  | some (.ot d)=>some d
  | _=>none) else none
 | m,a=>arD ρ m a
def A2i (ρ:List Sl) (i:Nat):List Md->List Ar->Option (List PyData)
 | [],[]=>some []
 | m::ms,a::as=>(arS ρ i m a).bind fun d=>(A2i ρ i ms as).map (d::·)
 | _,_=>none
def A6a (i:Nat) (ms:List Md) (sp:DSp) (u:DA)  (ρ:List Sl) (Q:PyData->List Sl->Prop):Prop:=u ρ fun as ρ'=>bnd (A2i ρ' i ms as) fun ds=>sp ds fun d=>O8 d=true/\Q d ρ'
end
section
variable {C:DC} {col:Addr->Nat} {ρ:List Sl} {σ:St} {P:List Pe} {H H':Hp} {p:Addr}
end
section
variable {X:Cx} {C:DC} {st:Stmt} {e a b:Expr} {te tk:DE} {pos:Pos}
theorem A9.lenD {F:Addr->Prop} {H:Hp}:∀{vs:List V} {ds:List PyData},A9 F H vs ds->vs.length=ds.length
 | _,_,.nil=>rfl
 | _,_,.cons _ t=>by rw[K8,K8,A9.lenD t]
end
section
variable {X:Cx} {C:DC} {st:Stmt}
end
section
variable {X:Cx} {C:DC} {st:Stmt} {i j:Nat}
end
section
variable {X:Cx} {C:DC} {e:Expr} {te tp tl:DE} {i:Nat}
open Classical in
end
open PySem.Spec
section
variable {X:Cx} {C:DC} {a st:Expr} {pos:Pos}
def C0y (i:Nat) (ρ:List Sl) (Q:List PyData->List Sl->Prop):Prop:=bnd (P3 ρ i) fun a=>bnd (M8 a) fun xs=>Q xs.reverse ρ
theorem C7s {i:Nat} {p2:Pos} (ha:PE X a (X4 i)) (hs:PO X (some st) (oOf C (oS (A1x (dC (.int 1)))))):PE X (.Subscript a (.Slice none none (some st) p2) pos) (fOf C (C0y i)):=PE.wk (C5q ha hs) fun σ H Q zz=>el3 zz fun ρ P Qd zz2 ht k=>zz2.elim fun col r=>by
 obtain⟨a,ha,ht⟩:=K5 ht
 obtain⟨xs,hx,q⟩:=K5 ht
 obtain⟨v,ev,t1⟩:=r.slot ha
 refine⟨v,ev,ρ,P,fun o ρ'=>o=some (-1)/\ρ'=ρ,⟨col,r⟩,⟨rfl,rfl⟩,fun o ρ' H' R' h=>?_⟩
 obtain⟨rfl,rfl⟩:=h
 obtain⟨col',r'⟩:=R'
 obtain⟨v',ev',t1'⟩:=r'.slot ha
 rw[ev] at ev'
 cases ev'
 have:=A0f hx
 subst this
 obtain⟨p,vs,rfl,e,t⟩:=t1'.lst
 exact⟨rfl,p,vs,rfl,SqL.of e,fun b hb=>k _ _ _ _ _ ⟨col',r',t.rev⟩ hb q⟩
end
section
variable {X:Cx} {C:DC}
end
mutual
def okS:PyData->Bool
 | .none=>true
 | .bool _=>true
 | .int _=>true
 | .str _=>true
 | .tuple xs=>B4t xs
 | .list xs=>B4t xs
 | .dict ks=>ks.isEmpty
def B4t:List PyData->Bool
 | []=>true
 | d::ds=>okS d&&B4t ds
end
section
variable {X:Cx} {pins:List (Addr×Obj)} {σ:St} {H:Hp} {s:Shared} {F:Addr->Prop}
end
section
variable {C:DC}
end
open PyProof.Rows
section
variable {X:Cx} {C:DC} {st:Stmt} {i:Nat}
open Classical in
end
section
variable {X:Cx} {C:DC} {a b:Expr} {tl tb:DE} {pos:Pos}
end
mutual
inductive FpV (F:Addr->Prop) (H:Hp):V->PyData->List Addr->Prop
 | non:FpV F H .non .none []
 | bl (b):FpV F H (.bl b) (.bool b) []
 | int (i):FpV F H (.int i) (.int i) []
 | str (x):FpV F H (.str x) (.str x) []
 | lst {a xs ds fp}:F a->H a=some (.lst xs)->G0 F H xs ds fp->FpV F H (.ref a) (.list ds) (a::fp)
 | tup {a xs ds fp}:F a->H a=some (.tup xs)->G0 F H xs ds fp->FpV F H (.ref a) (.tuple ds) fp
inductive G0 (F:Addr->Prop) (H:Hp):List V->List PyData->List Addr->Prop
 | nil:G0 F H [] [] []
 | cons {x xs d ds fp fps}:FpV F H x d fp->G0 F H xs ds fps->G0 F H (x::xs) (d::ds) (fp++fps)
end
mutual
theorem FpV.th {F:Addr->Prop} {H:Hp}:∀{v:V} {d:PyData} {fp:List Addr},FpV F H v d fp->ThV F H v d
 | _,_,_,.non=>.non
 | _,_,_,.bl b=>.bl b
 | _,_,_,.int i=>.int i
 | _,_,_,.str x=>.str x
 | _,_,_,.lst n e t=>.lst n e (G0.th t)
 | _,_,_,.tup n e t=>.tup n e (G0.th t)
theorem G0.th {F:Addr->Prop} {H:Hp}:∀{vs:List V} {ds:List PyData} {fp:List Addr},G0 F H vs ds fp->A9 F H vs ds
 | _,_,_,.nil=>.nil
 | _,_,_,.cons x t=>.cons (FpV.th x) (G0.th t)
end
mutual
theorem FpV.mvm {F G:Addr->Prop} {H H':Hp}:∀{v:V} {d:PyData} {fp:List Addr},FpV F H v d fp->(∀b o,F b->H b=some o->(b∈fp\/∃xs,o=.tup xs)->G b/\H' b=some o)->FpV G H' v d fp
 | _,_,_,.non,_=>.non
 | _,_,_,.bl b,_=>.bl b
 | _,_,_,.int i,_=>.int i
 | _,_,_,.str x,_=>.str x
 | _,_,_,.lst n e t,f=>
  have q:=f _ _ n e (.inl C0)
  .lst q.1 q.2 (G0.mvm t fun b o z e h=>f b o z e (h.imp (B6 _) id))
 | _,_,_,.tup n e t,f=>
  have q:=f _ _ n e (.inr ⟨_,rfl⟩)
  .tup q.1 q.2 (G0.mvm t f)
theorem G0.mvm {F G:Addr->Prop} {H H':Hp}:∀{vs:List V} {ds:List PyData} {fp:List Addr},G0 F H vs ds fp->(∀b o,F b->H b=some o->(b∈fp\/∃xs,o=.tup xs)->G b/\H' b=some o)->G0 G H' vs ds fp
 | _,_,_,.nil,_=>.nil
 | _,_,_,.cons x t,f=>.cons (FpV.mvm x fun b o z e h=>f b o z e (h.imp (fun h=>O9.mpr (.inl h)) id)) (G0.mvm t fun b o z e h=>f b o z e (h.imp (fun h=>O9.mpr (.inr h)) id))
end
mutual
theorem FpV.mem {F:Addr->Prop} {H:Hp}:∀{v:V} {d:PyData} {fp:List Addr},FpV F H v d fp->∀b∈fp,F b/\∃xs,H b=some (.lst xs)
 | _,_,_,.non,_,h=>nomatch h
 | _,_,_,.bl _,_,h=>nomatch h
 | _,_,_,.int _,_,h=>nomatch h
 | _,_,_,.str _,_,h=>nomatch h
 | _,_,_,.lst n e t,b,h=>by
  rcases N1.mp h with rfl | h
  ·exact⟨n,_,e⟩
  ·exact G0.mem t b h
 | _,_,_,.tup n e t,b,h=>G0.mem t b h
theorem G0.mem {F:Addr->Prop} {H:Hp}:∀{vs:List V} {ds:List PyData} {fp:List Addr},G0 F H vs ds fp->∀b∈fp,F b/\∃xs,H b=some (.lst xs)
 | _,_,_,.nil,_,h=>nomatch h
 | _,_,_,.cons x t,b,h=>by
  rcases O9.mp h with h | h
  ·exact FpV.mem x b h
  ·exact G0.mem t b h
end
mutual
theorem ThV.fp0 {F:Addr->Prop} {H:Hp}:∀{v:V} {d:PyData},ThV F H v d->O8 d=true->FpV F H v d []
 | _,_,.non,_=>.non
 | _,_,.bl b,_=>.bl b
 | _,_,.int i,_=>.int i
 | _,_,.str x,_=>.str x
 | _,_,.lst _ _ _,h=>by rw[O8] at h;cases h
 | _,_,.tup n e t,h=>.tup n e (A9.fp0 t (by rw[O8] at h;exact h))
 | _,_,.dic _ _ _,h=>by rw[O8] at h;cases h
theorem A9.fp0 {F:Addr->Prop} {H:Hp}:∀{vs:List V} {ds:List PyData},A9 F H vs ds->V5 ds=true->G0 F H vs ds []
 | _,_,.nil,_=>.nil
 | _,_,.cons x t,h=>by
  rw[V5,U7] at h
  exact G0.cons (fps:=[]) (ThV.fp0 x h.1) (A9.fp0 t h.2)
end
mutual
theorem FpV.uniq {F G:Addr->Prop} {H:Hp}:∀{v:V} {d d':PyData} {fp fq:List Addr},FpV F H v d fp->FpV G H v d' fq->d=d'/\fp=fq
 | _,_,_,_,_,.non,h=>by cases h;exact⟨rfl,rfl⟩
 | _,_,_,_,_,.bl b,h=>by cases h;exact⟨rfl,rfl⟩
 | _,_,_,_,_,.int i,h=>by cases h;exact⟨rfl,rfl⟩
 | _,_,_,_,_,.str x,h=>by cases h;exact⟨rfl,rfl⟩
 | _,_,_,_,_,.lst n e t,h=>by
  cases h with
  | lst n' e' t'=>
   rw[e] at e'
   cases e'
   obtain⟨rfl,rfl⟩:=G0.uniq t t'
   exact⟨rfl,rfl⟩
  | tup n' e' t'=>rw[e] at e';cases e'
 | _,_,_,_,_,.tup n e t,h=>by
  cases h with
  | lst n' e' t'=>rw[e] at e';cases e'
  | tup n' e' t'=>
   rw[e] at e'
   cases e'
   obtain⟨rfl,rfl⟩:=G0.uniq t t'
   exact⟨rfl,rfl⟩
theorem G0.uniq {F G:Addr->Prop} {H:Hp}:∀{vs:List V} {ds ds':List PyData} {fp fq:List Addr},G0 F H vs ds fp->G0 G H vs ds' fq->ds=ds'/\fp=fq
 | _,_,_,_,_,.nil,h=>by cases h;exact⟨rfl,rfl⟩
 | _,_,_,_,_,.cons x t,h=>by
  cases h with
  | cons x' t'=>
   obtain⟨rfl,rfl⟩:=FpV.uniq x x'
   obtain⟨rfl,rfl⟩:=G0.uniq t t'
   exact⟨rfl,rfl⟩
end
theorem G0.append {F:Addr->Prop} {H:Hp}:∀{xs:List V} {ds:List PyData} {fp:List Addr} {ys:List V} {es:List PyData} {fq:List Addr},G0 F H xs ds fp->G0 F H ys es fq->G0 F H (xs++ys) (ds++es) (fp++fq)
 | _,_,_,_,_,_,.nil,y=>y
 | _,_,_,_,_,_,.cons x t,y=>by
  rw[A1h]
  exact .cons x (G0.append t y)
theorem G0.put {F:Addr->Prop} {H:Hp}:∀{vs:List V} {ds:List PyData} {fp:List Addr} {i:Nat} {d:PyData},G0 F H vs ds fp->fp.Nodup->ds[i]?=some d->
  ∃v fp2,vs[i]?=some v/\FpV F H v d fp2/\fp2.Nodup/\(∀b∈fp2,b∈fp)/\∀(G:Addr->Prop) (H':Hp) (d':PyData) (fp2':List Addr),FpV G H' v d' fp2'->fp2'.Sublist fp2->(∀b o,F b->H b=some o->b∉fp2->G b/\H' b=some o)->∃fp',G0 G H' vs (ds.set i d') fp'/\fp'.Sublist fp
 | _,_,_,_,_,.nil,_,e=>by cases e
 | _,_,_,0,d,.cons (x:=x) (fp:=fp) (fps:=fps) t ts,nd,e=>by
  cases Option.some.inj e
  have nd':=A65.mp nd
  refine⟨x,fp,rfl,t,nd'.1,fun b h=>O9.mpr (.inl h),fun G H' d' fp2' t' hs f=>⟨fp2'++fps,.cons t' (ts.mvm fun b o z eb h=>f b o z eb fun hb=>?_),hs.append (List.Sublist.refl _)⟩⟩
  rcases h with h | ⟨xs,rfl⟩
  ·exact nd'.2.2 b hb b h rfl
  ·obtain⟨_,ys,ey⟩:=t.mem b hb
   rw[eb] at ey;cases ey
 | _,_,_,i + 1,d,.cons (x:=x) (fp:=fp) (fps:=fps) t ts,nd,e=>by
  have nd':=A65.mp nd
  obtain⟨v,fp2,hv,tv,n2,hm,hk⟩:=G0.put (i:=i) ts nd'.2.1 (show _=some d from e)
  refine⟨v,fp2,hv,tv,n2,fun b h=>O9.mpr (.inr (hm b h)),fun G H' d' fp2' t' hs f=>?_⟩
  obtain⟨fp',tt,sl⟩:=hk G H' d' fp2' t' hs f
  refine⟨fp++fp',.cons (t.mvm fun b o z eb h=>f b o z eb fun hb=>?_) tt,(List.Sublist.refl _).append sl⟩
  rcases h with h | ⟨xs,rfl⟩
  ·exact nd'.2.2 b h b (hm b hb) rfl
  ·obtain⟨_,ys,ey⟩:=tv.mem b hb
   rw[eb] at ey;cases ey
def trR (d:PyData):A8v where
 p:=fun W H v=>∃fp,FpV W H v d fp/\fp.Nodup
 mv:=fun f ⟨fp,t,n⟩=>⟨fp,t.mvm fun b o z e _=>f b o z e,n⟩
section
variable {C:DC} {col col2:Addr->Nat} {ρ:List Sl} {σ:L2.St} {P:List Pe} {H H2:Hp} {i:Nat} {d:PyData} {R:A8v}
open Classical in
open Classical in
end
section
variable {X:Cx} {C:DC} {e:Expr} {es:List Expr} {st:Stmt} {t te:DE} {tt:DT} {u:DA} {i:Nat}
def A6b (i:Nat) (t:DE)  (ρ:List Sl) (Q:PyData->List Sl->Prop):Prop:=match ρ[i]? with
 | some (.ob R)=>∃d,R=trR d/\Q1 ρ=true/\t (ρ.set i (.bd d)) fun d' ρ'=>ρ'=ρ.set i (.bd d)/\Q d' ρ
 | _=>t ρ Q
def A6c (i:Nat) (tt:DT)  (ρ:List Sl) (Q:Bool->List Sl->Prop):Prop:=match ρ[i]? with
 | some (.ob R)=>∃d,R=trR d/\Q1 ρ=true/\tt (ρ.set i (.bd d)) fun b ρ'=>ρ'=ρ.set i (.bd d)/\Q b ρ
 | _=>tt ρ Q
def arF (ρ:List Sl) (m:Md) (a:Ar):Option PyData:=match m,a with
 | .sh,.w d=>some d
 | .sh,.s i=>match ρ[i]? with
  | some (.bd d)=>some d
  | some (.sh d)=>some d
  | _=>none
 | m,a=>arD ρ m a
def A2j (ρ:List Sl):List Md->List Ar->Option (List PyData)
 | [],[]=>some []
 | m::ms,a::as=>(arF ρ m a).bind fun d=>(A2j ρ ms as).map (d::·)
 | _,_=>none
def A6d (ms:List Md) (sp:DSp) (u:DA)  (ρ:List Sl) (Q:PyData->List Sl->Prop):Prop:=u ρ fun as ρ'=>bnd (A2j ρ' ms as) fun ds=>sp ds fun d=>O8 d=true/\Q d ρ'
def A7v (ms:List Md) (sp:DSp):Sp:=fun vs H Q _=>∃F hand ds Qd,((∀b,H b=none->F b)/\∀b xs,H b=some (.tup xs)->F b)/\(∀q,hand=some q->¬ F q.1)/\Hq hand H/\U3 F hand H ms vs ds/\sp ds Qd/\
 ∀d v H' fp,Qd d->FpV (fun b=>H b=none\/∃xs,H b=some (.tup xs)) H' v d fp->fp.Nodup->Kq hand H H'->Hq hand H'->Q v H'
open Classical in
def A6e (i:Nat) (ms:List Md) (sp:DSp) (u:DA)  (D:K2) (ρ:List Sl):Prop:=u ρ fun as ρ'=>bnd (P7 ρ' ms as) fun ds=>sp ds fun d=>D.nx (ρ'.set i (.ob (trR d)))
end
structure C0z (C:DC) (J:It) (xs:List PyData):Prop where
 go:∀{i:Nat} {ρ:List Sl} {σ:L2.St} {P:List Pe} {H:Hp},Rel C ρ σ P H->i < xs.length->J.go i H
 yld:∀{i:Nat} {ρ:List Sl} {σ:L2.St} {P:List Pe} {H H':Hp} {x:V} {d:PyData},Rel C ρ σ P H->xs[i]?=some d->J.yld i H x H'->Rel C ρ σ P H'/\ThV (Le C) C.H0 x d
 stop:∀{ρ:List Sl} {σ:L2.St} {P:List Pe} {H:Hp},Rel C ρ σ P H->J.stop xs.length H
def jOf (C:DC) (t:DF):TI:=fun σ H R=>∃ρ P Qd,Rel C ρ σ P H/\t ρ Qd/\∀xs ρ' H' J,Rel C ρ' σ P H'->C0z C J xs->Qd xs ρ'->R J H'
section
variable {X:Cx} {C:DC} {tg e:Expr} {t:DE} {st:Stmt} {i:Nat}
theorem C7t {K:B3} {a:Addr} {vs:List V} {xs:List PyData} (ea:C.H0 a=some (.lst vs)) (na:∀q,C.hand=some q->a≠q.1) (t:A9 (Le C) C.H0 vs xs):C0z C (Itv K a vs.length) xs.reverse where
 go:=fun {i ρ σ P H} R hi=>by
  obtain⟨col,r⟩:=R
  have hl:=t.len
  rw[A0u] at hi
  exact⟨vs,vs.reverse[i]'(by rw[A0u];omega),SqL.of (r.kq a _ ea na),rfl,K3 _⟩
 yld:=fun {i ρ σ P H H' x d} R hi y=>by
  obtain⟨e,y⟩:=y
  subst e
  obtain⟨col,r⟩:=R
  have hx:=y vs (SqL.of (r.kq a _ ea na))
  obtain⟨d',e1,t'⟩:=t.rev.get hx
  rw[hi] at e1
  cases e1
  exact⟨⟨col,r⟩,t'⟩
 stop:=fun {ρ σ P H} R=>by
  have hl:=t.len
  show vs.length<=xs.reverse.length
  rw[A0u];omega
def B00 (t:DE)  (ρ:List Sl) (Q:List PyData->List Sl->Prop):Prop:=t ρ fun d ρ'=>bnd (M8 d) fun xs=>Q xs.reverse ρ'
theorem C7u {K:B3} (h:PI X tg e (B83 K (X7 (lOf C t) g9))):PI X tg e (jOf C (B00 t)):=PI.wk h fun _ _ _ z=>el3 z fun ρ P _ R ht k=>⟨ρ,P,_,R,ht,fun v d ρ' H' R' q=>R'.elim fun col r=>by
 obtain⟨xs,hx,q2⟩:=K5 q
 have:=A0f hx
 subst this
 obtain⟨a,vs,rfl,n,e1,t1⟩:=K1 (show ThV (Le C) C.H0 v (.list xs) from r.pd _ C0)
 exact⟨a,vs,rfl,SqL.of (r.kq a _ e1 n.2),k _ ρ' H' _ ⟨col,r.sub fun _ h=>B6 _ h⟩ (C7t e1 n.2 t1) q2⟩⟩
def B4u (t:DE)  (ρ:List Sl) (Q:List PyData->List Sl->Prop):Prop:=t ρ fun d ρ'=>bnd (M8 d) fun xs=>Q xs ρ'
theorem D8.storeL {col:Addr->Nat} {ρ:List Sl} {σ:L2.St} {P:List Pe} {H:Hp} {v:V} {d:PyData} (r:D8 C col ρ σ P H) (t:ThV (Le C) C.H0 v d):D8 C col (ρ.set i (.bd d)) (σ.set i (some v)) P H:=by
 refine { r with sl:=fun j s es=>?_,len:=by rw[O3,O3];exact r.len }
 by_cases hj:j=i
 ·subst hj
  rw[n9] at es
  simp only[if_true] at es
  split at es
  ·rename_i hl
   cases es
   refine⟨v,?_,t⟩
   rw[n9,if_pos rfl,if_pos (by rw[<-r.len];exact hl)];rfl
  ·cases es
 ·rw[U6 (Ne.symm hj)] at es
  rw[U6 (Ne.symm hj)]
  exact r.sl j s es
def A6f (i:Nat) (t:DE) (D:K2) (ρ:List Sl):Prop:=t ρ fun d ρ'=>D.nx (ρ'.set i (.bd d))
def B01 (it:DF) (i:Nat) (tb:DS) (D:K2) (ρ:List Sl):Prop:=it ρ fun xs ρ1=>∃I:List PyData->List Sl->Prop,I xs ρ1/\(∀x r ρ,I (x::r) ρ->Blk tb { nx:=I r,ct:=I r,bk:=D.nx,rt:=D.rt } (ρ.set i (.bd x)))/\∀ρ,I [] ρ->D.nx ρ
theorem C7v {it:DF} {tb:DS} (hp:PS X st (B2y (jOf C it) (R6 i) (sOf C tb))):PS X st (sOf C (B01 it i tb)):=PS.wk hp fun D σ H z=>el3 z fun ρ P Dd R ht E=>⟨ρ,P,_,R,ht,fun xs ρ1 H1 J R1 io q=>by
 obtain⟨I,q0,qs,qd⟩:=q
 refine⟨fun i m σ' H'=>m=xs.length - i/\i<=xs.length/\∃ρ',Rel C ρ' σ' P H'/\I (xs.drop i) ρ',⟨xs.length,by simp,M6 _,ρ1,R1,q0⟩,?_⟩
 rintro n m σ2 H2 ⟨rfl,hi,ρ2,R2,q2⟩
 by_cases hlt:n < xs.length
 ·rw[A4o hlt] at q2
  refine .inr ⟨io.go R2 hlt,fun σ' H'=>∃ρ',Rel C ρ' σ' P H'/\I (xs.drop (n + 1)) ρ',fun σ' H' h=>⟨xs.length - (n + 1),by omega,rfl,hlt,h⟩,fun x H3 y=>?_⟩
  obtain⟨⟨col,r3⟩,tx⟩:=io.yld R2 (K3 hlt) y
  refine⟨ρ2.set i (.bd xs[n]),P,⟨I (xs.drop (n + 1)),Dd.rt,Dd.nx,I (xs.drop (n + 1)),fun _=>False⟩,⟨col,r3.storeL tx⟩,qs _ _ _ q2,⟨fun ρ4 σ4 H4 R4 q4=>⟨ρ4,R4,q4⟩,fun v d ρ4 σ4 H4 R4 q4=>E.rt v d ρ4 σ4 H4 R4 q4,fun ρ4 σ4 H4 R4 q4=>E.nx ρ4 σ4 H4 R4 q4,fun ρ4 σ4 H4 R4 q4=>⟨ρ4,R4,q4⟩,fun _ _ _ _ _ _ _ _ h=>h.elim⟩⟩
 ·have e:n=xs.length:=by omega
  subst e
  rw[B2l] at q2
  exact .inl ⟨io.stop R2,E.nx _ _ _ R2 (qd _ q2)⟩⟩
end
section
variable {X:Cx} {C:DC} {st:Stmt} {i j ia ib:Nat}
theorem B02 {F:Addr->Prop} {H:Hp} {v:V} {xs:List PyData} {fp:List Addr} (t:FpV F H v (.list xs) fp):∃a vs fq,v=.ref a/\fp=a::fq/\F a/\H a=some (.lst vs)/\G0 F H vs xs fq:=by
 cases t with
 | lst n e t=>exact⟨_,_,_,rfl,rfl,n,e,t⟩
theorem C7w {F:Addr->Prop} {H:Hp} {v:V} {xs:List PyData} {fp:List Addr} (t:FpV F H v (.tuple xs) fp):∃a vs,v=.ref a/\F a/\H a=some (.tup vs)/\G0 F H vs xs fp:=by
 cases t with
 | tup n e t=>exact⟨_,_,rfl,n,e,t⟩
theorem C7x {F:Addr->Prop} {H:Hp} {vs:List V} {d1 d2:PyData} {fp:List Addr} (t:G0 F H vs [d1,d2] fp):∃v1 v2 f1 f2,vs=[v1,v2]/\fp=f1++f2/\FpV F H v1 d1 f1/\FpV F H v2 d2 f2:=by
 cases t with
 | cons x t=>
  cases t with
  | cons y t=>
   cases t
   exact⟨_,_,_,_,rfl,by rw[n6],x,y⟩
def A6g (i j:Nat) (D:K2) (ρ:List Sl):Prop:=match ρ[i]?,ρ[j]? with
 | some (.ob R),some (.sh (.int z))=>∃(ds ps:List PyData) (s:PyData) (k:Nat),R=trR (.list ds)/\z=(k:Nat)/\ds[k]?=some (.tuple [s,.list ps])/\D.nx (ρ.set i (.ob (trR (.list (ds.set k (.tuple [s,.list []]))))))
 | _,_=>False
def PtA (n:Nat) (p:PyData):Prop:=∃es t,p=.tuple [.list es,t]/\V5 es=true/\O8 t=true/\es.length<=n
def A6h (i j ia ib:Nat) (D:K2) (ρ:List Sl):Prop:=match ρ[i]?,ρ[j]? with
 | some (.ob R),some (.sh (.int z))=>∃(ds ps:List PyData) (s:PyData) (k:Nat),R=trR (.list ds)/\z=(k:Nat)/\ds[k]?=some (.tuple [s,.list ps])/\(∀p∈ps,PtA 1000 p)/\ps.length<=1000/\((i≠ia/\i≠ib/\ia≠ib)/\i < ρ.length/\ia < ρ.length/\ib < ρ.length)/\
  ∀ps':List PyData,ps'.length=ps.length->D.nx (((ρ.set ia .no).set ib .no).set i (.ob (trR (.list (ds.set k (.tuple [s,.list ps']))))))
 | _,_=>False
theorem G0.len {F:Addr->Prop} {H:Hp} {vs:List V} {ds:List PyData} {fp:List Addr} (t:G0 F H vs ds fp):vs.length=ds.length:=t.th.len
end
end My
namespace L2
open PySem PySem.Spec PyProof.Rows
section
variable {X:Cx}
end
end L2
namespace My
open PySem L2
open PySem.Spec PyProof.Rows
def C00:A8v where
 p:=fun W H v=>∃a xs,v=.ref a/\W a/\H a=some (.lst xs)
 mv:=fun f ⟨a,xs,e,g,h⟩=>⟨a,xs,e,(f a _ g h).1,(f a _ g h).2⟩
section
variable {X:Cx} {C:DC} {e:Expr} {st:Stmt} {u:DA} {i:Nat}
def A6i (i:Nat) (cond:List PyData->Prop) (ρ:List Sl) (Q:PyData->List Sl->Prop):Prop:=match ρ[i]? with
 | some (.ob R)=>∃ds,R=trR (.list ds)/\cond ds/\Q (.bool true) (ρ.set i (.ob C00))
 | _=>False
def A6j (i:Nat) (D:K2) (ρ:List Sl):Prop:=match ρ[i]? with
 | some (.ob R)=>((∃ds,R=trR (.list ds))\/R=C00)/\D.nx (ρ.set i .no)
 | _=>False
def A6k (ms:List Md) (sp:DSp) (u:DA)  (D:K2) (ρ:List Sl):Prop:=u ρ fun as ρ'=>bnd (P7 ρ' ms as) fun ds=>sp ds fun _=>D.nx ρ'
end
def C01:A8v where
 p:=fun W H v=>∃a w t xs,v=.ref a/\(W a/\H a=some (.tup [w,.ref t]))/\(W t/\H t=some (.lst xs))/\xs.length<=1000
 mv:=fun f ⟨a,w,t,xs,e,g,h,l⟩=>⟨a,w,t,xs,e,f a _ g.1 g.2,f t _ h.1 h.2,l⟩
def ThA (n:Nat) (p:PyData):Prop:=PtA n p\/∃x t,p=.tuple [.str x,t]/\O8 t=true
section
variable {X:Cx} {C:DC} {st:Stmt} {i j:Nat}
def A6l (i j:Nat) (D:K2) (ρ:List Sl):Prop:=match ρ[i]? with
 | some (.ob R)=>∃(s:PyData) (ps:List PyData),R=trR (.tuple [s,.list ps])/\(∀p∈ps,ThA 1000 p)/\ps.length<=900/\(i≠j/\i < ρ.length/\j < ρ.length)/\D.nx ((ρ.set j .no).set i (.ob C01))
 | _=>False
def A6m (i:Nat) (D:K2) (ρ:List Sl):Prop:=match ρ[i]? with
 | some (.ob R)=>R=C01/\D.nx (ρ.set i .no)
 | _=>False
end
end My
namespace L2
open PySem PySem.Spec PyProof.Rows
section
variable {prog:Program} {w:World} {A:Around} {E:Value->Shared->Prop} {s:Shared}
theorem C02 {h:Heap} {a:Addr} {items:Array Value} (x:h.IsList a items) (o:Obj):(h.push o).IsList a items:=
 let ⟨o',ho,r⟩:=x;⟨o',P6 o ho,r⟩
theorem C03 {it t:Addr} {items:Array Value} (hne:t≠it):∀(n i:Nat) (s:Shared) (Q:List Value->Shared->Prop),s.heap.IsListIter it t i->s.heap.IsList t items->i + n<=items.size->
  (∀h',h'.IsListIter it t (i + n)->Heap.SameBut it s.heap h'->Q ((items.toList.drop i).take n) { s with heap:=h' })->wpAny (model prog w) A (draw (.ref it) n) Q E s
 | 0,i,s,Q,hit,_,_,hQ=>by
  show wpAny _ _ (pure []) Q E s
  exact wpAny_pure (by simpa using hQ s.heap hit (Heap.SameBut.refl ..))
 | n + 1,i,s,Q,hit,ht,hle,hQ=>by
  have hlt:i < items.size:=by omega
  show wpAny _ _ (pyNext (.ref it) >>= _) Q E s
  refine wpAny_bind (wpAny_pyNext_list_item hit ht (x:=items[i]) (by simp [hlt]) fun h₁ hit₁ hs₁=>?_)
  refine wpAny_bind (wpAny_holding (C03 hne n (i + 1) _ _ hit₁ (ht.extBut hs₁.extBut hne) (by omega) fun h₂ hit₂ hs₂=>wpAny_pure ?_))
  have hd:items.toList.drop i=items[i]::items.toList.drop (i + 1):=by simp [A4o,hlt]
  have:=hQ h₂ (by rw[show i + (n + 1)=i + 1 + n by omega];exact hit₂) (hs₁.trans hs₂)
  rw[hd,List.take_succ_cons] at this
  exact this
theorem C7y {t:Addr} {items:Array Value} {Q:List Value->Shared->Prop} (hh:A.handled=none) (ht:s.heap.IsList t items)
  (hQ:∀h',Heap.ExtBut s.heap.objs.size s.heap h'->Q items.toList { s with heap:=h' }):wpAny (model prog w) A (unpackItems (.ref t) items.size none) Q E s:=by
 have hlt:t≠s.heap.objs.size:=by obtain⟨o,ho,_⟩:=ht;exact M5 (G9 ho)
 unfold unpackItems
 refine wpAny_bind ?_
 ·unfold notIterableAtAll
  refine wpAny_bind (wpAny_specialOf ht.typeIs PySem.F.slot_list_iter.lookup ?_)
  refine wpAny_pure ?_
  simp only[A9q,if_false]
  refine wpAny_bind (wpAny_holding (wpAny_pyIter_list ht ?_))
  refine wpAny_bind (wpAny_holding (C03 hlt items.size 0 _ _ ⟨_,X2 _ rfl,rfl,rfl⟩ (C02 ht _) (by omega) fun h₁ hit₁ hs₁=>?_))
  have hall:List.take items.size (List.drop 0 items.toList)=items.toList:=by
   rw[B7f];exact A9s (by simp)
  rw[hall]
  rw[if_neg (by simp)]
  have ht₁:h₁.IsList t items:=(C02 ht _).extBut hs₁.extBut hlt
  refine wpAny_bind (wpAny_holding (wpAny_pyNext_list_end hh hit₁ ht₁ (by simp) fun h₂ he₂=>?_))
  simp only[Option.isSome_none,A9q,if_false]
  refine wpAny_pure (hQ h₂ fun b o hb e=>he₂ b o hb (hs₁.extBut b o hb (P6 _ e)))
end
section
variable {X:Cx} {pos:Pos}
def C04 (K:B3) (n:Nat) (t:TGs):TG:=fun v σ H Q=>∃a xs,v=.ref a/\SqL K H a xs/\xs.length=n/\t xs σ H Q
theorem C7z {es:List Expr} {k:Nat} {t:TGs} {n:Nat} (hc:X.calm=true) (h:PGs X es t)
  (hn:(assignEach es X.env).length=n:=by rfl) (hst:(assignEach es X.env).findIdx? (·.1)=none:=by rfl):PG X (.Tuple es k pos) (C04 X.K n t):=by
 intro pins s σ H v u Q I r hw
 obtain⟨a,xs,e1,hq,hl,hw⟩:=hw
 subst e1
 cases r
 obtain⟨its,rv,ht,hz⟩:=I.list hq
 rw[arm_assign_Tuple]
 refine wpAny_bind (wpAny_standAt ?_)
 unfold unpack
 rw[hst,show (assignEach es X.env).length=its.toArray.size from by simp [hn,<-hl,rv.length]]
 refine wpAny_bind (wpAny_holding (C7y (I.ok.hd hc) ht.isList fun h' hx=>?_))
 have I1:Inv X pins σ H { s with heap:=h' }:=I.kept (t':=s.toks) fun b o e=>hx b o (M5 (G9 e)) e
 exact h pins _ σ H xs _ Q I1 (by simpa using rv) hw
end
end L2
namespace My
open PySem L2
section
variable {X:Cx} {C:DC}
def gL2 (i j:Nat)  (d:PyData) (ρ:List Sl) (Q:List Sl->Prop):Prop:=match d with
 | .list [a,b]=>Q ((ρ.set i (.sh a)).set j (.sh b))
 | _=>False
theorem C70 {tg:Expr} {i j:Nat} {K:B3} (h:PG X tg (C04 K 2 (X5 (R6 i) (X5 (R6 j) A4s)))):PG X tg (gOf C (gL2 i j)):=PG.wk h fun v σ H Q ⟨ρ,P,d,Qd,⟨col,r⟩,ht,k⟩=>by
 unfold gL2 at ht
 split at ht
 ·rename_i a b
  have z:ThV (Z col) H v (.list [a,b]):=r.pd _ C0
  cases z with
  | lst za e t=>
   obtain⟨x,y,rfl,t1,t2⟩:=S9 t
   exact⟨_,_,rfl,SqL.of e,rfl,x,[y],rfl,y,[],rfl,rfl,k _ _ ⟨col,(((r.store (i:=i) t1).store (i:=j) t2).sub fun _ h=>B6 _ h)⟩ ht⟩
 ·exact ht.elim
end
theorem L0 {us:List Value} {n:Nat} (h:us.length=n + 1):∃a r,us=a::r/\r.length=n:=by
 cases us with
 | nil=>cases h
 | cons a r=>exact⟨a,r,rfl,Nat.succ.inj h⟩
theorem D36 {us:List Value} (h:us.length=0):us=[]:=by
 cases A4p h
 exact rfl
theorem c9 {us:List Value} (h:us.length=1):∃a0,us=[a0]:=by
 obtain⟨a0,u0,rfl,h0⟩:=L0 h
 cases A4p h0
 exact⟨a0,rfl⟩
theorem R8 {us:List Value} (h:us.length=2):∃a0 a1,us=[a0,a1]:=by
 obtain⟨a0,u0,rfl,h0⟩:=L0 h
 obtain⟨a1,u1,rfl,h1⟩:=L0 h0
 cases A4p h1
 exact⟨a0,a1,rfl⟩
theorem W8 {us:List Value} (h:us.length=3):∃a0 a1 a2,us=[a0,a1,a2]:=by
 obtain⟨a0,u0,rfl,h0⟩:=L0 h
 obtain⟨a1,u1,rfl,h1⟩:=L0 h0
 obtain⟨a2,u2,rfl,h2⟩:=L0 h1
 cases A4p h2
 exact⟨a0,a1,a2,rfl⟩
theorem A1a {us:List Value} (h:us.length=4):∃a0 a1 a2 a3,us=[a0,a1,a2,a3]:=by
 obtain⟨a0,u0,rfl,h0⟩:=L0 h
 obtain⟨a1,u1,rfl,h1⟩:=L0 h0
 obtain⟨a2,u2,rfl,h2⟩:=L0 h1
 obtain⟨a3,u3,rfl,h3⟩:=L0 h2
 cases A4p h3
 exact⟨a0,a1,a2,a3,rfl⟩
theorem B03 {us:List Value} (h:us.length=5):∃a0 a1 a2 a3 a4,us=[a0,a1,a2,a3,a4]:=by
 obtain⟨a0,u0,rfl,h0⟩:=L0 h
 obtain⟨a1,u1,rfl,h1⟩:=L0 h0
 obtain⟨a2,u2,rfl,h2⟩:=L0 h1
 obtain⟨a3,u3,rfl,h3⟩:=L0 h2
 obtain⟨a4,u4,rfl,h4⟩:=L0 h3
 cases A4p h4
 exact⟨a0,a1,a2,a3,a4,rfl⟩
theorem B4v {us:List Value} (h:us.length=6):∃a0 a1 a2 a3 a4 a5,us=[a0,a1,a2,a3,a4,a5]:=by
 obtain⟨a0,u0,rfl,h0⟩:=L0 h
 obtain⟨a1,u1,rfl,h1⟩:=L0 h0
 obtain⟨a2,u2,rfl,h2⟩:=L0 h1
 obtain⟨a3,u3,rfl,h3⟩:=L0 h2
 obtain⟨a4,u4,rfl,h4⟩:=L0 h3
 obtain⟨a5,u5,rfl,h5⟩:=L0 h4
 cases A4p h5
 exact⟨a0,a1,a2,a3,a4,a5,rfl⟩
theorem D37 {us:List Value} (h:us.length=7):∃a0 a1 a2 a3 a4 a5 a6,us=[a0,a1,a2,a3,a4,a5,a6]:=by
 obtain⟨a0,u0,rfl,h0⟩:=L0 h
 obtain⟨a1,u1,rfl,h1⟩:=L0 h0
 obtain⟨a2,u2,rfl,h2⟩:=L0 h1
 obtain⟨a3,u3,rfl,h3⟩:=L0 h2
 obtain⟨a4,u4,rfl,h4⟩:=L0 h3
 obtain⟨a5,u5,rfl,h5⟩:=L0 h4
 obtain⟨a6,u6,rfl,h6⟩:=L0 h5
 cases A4p h6
 exact⟨a0,a1,a2,a3,a4,a5,a6,rfl⟩
theorem D38 {us:List Value} (h:us.length=8):∃a0 a1 a2 a3 a4 a5 a6 a7,us=[a0,a1,a2,a3,a4,a5,a6,a7]:=by
 obtain⟨a0,u0,rfl,h0⟩:=L0 h
 obtain⟨a1,u1,rfl,h1⟩:=L0 h0
 obtain⟨a2,u2,rfl,h2⟩:=L0 h1
 obtain⟨a3,u3,rfl,h3⟩:=L0 h2
 obtain⟨a4,u4,rfl,h4⟩:=L0 h3
 obtain⟨a5,u5,rfl,h5⟩:=L0 h4
 obtain⟨a6,u6,rfl,h6⟩:=L0 h5
 obtain⟨a7,u7,rfl,h7⟩:=L0 h6
 cases A4p h7
 exact⟨a0,a1,a2,a3,a4,a5,a6,a7,rfl⟩
def top (i:Nat):Stmt:=PySem.Challenge.pw_trudge_k88_springs_by_turns.main.body.getD i (.Pass ⟨0,0,0,0⟩)
abbrev B4w:Stmt:=top 4
abbrev B4x:Stmt:=top 5
abbrev B4y:Stmt:=top 6
abbrev B4z:Stmt:=top 7
abbrev B40:Stmt:=top 14
abbrev B04:Stmt:=top 15
abbrev B41:Stmt:=top 19
abbrev B42:Stmt:=top 20
abbrev B43:Stmt:=top 25
abbrev B44:Stmt:=top 26
abbrev B45:Stmt:=top 27
abbrev B46:Stmt:=top 28
abbrev B47:Stmt:=top 29
abbrev B05:Stmt:=top 31
abbrev B06:Stmt:=top 32
abbrev B48:Stmt:=top 33
abbrev B49:Stmt:=top 34
abbrev B5a:Stmt:=top 40
abbrev B5b:Stmt:=top 41
abbrev B5c:Stmt:=top 42
abbrev B5d:Stmt:=top 46
abbrev B5e:Stmt:=top 47
abbrev B5f:Stmt:=top 48
abbrev B5g:Stmt:=top 50
abbrev B5h:Stmt:=top 51
abbrev B07:Stmt:=top 52
abbrev B08:Stmt:=top 53
abbrev B5i:Stmt:=top 54
abbrev B5j:Stmt:=top 55
abbrev B09:Stmt:=top 56
abbrev B5k:Stmt:=top 57
abbrev B1a:Stmt:=top 58
abbrev B1b:Stmt:=top 59
abbrev B1c:Stmt:=top 61
abbrev B1d:Stmt:=top 62
abbrev B5l:Stmt:=top 63
abbrev B5m:Stmt:=top 68
abbrev B1e:Stmt:=top 69
abbrev B5n:Stmt:=top 70
abbrev B5o:Stmt:=top 71
abbrev B5p:Stmt:=top 72
abbrev B1f:Stmt:=top 73
abbrev B5q:Stmt:=top 74
abbrev A88:Stmt:=top 75
abbrev B5r:Stmt:=top 79
abbrev B1g:Stmt:=top 80
abbrev B5s:Stmt:=top 81
abbrev B1h:Stmt:=top 82
abbrev B5t:Stmt:=top 84
abbrev B5u:Stmt:=top 85
abbrev B5v:Stmt:=top 86
abbrev B5w:Stmt:=top 87
abbrev B5x:Stmt:=top 88
abbrev B5y:Stmt:=top 89
abbrev B5z:Stmt:=top 90
abbrev B50:Stmt:=top 91
abbrev B1i:Stmt:=top 92
abbrev B51:Stmt:=top 93
abbrev B52:Stmt:=top 94
abbrev B53:Stmt:=top 95
abbrev B54:Stmt:=top 96
abbrev B55:Stmt:=top 97
abbrev B56:Stmt:=top 98
abbrev B57:Stmt:=top 99
abbrev B58:Stmt:=top 100
abbrev A89:Stmt:=top 101
abbrev B59:Stmt:=top 102
abbrev B1j:Stmt:=top 103
abbrev B6a:Stmt:=top 104
abbrev d5:Stmt:=top 105
structure FT (K:B3) (mg:Str->Option Value) (nm:Str) (st:Stmt) (ps:List Str) where
 a:Addr
 d:FuncData
 F:Fun K nm nm st a d
 m:mg nm=some (.ref a)
 b:A7d K d ps []
def FH (K:B3) (nm:Str) (st:Stmt):Prop:=∃f,K9 K mainGlobals nm=some (some (.ref f))/\∃fd,Fun K nm nm st f fd
theorem FT.of {K:B3} {mg:Str->Option Value} {nm:Str} {st:Stmt} {ps:List Str} {h:Heap} (X:K.In h) (G:h.Ns mainGlobals mg) (H:FH K nm st) (hb:∀(kV doc pm:Value) (an:Option Addr) (cdv ct:Value) (us:List Value),us.length=ps.length->bindArgs (A4n nm nm (A4w st) (A0y st) (C2 st) .none kV doc pm an cdv ct) ⟨us,[]⟩=pure (ps.zip us)):Nonempty (FT K mg nm st ps):=by
 obtain⟨f,a,fd,F⟩:=H
 exact⟨⟨f,fd,F,S4 X G a,F.binds hb⟩⟩
set_option genInjectivity false in
set_option genSizeOf false in
structure Txt (K:B3) (mg:Str->Option Value) where
 n_abs:mg "abs" = none
 n_all:mg "all" = none
 n_any:mg "any" = none
 n_bool:mg "bool" = none
 n_enumerate:mg "enumerate" = none
 n_int:mg "int" = none
 n_isinstance:mg "isinstance" = none
 n_len:mg "len" = none
 n_list:mg "list" = none
 n_max:mg "max" = none
 n_min:mg "min" = none
 n_range:mg "range" = none
 n_reversed:mg "reversed" = none
 n_tuple:mg "tuple" = none
 n_zip:mg "zip" = none
 t_MANY:Tok
 mg_MANY:mg "MANY" = some (.int 0 t_MANY)
 t_WAYS:Tok
 mg_WAYS:mg "WAYS" = some (.int 1 t_WAYS)
 t_START:Tok
 mg_START:mg "START" = some (.int 0 t_START)
 t_END:Tok
 mg_END:mg "END" = some (.int 1 t_END)
 t_CHANGE:Tok
 mg_CHANGE:mg "CHANGE" = some (.int 2 t_CHANGE)
 t_PLACE_spots:Tok
 mg_PLACE_spots:mg "PLACE_spots" = some (.int 0 t_PLACE_spots)
 t_LEVEL:Tok
 mg_LEVEL:mg "LEVEL" = some (.int 1 t_LEVEL)
 t_LEAST:Tok
 mg_LEAST:mg "LEAST" = some (.int 0 t_LEAST)
 t_GAIN:Tok
 mg_GAIN:mg "GAIN" = some (.int 1 t_GAIN)
 t_TOP:Tok
 mg_TOP:mg "TOP" = some (.int 2 t_TOP)
 t_TABLE:Tok
 mg_TABLE:mg "TABLE" = some (.int 0 t_TABLE)
 t_RISEN:Tok
 mg_RISEN:mg "RISEN" = some (.int 1 t_RISEN)
 t_FROM:Tok
 mg_FROM:mg "FROM" = some (.int 0 t_FROM)
 t_BY:Tok
 mg_BY:mg "BY" = some (.int 1 t_BY)
 t_NUMBERS:Tok
 mg_NUMBERS:mg "NUMBERS" = some (.int 0 t_NUMBERS)
 t_TIMES:Tok
 mg_TIMES:mg "TIMES" = some (.int 1 t_TIMES)
 t_PLACE_springs:Tok
 mg_PLACE_springs:mg "PLACE_springs" = some (.int 0 t_PLACE_springs)
 t_GIFT:Tok
 mg_GIFT:mg "GIFT" = some (.int 1 t_GIFT)
 t_BEGIN:Tok
 mg_BEGIN:mg "BEGIN" = some (.int 0 t_BEGIN)
 t_GOAL:Tok
 mg_GOAL:mg "GOAL" = some (.int 1 t_GOAL)
 t_USE:Tok
 mg_USE:mg "USE" = some (.str "use" t_USE)
 f_is_whole:FT K mg "is_whole" B4w ["thing"]
 f_is_level:FT K mg "is_level" B4x ["store", "thing"]
 f_stepped:FT K mg "stepped" B4y ["store", "level", "change"]
 f_levels_along:FT K mg "levels_along" B4z ["store", "level", "changes"]
 f_is_place:FT K mg "is_place" B40 ["many", "thing"]
 f_changes_of:FT K mg "changes_of" B04 ["land", "numbers"]
 f_base_at:FT K mg "base_at" B41 ["many", "spot"]
 f_has_enough:FT K mg "has_enough" B42 ["table", "goal"]
 f_effect_of_none:FT K mg "effect_of_none" B43 ["store"]
 f_effect_of_one:FT K mg "effect_of_one" B44 ["store", "change"]
 f_effect_of:FT K mg "effect_of" B45 ["store", "changes"]
 f_passed:FT K mg "passed" B46 ["effect", "level"]
 f_joined:FT K mg "joined" B47 ["one", "other"]
 f_is_table:FT K mg "is_table" B05 ["many", "store", "thing"]
 f_are_tables:FT K mg "are_tables" B06 ["many", "store", "thing"]
 f_is_more:FT K mg "is_more" B48 ["one", "other"]
 f_behind_way:FT K mg "behind_way" B49 ["store", "table", "way"]
 f_first_row:FT K mg "first_row" B5a ["table"]
 f_row_behind:FT K mg "row_behind" B5b ["land", "store", "table", "stayed"]
 f_walk_to:FT K mg "walk_to" B5c ["land", "rows", "place"]
 f_behind_ways:FT K mg "behind_ways" B5d ["land", "place", "numbers"]
 f_behind_part:FT K mg "behind_part" B5e ["land", "place", "part"]
 f_end_of:FT K mg "end_of" B5f ["land", "place", "trip"]
 f_rows_from:FT K mg "rows_from" B5g ["land", "store", "table"]
 f_still_rises:FT K mg "still_rises" B5h ["land", "rows"]
 f_rising_walk:FT K mg "rising_walk" B07 ["land", "rows"]
 f_parted_at_round:FT K mg "parted_at_round" B08 ["land", "walk"]
 f_parts_by:FT K mg "parts_by" B5i ["numbers"]
 f_filling_parts:FT K mg "filling_parts" B5j ["land", "store", "level", "walk"]
 f_settled:FT K mg "settled" B09 ["land", "store", "base"]
 f_highest:FT K mg "highest" B5k ["land", "store", "base"]
 f_trip_to:FT K mg "trip_to" B1a ["land", "rows", "roads", "place"]
 f_trips_to:FT K mg "trips_to" B1b ["land", "store", "base"]
 f_covers:FT K mg "covers" B1c ["table", "base"]
 f_leads_within:FT K mg "leads_within" B1d ["land", "store", "table", "lid"]
 f_is_closed:FT K mg "is_closed" B5l ["land", "store", "table"]
 f_alone:FT K mg "alone" B5m ["number"]
 f_numbers_in:FT K mg "numbers_in" B1e ["springs", "some"]
 f_level_by_spring:FT K mg "level_by_spring" B5n ["store", "springs", "tables", "some", "number"]
 f_base_by:FT K mg "base_by" B5o ["store", "springs", "tables", "base", "some"]
 f_highest_by:FT K mg "highest_by" B5p ["land", "store", "springs", "base"]
 f_last_spring:FT K mg "last_spring" B1f ["store", "springs", "tables", "some", "place", "level"]
 f_trip_by:FT K mg "trip_by" B5q ["land", "store", "springs", "base", "some", "place"]
 f_is_spring_lid:FT K mg "is_spring_lid" A88 ["land", "store", "springs", "base", "tables"]
 f_is_part:FT K mg "is_part" B5r ["one", "other"]
 f_needs_of:FT K mg "needs_of" B1g ["land", "store", "springs", "walker"]
 f_first_shares:FT K mg "first_shares" B5s ["needs", "used"]
 f_shared:FT K mg "shared" B1h ["land", "store", "springs", "walkers"]
 f_hand:FT K mg "_law_hand" B5t ["_law_script"]
 f_next:FT K mg "_law_next" B5u ["_law_hand_here"]
 f_take:FT K mg "_law_take" B5v ["_law_hand_here"]
 f_draw:FT K mg "_law_draw" B5w ["_law_hand_here", "_law_many"]
 f_scale:FT K mg "_law_scale" B5x ["_law_hand_here"]
 f_change:FT K mg "_law_change" B5y ["_law_hand_here", "_law_scale_here"]
 f_store:FT K mg "_law_store" B5z ["_law_hand_here", "_law_scale_here"]
 f_land:FT K mg "_law_land" B50 ["_law_hand_here", "_law_places", "_law_ways", "_law_scale_here"]
 f_table:FT K mg "_law_table" B1i ["_law_hand_here", "_law_many", "_law_store_here"]
 f_springs:FT K mg "_law_springs" B51 ["_law_hand_here", "_law_many", "_law_store_here", "_law_most"]
 f_spring_case:FT K mg "_law_spring_case" B52 ["_law_hand_here"]
 f_walker:FT K mg "_law_walker" B53 ["_law_hand_here", "_law_many", "_law_store_here"]
 f_effect:FT K mg "_law_effect" B54 ["_law_store_here", "_law_changes"]
 f_times:FT K mg "_law_times" B55 ["_law_effect_here", "_law_times_here", "_law_level"]
 f_arrive:FT K mg "_law_arrive" B56 ["_law_land_here", "_law_store_here", "_law_place", "_law_level", "_law_trip"]
 f_arrive_by:FT K mg "_law_arrive_by" B57 ["_law_land_here", "_law_store_here", "_law_springs_here", "_law_place", "_law_level", "_law_trip"]
 f_law_is_whole:FT K mg "_law_is_whole" B58 ["_law_thing"]
 f_other:FT K mg "_law_other" A89 ["_law_hand_here", "_law_case"]
 f_copied:FT K mg "_law_copied" B59 ["_law_case"]
 f_tables:FT K mg "_law_tables" B1j ["_law_case"]
 f_trip_good:FT K mg "_law_trip_good" B6a ["_law_case", "_law_tables_here", "_law_some", "_law_place"]
 f_law:FT K mg "law" d5 ["_law_script"]
theorem C71:E1 ["thing"] ["thing"] (C2 B4w):=⟨rfl,rfl,rfl,by decide +kernel,rfl,by decide +kernel,by decide +kernel⟩
theorem C72:E1 ["store", "thing"] ["store", "thing"] (C2 B4x):=⟨rfl,rfl,rfl,by decide +kernel,rfl,by decide +kernel,by decide +kernel⟩
theorem C05:E1 ["store", "level", "change", "behind"] ["store", "level", "change"] (C2 B4y):=⟨rfl,rfl,rfl,by decide +kernel,rfl,by decide +kernel,by decide +kernel⟩
theorem B1k:E1 ["store", "level", "changes", "levels", "change", "behind"] ["store", "level", "changes"] (C2 B4z):=⟨rfl,rfl,rfl,by decide +kernel,rfl,by decide +kernel,by decide +kernel⟩
theorem C73:E1 ["many", "thing"] ["many", "thing"] (C2 B40):=⟨rfl,rfl,rfl,by decide +kernel,rfl,by decide +kernel,by decide +kernel⟩
theorem C74:E1 ["land", "numbers"] ["land", "numbers"] (C2 B04):=⟨rfl,rfl,rfl,by decide +kernel,rfl,by decide +kernel,by decide +kernel⟩
theorem C06:E1 ["many", "spot", "base"] ["many", "spot"] (C2 B41):=⟨rfl,rfl,rfl,by decide +kernel,rfl,by decide +kernel,by decide +kernel⟩
theorem C07:E1 ["table", "goal", "level"] ["table", "goal"] (C2 B42):=⟨rfl,rfl,rfl,by decide +kernel,rfl,by decide +kernel,by decide +kernel⟩
theorem C75:E1 ["store"] ["store"] (C2 B43):=⟨rfl,rfl,rfl,by decide +kernel,rfl,by decide +kernel,by decide +kernel⟩
theorem C76:E1 ["store", "change"] ["store", "change"] (C2 B44):=⟨rfl,rfl,rfl,by decide +kernel,rfl,by decide +kernel,by decide +kernel⟩
theorem B1l:E1 ["store", "changes", "whole", "change"] ["store", "changes"] (C2 B45):=⟨rfl,rfl,rfl,by decide +kernel,rfl,by decide +kernel,by decide +kernel⟩
theorem C77:E1 ["effect", "level"] ["effect", "level"] (C2 B46):=⟨rfl,rfl,rfl,by decide +kernel,rfl,by decide +kernel,by decide +kernel⟩
theorem C08:E1 ["one", "other", "least"] ["one", "other"] (C2 B47):=⟨rfl,rfl,rfl,by decide +kernel,rfl,by decide +kernel,by decide +kernel⟩
theorem C78:E1 ["many", "store", "thing"] ["many", "store", "thing"] (C2 B05):=⟨rfl,rfl,rfl,by decide +kernel,rfl,by decide +kernel,by decide +kernel⟩
theorem C79:E1 ["many", "store", "thing"] ["many", "store", "thing"] (C2 B06):=⟨rfl,rfl,rfl,by decide +kernel,rfl,by decide +kernel,by decide +kernel⟩
theorem C8a:E1 ["one", "other"] ["one", "other"] (C2 B48):=⟨rfl,rfl,rfl,by decide +kernel,rfl,by decide +kernel,by decide +kernel⟩
theorem C09:E1 ["store", "table", "way", "level"] ["store", "table", "way"] (C2 B49):=⟨rfl,rfl,rfl,by decide +kernel,rfl,by decide +kernel,by decide +kernel⟩
theorem C8b:E1 ["table"] ["table"] (C2 B5a):=⟨rfl,rfl,rfl,by decide +kernel,rfl,by decide +kernel,by decide +kernel⟩
theorem A7w:E1 ["land", "store", "table", "stayed", "higher", "risen", "number", "way", "level"] ["land", "store", "table", "stayed"] (C2 B5b):=⟨rfl,rfl,rfl,by decide +kernel,rfl,by decide +kernel,by decide +kernel⟩
theorem A7x:E1 ["land", "rows", "place", "here", "numbers", "row", "number"] ["land", "rows", "place"] (C2 B5c):=⟨rfl,rfl,rfl,by decide +kernel,rfl,by decide +kernel,by decide +kernel⟩
theorem B1m:E1 ["land", "place", "numbers", "here", "number"] ["land", "place", "numbers"] (C2 B5d):=⟨rfl,rfl,rfl,by decide +kernel,rfl,by decide +kernel,by decide +kernel⟩
theorem C1a:E1 ["land", "place", "part", "behind"] ["land", "place", "part"] (C2 B5e):=⟨rfl,rfl,rfl,by decide +kernel,rfl,by decide +kernel,by decide +kernel⟩
theorem A9a:E1 ["land", "place", "trip", "here", "at", "part"] ["land", "place", "trip"] (C2 B5f):=⟨rfl,rfl,rfl,by decide +kernel,rfl,by decide +kernel,by decide +kernel⟩
theorem B1n:E1 ["land", "store", "table", "rows", "row"] ["land", "store", "table"] (C2 B5g):=⟨rfl,rfl,rfl,by decide +kernel,rfl,by decide +kernel,by decide +kernel⟩
theorem C8c:E1 ["land", "rows"] ["land", "rows"] (C2 B5h):=⟨rfl,rfl,rfl,by decide +kernel,rfl,by decide +kernel,by decide +kernel⟩
theorem C1b:E1 ["land", "rows", "last"] ["land", "rows"] (C2 B07):=⟨rfl,rfl,rfl,by decide +kernel,rfl,by decide +kernel,by decide +kernel⟩
theorem A9b:E1 ["land", "walk", "places", "end", "begin"] ["land", "walk"] (C2 B08):=⟨rfl,rfl,rfl,by decide +kernel,rfl,by decide +kernel,by decide +kernel⟩
theorem C8d:E1 ["numbers"] ["numbers"] (C2 B5i):=⟨rfl,rfl,rfl,by decide +kernel,rfl,by decide +kernel,by decide +kernel⟩
theorem A4e:E1 ["land", "store", "level", "walk", "parted", "ahead", "turn", "effect", "missing", "times", "levels"] ["land", "store", "level", "walk"] (C2 B5j):=⟨rfl,rfl,rfl,by decide +kernel,rfl,by decide +kernel,by decide +kernel⟩
theorem A2k:E1 ["land", "store", "base", "table", "roads", "rows", "walk", "parts", "full", "road"] ["land", "store", "base"] (C2 B09):=⟨rfl,rfl,rfl,by decide +kernel,rfl,by decide +kernel,by decide +kernel⟩
theorem C8e:E1 ["land", "store", "base"] ["land", "store", "base"] (C2 B5k):=⟨rfl,rfl,rfl,by decide +kernel,rfl,by decide +kernel,by decide +kernel⟩
theorem B1o:E1 ["land", "rows", "roads", "place", "walk", "road", "trip"] ["land", "rows", "roads", "place"] (C2 B1a):=⟨rfl,rfl,rfl,by decide +kernel,rfl,by decide +kernel,by decide +kernel⟩
theorem B1p:E1 ["land", "store", "base", "found", "rows", "table"] ["land", "store", "base"] (C2 B1b):=⟨rfl,rfl,rfl,by decide +kernel,rfl,by decide +kernel,by decide +kernel⟩
theorem C8f:E1 ["table", "base"] ["table", "base"] (C2 B1c):=⟨rfl,rfl,rfl,by decide +kernel,rfl,by decide +kernel,by decide +kernel⟩
theorem C8g:E1 ["land", "store", "table", "lid"] ["land", "store", "table", "lid"] (C2 B1d):=⟨rfl,rfl,rfl,by decide +kernel,rfl,by decide +kernel,by decide +kernel⟩
theorem C8h:E1 ["land", "store", "table"] ["land", "store", "table"] (C2 B5l):=⟨rfl,rfl,rfl,by decide +kernel,rfl,by decide +kernel,by decide +kernel⟩
theorem C8i:E1 ["number"] ["number"] (C2 B5m):=⟨rfl,rfl,rfl,by decide +kernel,rfl,by decide +kernel,by decide +kernel⟩
theorem C8j:E1 ["springs", "some"] ["springs", "some"] (C2 B1e):=⟨rfl,rfl,rfl,by decide +kernel,rfl,by decide +kernel,by decide +kernel⟩
theorem C1c:E1 ["store", "springs", "tables", "some", "number", "level"] ["store", "springs", "tables", "some", "number"] (C2 B5n):=⟨rfl,rfl,rfl,by decide +kernel,rfl,by decide +kernel,by decide +kernel⟩
theorem B1q:E1 ["store", "springs", "tables", "base", "some", "there", "number", "level"] ["store", "springs", "tables", "base", "some"] (C2 B5o):=⟨rfl,rfl,rfl,by decide +kernel,rfl,by decide +kernel,by decide +kernel⟩
theorem A7y:E1 ["land", "store", "springs", "base", "tables", "some"] ["land", "store", "springs", "base"] (C2 B5p):=⟨rfl,rfl,rfl,by decide +kernel,rfl,by decide +kernel,by decide +kernel⟩
theorem C8k:E1 ["store", "springs", "tables", "some", "place", "level"] ["store", "springs", "tables", "some", "place", "level"] (C2 B1f):=⟨rfl,rfl,rfl,by decide +kernel,rfl,by decide +kernel,by decide +kernel⟩
theorem A1b:E1 ["land", "store", "springs", "base", "some", "place", "tables", "left", "found", "trip", "level", "number"] ["land", "store", "springs", "base", "some", "place"] (C2 B5q):=⟨rfl,rfl,rfl,by decide +kernel,rfl,by decide +kernel,by decide +kernel⟩
theorem C8l:E1 ["land", "store", "springs", "base", "tables"] ["land", "store", "springs", "base", "tables"] (C2 A88):=⟨rfl,rfl,rfl,by decide +kernel,rfl,by decide +kernel,by decide +kernel⟩
theorem C8m:E1 ["one", "other"] ["one", "other"] (C2 B5r):=⟨rfl,rfl,rfl,by decide +kernel,rfl,by decide +kernel,by decide +kernel⟩
theorem B1r:E1 ["land", "store", "springs", "walker", "needs", "some", "table"] ["land", "store", "springs", "walker"] (C2 B1g):=⟨rfl,rfl,rfl,by decide +kernel,rfl,by decide +kernel,by decide +kernel⟩
theorem m7:E1 ["needs", "used", "some", "others"] ["needs", "used"] (C2 B5s):=⟨rfl,rfl,rfl,by decide +kernel,rfl,by decide +kernel,by decide +kernel⟩
theorem B6b:E1 ["land", "store", "springs", "walkers", "needs", "sets"] ["land", "store", "springs", "walkers"] (C2 B1h):=⟨rfl,rfl,rfl,by decide +kernel,rfl,by decide +kernel,by decide +kernel⟩
theorem C8n:E1 ["_law_script"] ["_law_script"] (C2 B5t):=⟨rfl,rfl,rfl,by decide +kernel,rfl,by decide +kernel,by decide +kernel⟩
theorem C8o:E1 ["_law_hand_here"] ["_law_hand_here"] (C2 B5u):=⟨rfl,rfl,rfl,by decide +kernel,rfl,by decide +kernel,by decide +kernel⟩
theorem B6c:E1 ["_law_hand_here", "_law_cell"] ["_law_hand_here"] (C2 B5v):=⟨rfl,rfl,rfl,by decide +kernel,rfl,by decide +kernel,by decide +kernel⟩
theorem A7z:E1 ["_law_hand_here", "_law_many", "_law_got", "_law_value", "_law_size"] ["_law_hand_here", "_law_many"] (C2 B5w):=⟨rfl,rfl,rfl,by decide +kernel,rfl,by decide +kernel,by decide +kernel⟩
theorem C8p:E1 ["_law_hand_here"] ["_law_hand_here"] (C2 B5x):=⟨rfl,rfl,rfl,by decide +kernel,rfl,by decide +kernel,by decide +kernel⟩
theorem C8q:E1 ["_law_hand_here", "_law_scale_here"] ["_law_hand_here", "_law_scale_here"] (C2 B5y):=⟨rfl,rfl,rfl,by decide +kernel,rfl,by decide +kernel,by decide +kernel⟩
theorem C1d:E1 ["_law_hand_here", "_law_scale_here", "_law_way"] ["_law_hand_here", "_law_scale_here"] (C2 B5z):=⟨rfl,rfl,rfl,by decide +kernel,rfl,by decide +kernel,by decide +kernel⟩
theorem A6n:E1 ["_law_hand_here", "_law_places", "_law_ways", "_law_scale_here", "_law_many", "_law_rows", "_law_k", "_law_start", "_law_end"] ["_law_hand_here", "_law_places", "_law_ways", "_law_scale_here"] (C2 B50):=⟨rfl,rfl,rfl,by decide +kernel,rfl,by decide +kernel,by decide +kernel⟩
theorem C1e:E1 ["_law_hand_here", "_law_many", "_law_store_here", "_law_rare"] ["_law_hand_here", "_law_many", "_law_store_here"] (C2 B1i):=⟨rfl,rfl,rfl,by decide +kernel,rfl,by decide +kernel,by decide +kernel⟩
theorem B1s:E1 ["_law_hand_here", "_law_many", "_law_store_here", "_law_most", "_law_springs_here", "_law_k", "_law_gift"] ["_law_hand_here", "_law_many", "_law_store_here", "_law_most"] (C2 B51):=⟨rfl,rfl,rfl,by decide +kernel,rfl,by decide +kernel,by decide +kernel⟩
theorem A6o:E1 ["_law_hand_here", "_law_scale_here", "_law_store_here", "_law_many", "_law_ways", "_law_land_here", "_law_springs_here"] ["_law_hand_here"] (C2 B52):=⟨rfl,rfl,rfl,by decide +kernel,rfl,by decide +kernel,by decide +kernel⟩
theorem B1t:E1 ["_law_hand_here", "_law_many", "_law_store_here", "_law_most", "_law_begin", "_law_goal"] ["_law_hand_here", "_law_many", "_law_store_here"] (C2 B53):=⟨rfl,rfl,rfl,by decide +kernel,rfl,by decide +kernel,by decide +kernel⟩
theorem A70:E1 ["_law_store_here", "_law_changes", "_law_lowest", "_law_gain", "_law_top", "_law_change_here"] ["_law_store_here", "_law_changes"] (C2 B54):=⟨rfl,rfl,rfl,by decide +kernel,rfl,by decide +kernel,by decide +kernel⟩
theorem A9c:E1 ["_law_effect_here", "_law_times_here", "_law_level", "_law_lowest", "_law_gain", "_law_top", "_law_ahead"] ["_law_effect_here", "_law_times_here", "_law_level"] (C2 B55):=⟨rfl,rfl,rfl,by decide +kernel,rfl,by decide +kernel,by decide +kernel⟩
theorem A4f:E1 ["_law_land_here", "_law_store_here", "_law_place", "_law_level", "_law_trip", "_law_part", "_law_here", "_law_changes", "_law_number"] ["_law_land_here", "_law_store_here", "_law_place", "_law_level", "_law_trip"] (C2 B56):=⟨rfl,rfl,rfl,by decide +kernel,rfl,by decide +kernel,by decide +kernel⟩
theorem A2l:E1 ["_law_land_here", "_law_store_here", "_law_springs_here", "_law_place", "_law_level", "_law_trip", "_law_some", "_law_thing", "_law_k", "_law_end"] ["_law_land_here", "_law_store_here", "_law_springs_here", "_law_place", "_law_level", "_law_trip"] (C2 B57):=⟨rfl,rfl,rfl,by decide +kernel,rfl,by decide +kernel,by decide +kernel⟩
theorem C8r:E1 ["_law_thing"] ["_law_thing"] (C2 B58):=⟨rfl,rfl,rfl,by decide +kernel,rfl,by decide +kernel,by decide +kernel⟩
theorem A4g:E1 ["_law_hand_here", "_law_case", "_law_land_here", "_law_store_here", "_law_springs_here", "_law_base", "_law_other_here", "_law_many", "_law_table_here"] ["_law_hand_here", "_law_case"] (C2 A89):=⟨rfl,rfl,rfl,by decide +kernel,rfl,by decide +kernel,by decide +kernel⟩
theorem C8s:E1 ["_law_case"] ["_law_case"] (C2 B59):=⟨rfl,rfl,rfl,by decide +kernel,rfl,by decide +kernel,by decide +kernel⟩
theorem A71:E1 ["_law_case", "_law_handed", "_law_told", "_law_kept", "_law_table_here", "_law_due"] ["_law_case"] (C2 B1j):=⟨rfl,rfl,rfl,by decide +kernel,rfl,by decide +kernel,by decide +kernel⟩
theorem A6p:E1 ["_law_case", "_law_tables_here", "_law_some", "_law_place", "_law_land_here", "_law_store_here", "_law_springs_here", "_law_base", "_law_found", "_law_end"] ["_law_case", "_law_tables_here", "_law_some", "_law_place"] (C2 B6a):=⟨rfl,rfl,rfl,by decide +kernel,rfl,by decide +kernel,by decide +kernel⟩
theorem W9:E1 ["_law_script", "_law_hand_here", "_law_cases", "_law_tables_here", "_law_walkers", "_law_kept", "_law_copies", "_law_k", "_law_at", "_law_land_here", "_law_store_here", "_law_springs_here", "_law_base", "_law_needs", "_law_handed", "_law_found", "_law_one"] ["_law_script"] (C2 d5):=⟨rfl,rfl,rfl,by decide +kernel,rfl,by decide +kernel,by decide +kernel⟩
section
variable {P:Program} {w:World} {K:B3} {mg:Str->Option Value} {base:Heap}
theorem C8t (T:Txt K mg):D0 P w K mg base CX0 1 T.f_hand.a T.f_hand.d ["_law_script"] (C51 K):=by
 refine T.f_hand.F.ok C8n (fun vs H Q E h=>?_) (fun cdv A outer s H vs Q E hr h=>?_)
 ·obtain⟨a,ns,rfl,_⟩:=h
  rfl
 ·obtain⟨a,ns,rfl,hS,k⟩:=h
  refine⟨_,(M2 (Q3 (A93 (A4 (b7 w5 rfl T.n_list W1 (A4 (B29 B3a (pv 0) B8b (B8c D1)) B8 B0) (he:=B0) (hpl:=A3)) (A4 D1 (A4 D1 (A4 D1 (A4 D1 (A4 D1 B8 F4) F4) F4) F4) F4) E5)))),?_⟩
  refine⟨_,rfl,_,rfl,a,_,rfl,hS,fun p1 h1=>⟨p1,_,rfl,.inl (SqL.of E4),fun l hl=>⟨(by show 6<=sizeLine;decide),fun p hp=>?_⟩⟩⟩
  have n1:p≠p1:=(N7 (H:=upd (upd H p1 _) l _) (by rw[C1 (N7 E4 hl)];exact E4) hp).symm
  have n2:p≠l:=(N7 (H:=upd (upd H p1 _) l _) E4 hp).symm
  have hp0:H p=none:=by rw[C1 n2,C1 n1] at hp;exact hp
  have hl0:H l=none:=by
   have nl:l≠p1:=(N7 E4 hl).symm
   rw[C1 nl] at hl;exact hl
  refine k p l _ hp0 hl0 ⟨(ns.drop (HT.sIx (ns.map V.int).length 0 none)).take (HT.sIx (ns.map V.int).length (ns.map V.int).length (some 63) - HT.sIx (ns.map V.int).length 0 none),0,0,0,20011,40009,?_,B2m _,E4⟩ (((Same.refl H).lay h1).lay hl |>.lay hp)
  rw[C1 n2.symm,E4]
  unfold A4v
  rw[A1j,List.map_drop]
theorem C1f (T:Txt K mg):D0 P w K mg base CX0 1 T.f_next.a T.f_next.d ["_law_hand_here"] C52:=by
 refine T.f_next.F.ok C8o (fun vs H Q E h=>?_) (fun cdv A outer s H vs Q E hr h=>?_)
 ·obtain⟨a,l,rfl,_⟩:=h
  rfl
 ·obtain⟨a,l,rfl,⟨ns,p,b,c,u,v,hl,hp,ha⟩,k⟩:=h
  have ne:=B0e hl ha
  refine⟨_,(E6 (T9 (N8 u8 (N8 g6 (D9 N3 (pv 0) D1 (fun _ _=>rfl)) D1) D1) (Z9 (pv 0) D1 X9))
   (E6 (T9 (N8 u8 (N8 g6 (D9 N3 (pv 0) D1 (fun _ _=>rfl)) D1) D1) (Z9 (pv 0) D1 X9))
   (M2 (Q3 (N8 L3 (D9 N3 (pv 0) D1 (fun _ _=>rfl)) (D9 N3 (pv 0) D1 (fun _ _=>rfl))))))),?_⟩
  refine⟨_,rfl,a,_,_,_,rfl,rfl,SqL.of ha,rfl,_,_,rfl,rfl,.inr ⟨by decide,by decide⟩,_,_,rfl,rfl,(by first | decide | (dsimp only;decide)),_,rfl,a,_,_,_,rfl,rfl,ha,rfl,?_⟩
  refine⟨_,rfl,a,_,_,_,rfl,rfl,SqL.of E4,rfl,_,_,rfl,rfl,.inr ⟨by decide,by decide⟩,_,_,rfl,rfl,(by first | decide | (dsimp only;decide)),_,rfl,a,_,_,_,rfl,rfl,E4,rfl,?_⟩
  refine⟨_,rfl,a,_,_,_,rfl,rfl,SqL.of E4,rfl,_,rfl,a,_,_,_,rfl,rfl,SqL.of E4,rfl,_,_,rfl,rfl,?_⟩
  exact k _ _ ⟨ns,p,b,c,_,_,by rw[C1 ne,C1 ne];exact hl,hp,E4⟩ fun b o e nb=>by rw[C1 nb,C1 nb];exact e
theorem C8u (T:Txt K mg):D0 P w K mg base CX0 2 T.f_take.a T.f_take.d ["_law_hand_here"] C53:=by
 have G_next:=@C1f P w K mg base T
 have b_next:=T.f_next.b
 refine T.f_take.F.ok B6c (fun vs H Q E h=>?_) (fun cdv A outer s H vs Q E hr h=>?_)
 ·obtain⟨a,l,rfl,_⟩:=h
  rfl
 ·obtain⟨a,l,rfl,⟨ns,p,b,c,u,v,hl,hp,ha⟩,k⟩:=h
  have ne:=B0e hl ha
  refine⟨_,(E6 (B9 (i:=1) B6c.nd rfl (A8 rfl) D1)
   (E6 (i9 (Z8 (U1 X6 (D9 N3 (pv 0) D1 (fun _ _=>rfl)) (G4 Q5 rfl T.n_len Q6 (A4 (D9 N3 (pv 0) D1 (fun _ _=>rfl)) B8 B0) (he:=B0) (hpl:=A3)) (C9 _))
   (M2 (B9 (i:=1) B6c.nd rfl (A8 rfl) (G4 C4i rfl T.n_abs C5g (A4 (D9 N3 (D9 N3 (pv 0) D1 (fun _ _=>rfl)) (D9 N3 (pv 0) D1 (fun _ _=>rfl)) (fun _ _=>rfl)) B8 B0) (he:=B0) (hpl:=A3))))
   g5))
   (E6 (B7y (pv 0) D1 B8s D1 B7z X9)
   (E6 (i9 (Z8 (U1 B22 (pv 1) (N8 v5 D1 D1) (C9 _))
   (M2 (T9 (pv 1) (Z9 (pv 0) D1 X9)))
   (M2 (T9 D1 (Z9 (pv 0) D1 X9)))))
   (E6 (T9 (N8 L3 (N8 u8 (N8 L3 (D9 N3 (pv 0) D1 (fun _ _=>rfl)) (N8 u8 (pv 1) D1)) D1) D1) (Z9 (pv 0) D1 X9))
   (E6 (T9 (N8 L3 (N8 u8 (N8 L3 (N8 g6 (D9 N3 (pv 0) D1 (fun _ _=>rfl)) D1) (N8 u8 (pv 1) D1)) D1) D1) (Z9 (pv 0) D1 X9))
   (E6 (S8 (B4 G_next (hr.mono (by decide)) rfl T.f_next.m T.f_next.F.kp b_next .nil B5 (A4 (pv 0) B8 A0) (he:=A0) (hpl:=A3)))
   (M2 (S8 (B4 G_next (hr.mono (by decide)) rfl T.f_next.m T.f_next.F.kp b_next .nil B5 (A4 (pv 0) B8 A0) (he:=A0) (hpl:=A3))))))))))),?_⟩
  refine⟨fun σ H1=>H=H1/\∃z:Int,σ=[some (.ref a),some (.int z)],?_,?_⟩
  ·refine⟨_,rfl,a,_,_,_,rfl,rfl,SqL.of ha,rfl,_,rfl,a,_,_,_,rfl,rfl,SqL.of ha,rfl,l,_,rfl,.inl (SqL.of hl),_,_,rfl,rfl,_,rfl,?_⟩
   refine A7f (fun hlt=>?_) (fun _=>⟨rfl,_,rfl⟩)
   have hlt':p < (ns.length:Int):=by simpa using hlt
   obtain⟨z,hz⟩:=C50 hp hlt'
   exact⟨_,rfl,a,_,_,_,rfl,rfl,SqL.of ha,rfl,_,rfl,a,_,_,_,rfl,rfl,SqL.of ha,rfl,l,_,_,_,rfl,rfl,SqL.of hl,hz,_,rfl,rfl,_,rfl⟩
  ·rintro σ H1 ⟨rfl,z,rfl⟩
   refine⟨_,rfl,a,_,_,_,rfl,rfl,(by first | decide | (dsimp only;decide)),SqL.of ha,rfl,_,_,rfl,rfl,a,_,_,_,rfl,rfl,ha,rfl,?_⟩
   refine⟨fun σ H1=>σ=[some (.ref a),some (.int z)]/\Hd H1 a l/\Kp a H H1,?_,?_⟩
   ·refine⟨_,rfl,_,_,rfl,rfl,⟨by decide,by decide,by decide⟩,_,_,rfl,rfl,_,rfl,?_⟩
    refine A7f (fun _=>?_) (fun _=>?_)
    ·refine⟨_,rfl,_,rfl,a,_,_,_,rfl,rfl,E4,rfl,rfl,⟨ns,p + 1,_,_,_,_,by rw[C1 ne,C1 ne];exact hl,by omega,E4⟩,fun b o e nb=>by rw[C1 nb,C1 nb];exact e⟩
    ·refine⟨_,rfl,a,_,_,_,rfl,rfl,E4,rfl,rfl,⟨ns,p + 1,_,_,_,_,by rw[C1 ne,C1 ne];exact hl,by omega,E4⟩,fun b o e nb=>by rw[C1 nb,C1 nb];exact e⟩
   ·rintro σ H1 ⟨rfl,⟨ns,p,b,c,u,v,hl,hp,ha⟩,k1⟩
    have ne:=B0e hl ha
    refine⟨_,rfl,a,_,_,_,rfl,rfl,SqL.of ha,rfl,_,rfl,_,_,rfl,rfl,(by first | decide | (dsimp only;decide)),_,_,rfl,rfl,_,_,rfl,rfl,(by first | decide | (dsimp only;decide)),_,_,rfl,rfl,_,rfl,a,_,_,_,rfl,rfl,ha,rfl,?_⟩
    refine⟨_,rfl,a,_,_,_,rfl,rfl,SqL.of E4,rfl,_,_,rfl,rfl,.inr ⟨by decide,by decide⟩,_,rfl,_,_,rfl,rfl,(by first | decide | (dsimp only;decide)),_,_,rfl,rfl,_,_,rfl,rfl,(by first | decide | (dsimp only;decide)),_,_,rfl,rfl,_,rfl,a,_,_,_,rfl,rfl,E4,rfl,?_⟩
    refine⟨_,rfl,a,l,rfl,⟨ns,p,_,_,_,_,by rw[C1 ne,C1 ne];exact hl,hp,E4⟩,fun r H2 h2 k2=>?_⟩
    refine⟨_,rfl,a,l,rfl,h2,fun r H3 h3 k3=>?_⟩
    exact k H3 h3 (((k1.trans fun b o e nb=>by rw[C1 nb,C1 nb];exact e).trans k2).trans k3)
theorem C8v (T:Txt K mg):D0 P w K mg base CX0 3 T.f_draw.a T.f_draw.d ["_law_hand_here", "_law_many"] C54:=by
 have G_next:=@C1f P w K mg base T
 have G_take:=@C8u P w K mg base T
 have b_next:=T.f_next.b
 have b_take:=T.f_take.b
 refine T.f_draw.F.ok A7z (fun vs H Q E h=>?_) (fun cdv A outer s H vs Q E hr h=>?_)
 ·obtain⟨a,l,m,rfl,_⟩:=h
  rfl
 ·obtain⟨a,l,m,rfl,hd,hm0,hm1,k⟩:=h
  refine⟨_,(E6 (i9 (Z8 (PW.pt (A9z (U1 B21 (D9 N3 (pv 0) D1 (fun _ _=>rfl)) D1 (C9 _)) (A9y (U1 B21 (D9 N3 (pv 0) D1 (fun _ _=>rfl)) D1 (C9 _)))))
   (M2 (S8 (B4 G_take (hr.mono (by decide)) rfl T.f_take.m T.f_take.F.kp b_take .nil B5 (A4 (pv 0) B8 A0) (he:=A0) (hpl:=A3))))
   g5))
   (E6 (i9 (Z8 (U1 v7 (D9 N3 (pv 0) D1 (fun _ _=>rfl)) D1 (C9 _))
   (E6 (B9 (i:=2) A7z.nd rfl (A8 rfl) (N8 u8 (D9 N3 (pv 0) D1 (fun _ _=>rfl)) (pv 1)))
   (E6 (T9 (N8 B3h (D9 N3 (pv 0) D1 (fun _ _=>rfl)) (pv 1)) (Z9 (pv 0) D1 X9))
   (M2 (Q3 (pv 2)))))
   g5))
   (E6 (B7y (pv 0) D1 B8s D1 C32 X9)
   (E6 (B9 (i:=3) A7z.nd rfl (A8 rfl) (B4 G_next (hr.mono (by decide)) rfl T.f_next.m T.f_next.F.kp b_next .nil B5 (A4 (pv 0) B8 A0) (he:=A0) (hpl:=A3)))
   (E6 (B9 (i:=4) A7z.nd rfl (A8 rfl) D1)
   (E6 (A8p O6 (U1 X6 (pv 4) (pv 1) (C9 _))
   (E6 (B9 (i:=3) A7z.nd rfl (A8 rfl) (N8 L3 (N8 g6 (pv 3) D1) (B4 G_next (hr.mono (by decide)) rfl T.f_next.m T.f_next.F.kp b_next .nil B5 (A4 (pv 0) B8 A0) (he:=A0) (hpl:=A3))))
   (M2 (B9 (i:=4) A7z.nd rfl (A8 rfl) (N8 g6 (pv 4) D1)))))
   (M2 (Q3 (N8 u8 (pv 3) (pv 1)))))))))),?_⟩
  refine⟨fun σ H1=>σ=[some (.ref a),some (.int m),none,none,none]/\Hd H1 a l/\Kp a H H1,?_,?_⟩
  ·obtain⟨ns,p,b,c,u,v,hl,hp,ha⟩:=id hd
   refine⟨_,rfl,a,_,_,_,rfl,rfl,SqL.of ha,rfl,rfl,_,rfl,?_⟩
   refine A7f (fun _=>?_) (fun _=>G6 ⟨rfl,hd,.refl a H⟩)
   refine⟨_,rfl,a,_,_,_,rfl,rfl,SqL.of ha,rfl,rfl,_,rfl,?_⟩
   refine A7f (fun _=>?_) (fun _=>⟨rfl,hd,.refl a H⟩)
   exact⟨_,rfl,a,l,rfl,hd,fun H1 h1 k1=>⟨rfl,h1,k1⟩⟩
  ·rintro σ H1 ⟨rfl,⟨ns,p,b,c,u,v,hl,hp,ha⟩,k1⟩
   have ne:=B0e hl ha
   refine⟨fun σ H2=>H1=H2/\σ=[some (.ref a),some (.int m),none,none,none],?_,?_⟩
   ·refine⟨_,rfl,a,_,_,_,rfl,rfl,SqL.of ha,rfl,_,_,rfl,rfl,_,rfl,?_⟩
    refine A7f (fun _=>?_) (fun _=>⟨rfl,rfl⟩)
    refine⟨_,rfl,a,_,_,_,rfl,rfl,SqL.of ha,rfl,_,rfl,_,_,rfl,rfl,hm0,?_⟩
    refine⟨_,rfl,a,_,_,_,rfl,rfl,SqL.of ha,rfl,_,rfl,_,_,rfl,rfl,⟨hm0,hm1⟩,_,rfl,a,_,_,_,rfl,rfl,ha,rfl,?_⟩
    refine⟨_,rfl,?_⟩
    exact k _ _ (B2o _ (by omega)) (B7j _ hm0) ⟨ns,p,_,_,_,_,by rw[C1 ne];exact hl,hp,E4⟩ (k1.trans fun b o e nb=>by rw[C1 nb];exact e)
   ·rintro σ H2 ⟨rfl,rfl⟩
    refine⟨_,rfl,a,_,_,_,rfl,rfl,(by first | decide | (dsimp only;decide)),SqL.of ha,rfl,_,_,rfl,rfl,a,_,_,_,rfl,rfl,ha,rfl,?_⟩
    refine⟨_,rfl,a,l,rfl,⟨ns,p,_,_,_,_,by rw[C1 ne];exact hl,hp,E4⟩,fun r H3 h3 k3=>?_⟩
    have k3':Kp a H H3:=(k1.trans fun b o e nb=>by rw[C1 nb];exact e).trans k3
    refine C39 (fun σ H4=>∃(val sz:Int),σ=[some (.ref a),some (.int m),none,some (.int val),some (.int sz)]/\Hd H4 a l/\Kp a H H4/\0 < sz)
     (fun σ _=>match σ with | [_,_,_,_,some (.int sz)]=>(m - sz).toNat | _=>0) ⟨r,4294967296,rfl,h3,k3',by decide⟩ ?_ (fun σ H Q Q' f ⟨v,e1,u,e2,i,j,e3,e4,c,e5,q⟩=>⟨v,e1,u,e2,i,j,e3,e4,c,e5,f _ _ q⟩)
    rintro σ H4 ⟨val,sz,rfl,h4,k4,hsz⟩
    refine⟨_,rfl,_,rfl,_,_,rfl,rfl,_,rfl,?_⟩
    refine A7f (fun hlt=>?_) (fun _=>?_)
    ·have hlt':sz < m:=by simpa using hlt
     refine⟨_,rfl,_,_,rfl,rfl,.inr ⟨by decide,by decide⟩,_,rfl,a,l,rfl,h4,fun r H5 h5 k5=>⟨_,_,rfl,rfl,?_⟩⟩
     refine⟨_,rfl,_,_,rfl,rfl,.inr ⟨by decide,by decide⟩,?_⟩
     refine⟨⟨_,sz * 4294967296,rfl,h5,k4.trans k5,by omega⟩,?_⟩
     show (m - sz * 4294967296).toNat < (m - sz).toNat
     omega
    ·refine⟨_,rfl,_,rfl,_,_,rfl,rfl,hm0,?_⟩
     exact k _ _ (B2o _ (by omega)) (B7j _ hm0) h4 k4
end
def mqB:List Lean.Name:=[``A3w,``P8,``A15,``A16,``dOp,``A1v,``A3z,``dT,``A3y,``A47,``dCb,``A3c,``A3b,``dC,``dF,``A3e,``A3d,``A1x,``A2x,``A2y,``dOr,``A2z,``A20,``A21,``dBV,``dIf,``A01,``dIx,``A3f,``A3g,``A3l,``A44,``A3m,``dSl,``A3n,``A3p,``A3q,``A3r,``A3u,``A3t,``aV,``aS,``P7,``arD,``A05,``P3,``A5k,``ixD,``lenD,``M8,``A0e,``gI,``gI0,``A23,``A24,``A25,``A26,``A27,``A28,``gLt,``gLe,``gGt,``gGe,``gEq,``A0d,``isN,``A12,``A3h,``A3i,``gI2,``A43,``A13,``A3j,``A3k,``A3x,``A33,``A17,``A30,``A31,``gN,``gT2,``gT3,``gT5,``A5m,``A2a,``A5n,``A5o,``A5p,``A34,``A2c,``j4,``A5l,``A32,``gIn,``gB2,``oN,``oS,``c5,``Z2,``A48,``A49,``A5a,``A5b,``A5c,``A5d,``Y1,``tyD,``A8f,``A8g,``A8h,``A62,``A8i,``A8j,``K8,``A66,``A8k,``A8l,``A61,``Q9,``A5e,``A5f,``A5g,``A5h,``A5i,``A5j,``A8m,``A8n,``A6b,``A6c,``A6d,``A2j,``arF,``A6e,``A6g,``A6h,``A6f,``A6i,``A6j,``A6k,``A6l,``A6m,``gL2,``A4a,``A06,``A4b,``A4c,``O8,``A4d,``A50,``A51,``A52,``A53,``A59,``Q1,``A54,``m6,``A55,``A56,``A57,``aW,``A58,``A6a,``A2i,``arS,``A5t,``A5u,``A5v,``A5w,``A5x,``A5y,``A5z,``roN,``A2d,``gOr,``A38,``A39,``A2h]
def mqT(s:List Lean.Name):Lean.MacroM (Lean.TSyntax `tactic):=do
 let a:=(s++mqB).toArray.map fun x=>Lean.mkCIdent x
 `(tactic|try dsimp only[$[$a:ident],*])
local macro_rules|`(tactic|left)=>mqT []
local macro_rules|`(tactic|array_get_dec)=>mqT [``B0p,``dIl,``dIv,``dIt,``B0m,``B33,``B0n,``B39,``dIL,``B0z,``B01,``B00,``B4u]
local macro_rules|`(tactic|sizeOf_list_dec)=>mqT [``Blk]
theorem K4 {k:Nat} {A:Around} (hr:U2 k A):A.units + 64 < cLine:=hr.units
def C8w:DSp:=fun ds Q=>∃m:Int,ds=[.none,.int m]/\0 < m/\m < 100000000000000000000000000000000000000000000000000000000000000/\∀r:Int,0<=r->r < m->Q (.int r)
theorem C8x {F:Addr->Prop} {hand:Option (Addr×Addr)} {H:Hp} {vs:List V} {ds:List PyData} {ms:List Md} (a:U3 F hand H (.hd::ms) vs ds):∃q vs' d ds',hand=some q/\vs=.ref q.1::vs'/\ds=d::ds'/\U3 F hand H ms vs' ds':=by
 cases a with
 | cons x t=>
  obtain⟨q,e,rfl⟩:=x
  exact⟨q,_,_,_,e,rfl,rfl,t⟩
section
variable {P:Program} {w:World} {K:B3} {mg:Str->Option Value} {base:Heap}
theorem A1c (T:Txt K mg):D0 P w K mg base CX0 3 T.f_draw.a T.f_draw.d ["_law_hand_here", "_law_many"] (spD [.hd,.sh] C8w):=(C8v T).imp fun vs H Q E h=>by
 obtain⟨F,hand,ds,Qd,h1,h2,h3,a,⟨m,rfl,m0,m1,hr⟩,h5⟩:=h
 obtain⟨q,vs',d,ds',e,rfl,e2,a⟩:=C8x a
 cases e2
 subst e
 cases a with
 | cons x t=>
  cases t
  cases (show ThV F H _ (.int m) from x)
  exact⟨q.1,q.2,m,rfl,h3 q rfl,m0,m1,fun r H' r0 r1 hd kp=>h5 _ _ _ (hr r r0 r1) (.int r) (fun b o eb n=>kp b o eb (n q rfl)) fun q' e'=>by cases e';exact hd⟩
end
def oD:Option Int->PyData
 | none=>.none
 | some i=>.int i
def onD:Option Nat->PyData
 | none=>.none
 | some n=>.int (n:Nat)
def M1 (ns:List Int):List PyData:=ns.map PyData.int
def C5 (t:Tb):List PyData:=t.map oD
def rnL (t:Rn):List PyData:=t.map onD
def Q7 (r:Rw):PyData:=.tuple [.list (C5 r.1),.list (rnL r.2)]
def R9 (w:Wy):PyData:=.tuple [.int (w.1:Nat),.int (w.2.1:Nat),.int w.2.2]
def E8 (m:Nat) (ws:List Wy):PyData:=.tuple [.int (m:Nat),.list (ws.map R9)]
def Z5:Ef->PyData
 | none=>.none
 | some (l,g,t)=>.tuple [.int l,.int g,.int t]
def D4 (ns:List Nat):List PyData:=ns.map fun n=>.int (n:Nat)
def G8 (p:List Nat×Int):PyData:=.tuple [.list (D4 p.1),.int p.2]
local macro_rules|`(tactic|right)=>mqT [``oD,``onD,``Z5,``Q7,``E8,``R9,``G8,``A0j]
local macro_rules|`(tactic|array_mem_dec)=>mqT [``B0p,``dIl,``dIv,``dIt,``B0m,``B33,``B0n,``B39,``dIL,``B0z,``B01,``B00,``B4u,``oD,``onD,``Z5,``Q7,``E8,``R9,``G8,``A0j]
local macro_rules|`(tactic|decreasing_trivial_pre_omega)=>mqT [``Blk,``oD,``onD,``Z5,``Q7,``E8,``R9,``G8,``A0j]
theorem j6 {t:Tb} {p:Nat} (h:p < t.length):atI (C5 t) ((p:Nat):Int)=some (oD (gt t p)):=P0 (by unfold C5;rw[M7,B0v h];rfl)
theorem C1g {t:Rn} {p:Nat} (h:p < t.length):atI (rnL t) ((p:Nat):Int)=some (onD (gt t p)):=P0 (by unfold rnL;rw[M7,B0v h];rfl)
theorem A6q {ws:List Wy} {n:Nat} {w:Wy} (h:ws[n]?=some w):atI (ws.map R9) ((n:Nat):Int)=some (R9 w):=P0 (by rw[M7,h];rfl)
theorem A6r {n j:Nat} (h:j < n):ixN n ((j:Nat):Int)=some j:=by
 unfold ixN
 rw[if_pos (by omega),if_pos (by omega)]
 simp
theorem A9d {α:Type} {xs:List α} {x:α} (h:xs.getLast?=some x):atI xs (-1)=some x:=by
 obtain⟨ys,rfl⟩:=List.getLast?_eq_some_iff.mp h
 exact B8e ys x
def C8y:DSp:=fun ds Q=>∃st lv ch:Int,ds=[.int st,.int lv,.int ch]/\Q (oD (K6 st lv ch))
def C8z:DSp:=fun ds Q=>∃(st lv:Int) (cs:List Int),ds=[.int st,.int lv,.list (M1 cs)]/\cs.length<=900/\Q (.list (M1 (O1 st lv cs)))
def C80:DSp:=fun ds Q=>∃st:Int,ds=[.int st]/\Q (Z5 (some (0,0,st)))
def C81:DSp:=fun ds Q=>∃st c:Int,ds=[.int st,.int c]/\Q (Z5 (W7 st c))
def C82:DSp:=fun ds Q=>∃(e:Ef) (x:Int),ds=[Z5 e,.int x]/\Q (oD (M0 e x))
def C83:DSp:=fun ds Q=>∃a b:Ef,ds=[Z5 a,Z5 b]/\Q (Z5 (V1 a b))
def C84:DSp:=fun ds Q=>∃(st:Int) (cs:List Int),ds=[.int st,.list (M1 cs)]/\Q (Z5 (fxF st cs))
def A1d (d:PyData):Bool:=Y1 "int" d&&!Y1 "bool" d
def B6d:DSp:=fun ds Q=>∃d,ds=[d]/\Q (.bool (A1d d))
def C85:DSp:=fun ds Q=>∃(m:Int) (n:Int),ds=[.int m,.int n]/\Q (.bool (decide (0<=n/\n < m)))
def C86:DSp:=fun ds Q=>∃a b:Option Int,ds=[oD a,oD b]/\Q (.bool (U4 a b))
def C87:DSp:=fun ds Q=>∃(st:Int) (t:Tb) (w:Wy),ds=[.int st,.list (C5 t),R9 w]/\w.1 < t.length/\Q (oD (N0 st t w))
section
variable {P:Program} {w:World} {K:B3} {mg:Str->Option Value} {base:Heap}
theorem B6e (T:Txt K mg):D0 P w K mg base CX0 1 T.f_stepped.a T.f_stepped.d ["store", "level", "change"] (spD [.sh,.sh,.sh] C8y):=by
 refine G1 T.f_stepped.F C05 rfl (fun C cdv A outer s H E hr=>⟨_,(@F7 _ _ _ _ _ _ (E3 (B9 (i:=3) C05.nd rfl (A8 rfl) (E2 L3 N6 (A1 (pv 1)) (A1 (pv 2))))) (F7 (J1 (E9 X6 A0c (A1 (pv 3)) A6 (C9 _))
   (B7 (C8 F6))
   J5)
   (B7 (C8 (N9 j3 (G4 (g7 rfl) rfl T.n_min j0 (A7 (A1 (pv 3)) (A7 (A1 (pv 0)) C6 A0) A0) (he:=A0) (hpl:=(A2 A0 A3)))))))),fun ds Q hl h=>?_⟩)
 obtain⟨st,lv,ch,rfl,q⟩:=h
 left
 unfold K6 at q
 by_cases c:lv + ch < 0
 ·rw[decide_eq_true c,if_pos rfl]
  rw[if_pos c] at q;exact q
 ·rw[decide_eq_false c,if_neg Q8]
  rw[if_neg c] at q;exact q
theorem C1h (T:Txt K mg):D0 P w K mg base CX0 1 T.f_is_whole.a T.f_is_whole.d ["thing"] (spD [.sh] B6d):=by
 refine G1 T.f_is_whole.F C71 rfl (fun C cdv A outer s H E hr=>⟨_,(@B7 _ _ _ _ (@C8 _ _ _ _ _ (@A22 _ _ _ _ _ _ _ _ (A04 B9n (G4 A0b rfl T.n_isinstance A0a (A4 (pv 0) (A4 (p7 (v:=V.ty "int") rfl T.n_int A8t rfl) B8 A0) A0) (he:=A0) (hpl:=(A2 A0 A3)))) (A0z (B0f (A04 B9o (G4 A0b rfl T.n_isinstance A0a (A4 (pv 0) (A4 (p7 (v:=V.ty "bool") rfl T.n_bool B8t rfl) B8 A0) A0) (he:=A0) (hpl:=(A2 A0 A3))))))))),fun ds Q hl h=>?_⟩)
 obtain⟨d,rfl,q⟩:=h
 left
 unfold A1d at q
 cases d <;> exact q
theorem C88 (T:Txt K mg):D0 P w K mg base CX0 2 T.f_is_place.a T.f_is_place.d ["many", "thing"] (spD [.sh,.sh] C85):=by
 have G_is_whole:=@C1h P w K mg base T
 have b_is_whole:=T.f_is_whole.b
 refine G1 T.f_is_place.F C73 rfl (fun C cdv A outer s H E hr=>⟨_,(B7 (C8 (A22 (C4 (B4 G_is_whole (hr.mono (by decide)) rfl T.f_is_whole.m T.f_is_whole.F.kp b_is_whole .nil B5 (A5 (A1 (pv 1)) C3 A0) (he:=A0) (hpl:=A3))) (A0z (B9b A4u X6 A6 (A1 (pv 1)) (A1 (pv 0))))))),fun ds Q hl h=>?_⟩)
 obtain⟨m,n,rfl,q⟩:=h
 left
 refine⟨_,rfl,?_⟩
 left
 by_cases c:0<=n
 ·by_cases c2:n < m
  ·simpa [c,c2,A1d,Y1,tyD,B6d] using q
  ·simpa [c,c2,A1d,Y1,tyD] using q
 ·simpa [c,A1d,Y1,tyD] using q
theorem B1u (T:Txt K mg):D0 P w K mg base CX0 1 T.f_is_more.a T.f_is_more.d ["one", "other"] (spD [.sh,.sh] C86):=by
 refine G1 T.f_is_more.F C8a rfl (fun C cdv A outer s H E hr=>⟨_,(B7 (C8 (A22 (b8 A0x A1z (A1 (pv 0)) F6 (C9 _)) (A0z (B87 (b8 U8 Y0 (A1 (pv 1)) F6 (C9 _)) (A0z (b8 v7 A1y (A1 (pv 0)) (A1 (pv 1)) (C9 _)))))))),fun ds Q hl h=>?_⟩)
 obtain⟨a,b,rfl,q⟩:=h
 cases a with
 | none=>
  left
  exact q
 | some x=>
  cases b with
  | none=>
   left
   exact q
  | some y=>
   left
   exact q
theorem C1i (T:Txt K mg):D0 P w K mg base CX0 2 T.f_behind_way.a T.f_behind_way.d ["store", "table", "way"] (spD [.sh,.sh,.sh] C87):=by
 have G_stepped:=@B6e P w K mg base T
 have b_stepped:=T.f_stepped.b
 refine G1 T.f_behind_way.F C09 rfl (fun C cdv A outer s H E hr=>⟨_,(@F7 _ _ _ _ _ _ (E3 (B9 (i:=3) C09.nd rfl (A8 rfl) (C7 (pv 1) (C7 (pv 2) (E7 (D6 (v:=V.int 0) rfl T.mg_START ⟨_,rfl⟩)) (fun _ _=>rfl)) (fun _ _=>rfl)))) (@F7 _ _ _ _ _ _ (J1 (E9 U8 Y0 (A1 (pv 3)) F6 (C9 _))
   (B7 (C8 F6))
   J5) (B7 (C8 (C4 (B4 G_stepped (hr.mono (by decide)) rfl T.f_stepped.m T.f_stepped.F.kp b_stepped .nil B5 (A5 (A1 (pv 0)) (A5 (A1 (pv 3)) (A5 (C7 (pv 2) (E7 (D6 (v:=V.int 2) rfl T.mg_CHANGE ⟨_,rfl⟩)) (fun _ _=>rfl)) C3 B0) A0) A0) (he:=A0) (hpl:=(A2 A0 (A2 B0 A3))))))))),fun ds Q hl h=>?_⟩)
 obtain⟨st,t,w,rfl,hw,q⟩:=h
 right
 rw[j6 hw]
 unfold N0 at q
 cases e:gt t w.1 with
 | none=>
  rw[e] at q
  right
  exact q
 | some l=>
  rw[e] at q
  right
  exact⟨_,_,_,rfl,q⟩
theorem C89 (T:Txt K mg):D0 P w K mg base CX0 1 T.f_passed.a T.f_passed.d ["effect", "level"] (spD [.sh,.sh] C82):=by
 refine G1 T.f_passed.F C77 rfl (fun C cdv A outer s H E hr=>⟨_,(@F7 _ _ _ _ _ _ (J1 (PW.pt (W4 (E9 U8 Y0 (A1 (pv 0)) F6 (C9 _)) (j2 (E9 X6 A0c (A1 (pv 1)) (C7 (pv 0) (E7 (D6 (v:=V.int 0) rfl T.mg_LEAST ⟨_,rfl⟩)) (fun _ _=>rfl)) (C9 _)))))
   (B7 (C8 F6))
   J5) (B7 (C8 (N9 j3 (G4 (g7 rfl) rfl T.n_min j0 (A7 (E2 L3 N6 (A1 (pv 1)) (C7 (pv 0) (E7 (D6 (v:=V.int 1) rfl T.mg_GAIN ⟨_,rfl⟩)) (fun _ _=>rfl))) (A7 (C7 (pv 0) (E7 (D6 (v:=V.int 2) rfl T.mg_TOP ⟨_,rfl⟩)) (fun _ _=>rfl)) C6 B0) F5) (he:=F5) (hpl:=(A2 B0 A3))))))),fun ds Q hl h=>?_⟩)
 obtain⟨e,x,rfl,q⟩:=h
 rcases e with _ | ⟨l,g,t⟩
 ·right
  exact q
 ·unfold M0 at q
  dsimp only at q
  right
  by_cases c:x < l
  ·rw[if_pos c] at q
   simp only[c,decide_true,if_true]
   exact q
  ·rw[if_neg c] at q
   simp only[c,decide_false,A9q,if_false]
   exact q
theorem C9a (T:Txt K mg):D0 P w K mg base CX0 2 T.f_joined.a T.f_joined.d ["one", "other"] (spD [.sh,.sh] C83):=by
 have G_passed:=@C89 P w K mg base T
 have b_passed:=T.f_passed.b
 refine G1 T.f_joined.F C08 rfl (fun C cdv A outer s H E hr=>⟨_,(@F7 _ _ _ _ _ _ (@J1 _ _ _ _ _ _ _ _ _ (PW.pt (W4 (E9 U8 Y0 (A1 (pv 0)) F6 (C9 _)) (W4 (E9 U8 Y0 (A1 (pv 1)) F6 (C9 _)) (j2 (E9 X6 A0c (C7 (pv 0) (E7 (D6 (v:=V.int 2) rfl T.mg_TOP ⟨_,rfl⟩)) (fun _ _=>rfl)) (C7 (pv 1) (E7 (D6 (v:=V.int 0) rfl T.mg_LEAST ⟨_,rfl⟩)) (fun _ _=>rfl)) (C9 _)))))) (B7 (C8 F6)) J5) (@F7 _ _ _ _ _ _ (@E3 _ _ _ _ _ (@B9 _ _ 2 _ _ _ _ C08.nd rfl (A8 rfl) (@N9 _ _ _ _ _ _ B3x (@G4 _ _ _ _ _ _ _ _ _ (B25 rfl) rfl T.n_max B3k (A7 (C7 (pv 0) (E7 (D6 (v:=V.int 0) rfl T.mg_LEAST ⟨_,rfl⟩)) (fun _ _=>rfl)) (A7 (E2 A1r A29 (C7 (pv 1) (E7 (D6 (v:=V.int 0) rfl T.mg_LEAST ⟨_,rfl⟩)) (fun _ _=>rfl)) (C7 (pv 0) (E7 (D6 (v:=V.int 1) rfl T.mg_GAIN ⟨_,rfl⟩)) (fun _ _=>rfl))) C6 F5) B0) (by decide) (by decide) B0 ((A2 F5 A3)))) (by rfl) (by first | exact .inl rfl | exact .inr rfl | assumption))) (@B7 _ _ _ _ (@C8 _ _ _ _ _ (@P4 _ _ _ _ _ _ (@A7 _ _ _ _ _ _ (A1 (pv 2)) (@A7 _ _ _ _ _ _ (E2 L3 N6 (C7 (pv 0) (E7 (D6 (v:=V.int 1) rfl T.mg_GAIN ⟨_,rfl⟩)) (fun _ _=>rfl)) (C7 (pv 1) (E7 (D6 (v:=V.int 1) rfl T.mg_GAIN ⟨_,rfl⟩)) (fun _ _=>rfl))) (A7 (C4 (B4 G_passed (hr.mono (by decide)) rfl T.f_passed.m T.f_passed.F.kp b_passed .nil B5 (A5 (A1 (pv 1)) (A5 (C7 (pv 0) (E7 (D6 (v:=V.int 2) rfl T.mg_TOP ⟨_,rfl⟩)) (fun _ _=>rfl)) C3 B0) A0) (he:=A0) (hpl:=(A2 B0 A3)))) C6 E5) F5) A0)))))),fun ds Q hl h=>?_⟩)
 obtain⟨a,b,rfl,q⟩:=h
 rcases a with _ | ⟨l1,g1,t1⟩
 ·right
  exact q
 ·rcases b with _ | ⟨l2,g2,t2⟩
  ·right
   exact q
  ·right
   by_cases c:t1 < l2
   ·rw[A7o (a:=(l1,g1,t1)) (b:=(l2,g2,t2)) c] at q
    simp only[c,decide_true,if_true]
    exact q
   ·rw[A5q (a:=(l1,g1,t1)) (b:=(l2,g2,t2)) c] at q
    simp only[c,decide_false,A9q,if_false]
    refine⟨some (l2,g2,t2),t1,rfl,?_⟩
    have e:oD (M0 (some (l2,g2,t2)) t1)=.int (if t2 < t1 + g2 then t2 else t1 + g2):=by
     unfold M0
     dsimp only
     rw[if_neg c]
     rfl
    rw[e]
    left
    simp only[Z5] at q
    exact⟨by decide,q⟩
theorem C9b (T:Txt K mg):D0 P w K mg base CX0 1 T.f_effect_of_none.a T.f_effect_of_none.d ["store"] (spD [.sh] C80):=by
 refine G1 T.f_effect_of_none.F C75 rfl (fun C cdv A outer s H E hr=>⟨_,(B7 (C8 (P4 (A7 A6 (A7 A6 (A7 (A1 (pv 0)) C6 A0) F4) F4)))),fun ds Q hl h=>?_⟩)
 obtain⟨st,rfl,q⟩:=h
 right
 exact⟨by decide,q⟩
theorem C9c (T:Txt K mg):D0 P w K mg base CX0 1 T.f_effect_of_one.a T.f_effect_of_one.d ["store", "change"] (spD [.sh,.sh] C81):=by
 refine G1 T.f_effect_of_one.F C76 rfl (fun C cdv A outer s H E hr=>⟨_,(@F7 _ _ _ _ _ _ (J1 (E9 X6 A0c (E2 L3 N6 (A1 (pv 0)) (A1 (pv 1))) A6 (C9 _))
   (B7 (C8 F6))
   J5) (@B7 _ _ _ _ (@C8 _ _ _ _ _ (@P4 _ _ _ _ _ _ (@A7 _ _ _ _ _ _ (N9 B3x (G4 (B25 rfl) rfl T.n_max B3k (A7 A6 (A7 (A00 (A1 (pv 1))) C6 B8v) F4) (he:=F4) (hpl:=(A2 B8v A3)))) (A7 (A1 (pv 1)) (A7 (N9 j3 (G4 (g7 rfl) rfl T.n_min j0 (A7 (A1 (pv 0)) (A7 (E2 L3 N6 (A1 (pv 0)) (A1 (pv 1))) C6 F5) A0) (he:=A0) (hpl:=(A2 F5 A3)))) C6 E5) A0) E5))))),fun ds Q hl h=>?_⟩)
 obtain⟨st,c,rfl,q⟩:=h
 unfold W7 at q
 right
 by_cases d:st + c < 0
 ·rw[if_pos d] at q
  simp only[d,decide_true,if_true]
  exact q
 ·rw[if_neg d] at q
  simp only[d,decide_false,A9q,if_false]
  exact⟨by decide,q⟩
theorem C9d (T:Txt K mg):D0 P w K mg base CX0 3 T.f_effect_of.a T.f_effect_of.d ["store", "changes"] (spD [.sh,.sh] C84):=by
 have G_effect_of_none:=@C9b P w K mg base T
 have b_effect_of_none:=T.f_effect_of_none.b
 have G_effect_of_one:=@C9c P w K mg base T
 have b_effect_of_one:=T.f_effect_of_one.b
 have G_joined:=@C9a P w K mg base T
 have b_joined:=T.f_joined.b
 refine G1 T.f_effect_of.F B1l rfl (fun C cdv A outer s H E hr=>⟨_,(@F7 _ _ _ _ _ _ (E3 (B9 (i:=2) B1l.nd rfl (A8 rfl) (C4 (B4 G_effect_of_none (hr.mono (by decide)) rfl T.f_effect_of_none.m T.f_effect_of_none.F.kp b_effect_of_none .nil B5 (A5 (A1 (pv 0)) C3 A0) (he:=A0) (hpl:=A3))))) (@F7 _ _ _ _ _ _ (@V4 _ _ _ _ _ _ (@Q4 _ _ _ _ _ _ _ _ O6 rfl (b9 (pv 1)) (Z1 (J2 (i:=3) B1l.nd rfl (A8 rfl))) (@B7 _ _ _ _ (@E3 _ _ _ _ _ (@B9 _ _ 2 _ _ _ _ B1l.nd rfl (A8 rfl) (@C4 _ _ _ _ _ _ _ (@B4 _ _ _ _ _ _ _ _ _ _ _ _ _ _ _ _ G_joined (hr.mono (by decide)) rfl T.f_joined.m T.f_joined.F.kp b_joined .nil B5 (A5 (A1 (pv 2)) (A5 (C4 (B4 G_effect_of_one (hr.mono (by decide)) rfl T.f_effect_of_one.m T.f_effect_of_one.F.kp b_effect_of_one .nil B5 (A5 (A1 (pv 0)) (A5 (A1 (pv 3)) C3 A0) A0) (he:=A0) (hpl:=(A2 A0 A3)))) C3 E5) A0) (by decide) A0 ((A2 E5 A3)))) (by rfl) (by first | exact .inl rfl | exact .inr rfl | assumption)))) (by intro _;rfl))) (B7 (C8 (A1 (pv 2)))))),fun ds Q hl h=>?_⟩)
 obtain⟨st,cs,rfl,q⟩:=h
 left
 refine⟨st,rfl,?_⟩
 array_get_dec
 refine⟨fun r ρ=>∃(cs':List Int) (e:Ef) (z0 z:Sl),r=M1 cs'/\ρ=[Sl.sh (.int st),z0,Sl.sh (Z5 e),z]/\Q (Z5 (foF st e cs')),⟨cs,_,_,_,rfl,rfl,q⟩,?_,?_⟩
 ·rintro x r ρ ⟨cs',e,z0,z,h1,rfl,q⟩
  cases cs' with
  | nil=>cases h1
  | cons c cs'=>
   cases (show x::r=PyData.int c::M1 cs' from h1)
   sizeOf_list_dec
   refine⟨_,_,rfl,?_⟩
   left
   refine⟨_,_,rfl,?_⟩
   exact⟨cs',_,_,_,rfl,rfl,q⟩
 ·rintro ρ ⟨cs',e,z0,z,h1,rfl,q⟩
  cases cs' with
  | nil=>
   left
   exact q
  | cons c cs'=>cases h1
theorem C9e (T:Txt K mg):D0 P w K mg base CX0 2 T.f_levels_along.a T.f_levels_along.d ["store", "level", "changes"] (spD [.sh,.sh,.sh] C8z):=by
 have G_stepped:=@B6e P w K mg base T
 have b_stepped:=T.f_stepped.b
 refine G1 T.f_levels_along.F B1k rfl (fun C cdv A outer s H E hr=>⟨_,(@F7 _ _ _ _ _ _ (Z0 (B9 (i:=3) B1k.nd rfl (A8 rfl) (K0 (A7 (A1 (pv 1)) C6 A0)))) (@F7 _ _ _ _ _ _ (@V4 _ _ _ _ _ _ (@Q4 _ _ _ _ _ _ _ _ O6 rfl (b9 (pv 2)) (Z1 (J2 (i:=4) B1k.nd rfl (A8 rfl))) (@F7 _ _ _ _ _ _ (E3 (B9 (i:=5) B1k.nd rfl (A8 rfl) (C4 (B4 G_stepped (hr.mono (by decide)) rfl T.f_stepped.m T.f_stepped.F.kp b_stepped .nil B5 (A5 (A1 (pv 0)) (A5 (C7 (pv 3) (A00 A6) (fun _ _=>rfl)) (A5 (A1 (pv 4)) C3 A0) B0) A0) (he:=A0) (hpl:=(A2 B0 (A2 A0 A3))))))) (F7 (J1 (E9 U8 Y0 (A1 (pv 5)) F6 (C9 _))
   (B7 (C8 (A1 (pv 3))))
   J5)
   (B7 (A08 (S8 (Y5 V3 o8 o9 i7 (pv 3) (A4 (A1 (pv 5)) B8 A0))))))) (by intro _;rfl))) (B7 (C8 (A1 (pv 3)))))),fun ds Q hl h=>?_⟩)
 obtain⟨st,lv,cs,rfl,hn,q⟩:=h
 array_get_dec
 refine⟨by decide,fun r ρ=>∃(cs' ys:List Int) (l:Int) (z0 z1 z2:Sl),r=M1 cs'/\ρ=[Sl.sh (.int st),Sl.sh (.int lv),z0,Sl.ow (M1 (ys++[l])),z1,z2]/\ys.length + cs'.length=cs.length/\ys++O1 st l cs'=O1 st lv cs,⟨cs,[],lv,_,_,_,rfl,rfl,by simp,rfl⟩,?_,?_⟩
 ·rintro x r ρ ⟨cs',ys,l,z0,z1,z2,h1,rfl,h2,h3⟩
  cases cs' with
  | nil=>cases h1
  | cons c cs'=>
   cases (show x::r=PyData.int c::M1 cs' from h1)
   have hlast:atI (M1 (ys++[l])) (-1)=some (.int l):=A9d (by unfold M1;simp)
   sizeOf_list_dec
   rw[hlast]
   left
   refine⟨_,_,_,rfl,?_⟩
   cases e:K6 st l c with
   | none=>
    rw[C66 e] at h3
    right
    rw[h3]
    exact q
   | some v=>
    rw[C67 e] at h3
    right
    refine⟨by unfold M1;rw[D5,M4];simp at h2 ⊢;omega,cs',ys++[l],v,z0,_,_,rfl,by rw[show M1 (ys++[l]++[v])=M1 (ys++[l])++[.int v] by unfold M1;simp],by simp at h2 ⊢;omega,by rw[<-h3];simp⟩
 ·rintro ρ ⟨cs',ys,l,z0,z1,z2,h1,rfl,h2,h3⟩
  cases cs' with
  | nil=>
   left
   have e:ys++[l]=O1 st lv cs:=h3
   rw[e]
   exact q
  | cons c cs'=>cases h1
end
theorem C1j:∀ws:List Wy,V5 (ws.map R9)=true
 | []=>rfl
 | w::ws=>by
  show (O8 (R9 w)&&V5 (ws.map R9))=true
  rw[C1j ws];rfl
theorem B1v:∀ns:List Nat,V5 (D4 ns)=true
 | []=>rfl
 | w::ws=>by
  show (O8 (.int _)&&V5 (D4 ws))=true
  rw[B1v ws];rfl
theorem d7 {t:Tb}:(C5 t).length=t.length:=by unfold C5;rw[D5]
theorem C9f {t:Rn}:(rnL t).length=t.length:=by unfold rnL;rw[D5]
theorem d8 {t:List Nat}:(D4 t).length=t.length:=by unfold D4;rw[D5]
theorem B1w {t:Tb} {i:Nat} {x:Option Int}:(C5 t).set i (oD x)=C5 (t.set i x):=by unfold C5;rw[List.map_set]
theorem C9g {t:Rn} {i n:Nat}:(rnL t).set i (.int (n:Nat))=rnL (t.set i (some n)):=by unfold rnL;rw[List.map_set];rfl
theorem C1k {n:Nat}:A46 [PyData.none] n=rnL (G5 n none):=by
 unfold A46 rnL
 induction n with
 | zero=>rfl
 | succ n ih=>rw[Y4,Y4,A60,n8,ih];rfl
theorem C1l {n:Nat}:A46 [PyData.none] n=C5 (G5 n none):=by
 unfold A46 C5
 induction n with
 | zero=>rfl
 | succ n ih=>rw[Y4,Y4,A60,n8,ih];rfl
theorem C9h {ws:List Wy}:T1 (ws.map R9)=ws.zipIdx.map fun p=>.tuple [.int (p.2:Nat),R9 p.1]:=by
 unfold T1
 rw[List.zipIdx_map,p5]
 rfl
def C9i:DSp:=fun ds Q=>∃(m:Nat) (ws:List Wy) (ns:List Nat),ds=[E8 m ws,.list (D4 ns)]/\(∀n∈ns,n < ws.length)/\ns.length<=900/\Q (.list (M1 (chs ws ns)))
def C9j:DSp:=fun ds Q=>∃t:Tb,ds=[.list (C5 t)]/\t.length<=900/\Q (Q7 (t,G5 t.length none))
def C9k:DSp:=fun ds Q=>∃(m:Nat) (ws:List Wy) (st:Int) (t s:Tb),ds=[E8 m ws,.int st,.list (C5 t),.list (C5 s)]/\J8 m ws/\t.length=m/\s.length=m/\Q (Q7 (O0 m ws st t s))
def A4h (m:Nat) (ws:List Wy) (rs:List Rw):Prop:=∀r∈rs,r.2.length=m/\∀q n,gt r.2 q=some n->n < ws.length
def C9l:DSp:=fun ds Q=>∃(m:Nat) (ws:List Wy) (rs:List Rw) (p:Nat),ds=[E8 m ws,.list (rs.map Q7),.int (p:Nat)]/\p < m/\J8 m ws/\A4h m ws rs/\rs.length<=900/\Q (.tuple [.int ((wlk ws rs.reverse p).1:Nat),.list (D4 (wlk ws rs.reverse p).2)])
section
variable {P:Program} {w:World} {K:B3} {mg:Str->Option Value} {base:Heap}
theorem C9m (T:Txt K mg):D0 P w K mg base CX0 1 T.f_changes_of.a T.f_changes_of.d ["land", "numbers"] (spD [.bd,.sh] C9i):=by
 refine G1 T.f_changes_of.F C74 rfl (fun C cdv A outer s H E hr=>⟨_,(@B7 _ _ _ _ (@C8 _ _ _ _ _ (F1 (A0h rfl (Y6 (N5.new (N:=["land", "numbers"]) (osc:=C2 B04) (by decide +kernel)) rfl (b9 (pv 1)) (fun _=>Y2) (fun _=>(A0n (Q0 (Q0 (Q0 (c8 (pv 0)) (E7 (D6 (v:=V.int 1) rfl T.mg_WAYS ⟨_,rfl⟩)) (fun _ _=>rfl)) (A1 (pv 2)) (fun _ _=>rfl)) (E7 (D6 (v:=V.int 2) rfl T.mg_CHANGE ⟨_,rfl⟩)) (fun _ _=>rfl))))))))),fun ds Q hl h=>?_⟩)
 obtain⟨m,ws,ns,rfl,hb,hn,q⟩:=h
 array_mem_dec
 refine⟨⟨rfl,by rw[d8];omega⟩,?_⟩
 unfold D4
 refine A0i (f:=fun n=>.int (V2 ws n)) (fun n hm Q' q'=>?_) ?_
 ·obtain⟨w,hw⟩:∃w,ws[n]?=some w:=⟨_,K3 (hb n hm)⟩
  right
  rw[A6q hw]
  right
  have e:V2 ws n=w.2.2:=by unfold V2;rw[hw]
  rw[e] at q'
  exact⟨rfl,q'⟩
 ·unfold M1 chs at q
  rw[p5] at q
  exact q
theorem C9n (T:Txt K mg):D0 P w K mg base CX0 1 T.f_first_row.a T.f_first_row.d ["table"] (spD [.bo] C9j):=by
 refine G1 T.f_first_row.F C8b rfl (fun C cdv A outer s H E hr=>⟨_,(B7 (C8 (P4 (A7 (F1 (B30 (b7 w5 rfl T.n_list W1 (A4 (pv 0) B8 A0) (he:=A0) (hpl:=A3)))) (A7 (F1 (B0j (F1 (K0 (A7 F6 C6 F4))) (W5 (G4 Q5 rfl T.n_len Q6 (A4 (pv 0) B8 A0) (he:=A0) (hpl:=A3))))) C6 F5) E5)))),fun ds Q hl h=>?_⟩)
 obtain⟨t,rfl,hn,q⟩:=h
 right
 refine⟨by decide,⟨by omega,by rw[d7];omega,by decide⟩,by decide,?_⟩
 unfold Q7 at q
 rw[d7,show ((t.length:Nat):Int).toNat=t.length by simp,C1k]
 exact q
theorem C9o (T:Txt K mg):D0 P w K mg base CX0 3 T.f_row_behind.a T.f_row_behind.d ["land", "store", "table", "stayed"] (spD [.bd,.sh,.sh,.sh] C9k):=by
 have G_behind_way:=@C1i P w K mg base T
 have b_behind_way:=T.f_behind_way.b
 have G_is_more:=@B1u P w K mg base T
 have b_is_more:=T.f_is_more.b
 refine G1 T.f_row_behind.F A7w rfl (fun C cdv A outer s H E hr=>⟨_,(@F7 _ _ _ _ _ _ (Z0 (B9 (i:=4) A7w.nd rfl (A8 rfl) (B30 (b7 w5 rfl T.n_list W1 (A4 (pv 3) B8 A0) (he:=A0) (hpl:=A3))))) (@F7 _ _ _ _ _ _ (Z0 (B9 (i:=5) A7w.nd rfl (A8 rfl) (B0j (F1 (K0 (A7 F6 C6 F4))) (A0n (Q0 (c8 (pv 0)) (E7 (D6 (v:=V.int 0) rfl T.mg_MANY ⟨_,rfl⟩)) (fun _ _=>rfl)))))) (@F7 _ _ _ _ _ _ (@V4 _ _ _ _ _ _ (@Q4 _ _ _ _ _ _ _ _ O6 rfl (C7q (B0d rfl T.n_enumerate (A4 (Q0 (c8 (pv 0)) (E7 (D6 (v:=V.int 1) rfl T.mg_WAYS ⟨_,rfl⟩)) (fun _ _=>rfl)) B8 B0))) (B0o (A0w (n:=2) rfl (N2 (J2 (i:=6) A7w.nd rfl (A8 rfl)) (N2 (J2 (i:=7) A7w.nd rfl (A8 rfl)) p8)))) (@F7 _ _ _ _ _ _ (E3 (B9 (i:=8) A7w.nd rfl (A8 rfl) (C4 (B4 G_behind_way (hr.mono (by decide)) rfl T.f_behind_way.m T.f_behind_way.F.kp b_behind_way .nil B5 (A5 (A1 (pv 1)) (A5 (A1 (pv 2)) (A5 (A1 (pv 7)) C3 A0) A0) A0) (he:=A0) (hpl:=(A2 A0 (A2 A0 A3))))))) (@B7 _ _ _ _ (@J1 _ _ _ _ _ _ _ _ _ (W3 (C4 (B4 G_is_more (hr.mono (by decide)) rfl T.f_is_more.m T.f_is_more.F.kp b_is_more .nil B5 (A5 (A1 (pv 8)) (A5 (C7 (pv 4) (C7 (pv 7) (E7 (D6 (v:=V.int 1) rfl T.mg_END ⟨_,rfl⟩)) (fun _ _=>rfl)) (fun _ _=>rfl)) C3 B0) A0) (he:=A0) (hpl:=(A2 B0 A3))))) (F7 (A7m (T9 (A1 (pv 8)) (Z9 (pv 4) (C7 (pv 7) (E7 (D6 (v:=V.int 1) rfl T.mg_END ⟨_,rfl⟩)) (fun _ _=>rfl)) X9)))
   (B7 (A7m (T9 (A1 (pv 6)) (Z9 (pv 5) (C7 (pv 7) (E7 (D6 (v:=V.int 1) rfl T.mg_END ⟨_,rfl⟩)) (fun _ _=>rfl)) X9))))) J5))) (by intro _;rfl))) (B7 (C8 (P4 (A7 (A1 (pv 4)) (A7 (A1 (pv 5)) C6 A0) A0))))))),fun ds Q hl h=>?_⟩)
 obtain⟨m,ws,st,t,s0,rfl,ok,ht,hs,q⟩:=h
 have m2:=ok.m2
 array_mem_dec
 refine⟨by decide,rfl,⟨by omega,by omega,by decide⟩,?_⟩
 rw[show ((m:Nat):Int).toNat=m by simp,C1k,C9h]
 refine⟨C1j ws,fun r ρ=>∃(R:List (Wy×Nat)) (acc:Tb×Rn) (z1 z2 z3:Sl),r=R.map (fun p=>.tuple [.int (p.2:Nat),R9 p.1])/\ρ=[Sl.bd (E8 m ws),Sl.sh (.int st),Sl.sh (.list (C5 t)),Sl.sh (.list (C5 s0)),Sl.ow (C5 acc.1),Sl.ow (rnL acc.2),z1,z2,z3]/\acc.1.length=m/\acc.2.length=m/\(∀p∈R,p.1∈ws)/\R.foldl (A37 st t) acc=O0 m ws st t s0,
  ⟨ws.zipIdx,(s0,G5 m none),_,_,_,rfl,rfl,hs,by simp,fun p hp=>?_,rfl⟩,?_,?_⟩
 ·obtain⟨w,n⟩:=p
  rw[B7h] at hp
  exact O2 hp
 ·rintro x r ρ ⟨R,acc,z1,z2,z3,h1,rfl,l1,l2,hR,hF⟩
  cases R with
  | nil=>cases h1
  | cons p R=>
   cases (show x::r=PyData.tuple [.int (p.2:Nat),R9 p.1]::R.map (fun p=>.tuple [.int (p.2:Nat),R9 p.1]) from h1)
   have hw:=hR p C0
   have e1:=ok.en _ hw
   have hF':R.foldl (A37 st t) (A37 st t acc p)=O0 m ws st t s0:=hF
   sizeOf_list_dec
   refine⟨_,_,_,rfl,by rw[ht];exact ok.st _ hw,?_⟩
   unfold R9
   left
   rw[j6 (by rw[l1];exact e1)]
   left
   refine⟨_,_,rfl,?_⟩
   unfold A37 at hF'
   cases c:U4 (N0 st t p.1) (gt acc.1 p.1.2.1) with
   | true=>
    rw[if_pos c] at hF'
    left
    rw[A6r (by rw[d7,l1];exact e1)]
    left
    rw[A6r (by rw[C9f,l2];exact e1),B1w]
    left
    rw[C9g]
    exact⟨R,_,_,_,_,rfl,rfl,by rw[O3];exact l1,by rw[O3];exact l2,fun p hp=>hR p (B6 _ hp),hF'⟩
   | false=>
    rw[if_neg (by rw[c];exact Q8)] at hF'
    left
    exact⟨R,acc,_,_,_,rfl,rfl,l1,l2,fun p hp=>hR p (B6 _ hp),hF'⟩
 ·rintro ρ ⟨R,acc,z1,z2,z3,h1,rfl,l1,l2,hR,hF⟩
  cases R with
  | cons p R=>cases h1
  | nil=>
   left
   refine⟨by decide,?_⟩
   have hF':acc=O0 m ws st t s0:=hF
   rw[<-hF'] at q
   exact q
theorem C1m (T:Txt K mg):D0 P w K mg base CX0 1 T.f_walk_to.a T.f_walk_to.d ["land", "rows", "place"] (spD [.bd,.bd,.sh] C9l):=by
 refine G1 T.f_walk_to.F A7x rfl (fun C cdv A outer s H E hr=>⟨_,(@F7 _ _ _ _ _ _ (E3 (B9 (i:=3) A7x.nd rfl (A8 rfl) (A1 (pv 2)))) (@F7 _ _ _ _ _ _ (Z0 (B9 (i:=4) A7x.nd rfl (A8 rfl) (K0 C6))) (@F7 _ _ _ _ _ _ (@C7v _ _ _ _ _ _ (@Q4 _ _ _ _ _ _ _ _ O6 rfl (C7u (C5y rfl T.n_reversed (A4 (c8 (pv 1)) B8 A0))) (J2 (i:=5) A7x.nd rfl (A8 rfl)) (@F7 _ _ _ _ _ _ (E3 (B9 (i:=6) A7x.nd rfl (A8 rfl) (A0n (Q0 (Q0 (c8 (pv 5)) (E7 (D6 (v:=V.int 1) rfl T.mg_RISEN ⟨_,rfl⟩)) (fun _ _=>rfl)) (A1 (pv 3)) (fun _ _=>rfl))))) (@B7 _ _ _ _ (@J1 _ _ _ _ _ _ _ _ _ (E9 A0x A1z (A1 (pv 6)) F6 (C9 _)) (@F7 _ _ _ _ _ _ (A08 (S8 (Y5 V3 o8 o9 i7 (pv 4) (A4 (A1 (pv 6)) B8 A0)))) (B7 (E3 (B9 (i:=3) A7x.nd rfl (A8 rfl) (A0n (Q0 (Q0 (Q0 (c8 (pv 0)) (E7 (D6 (v:=V.int 1) rfl T.mg_WAYS ⟨_,rfl⟩)) (fun _ _=>rfl)) (A1 (pv 6)) (fun _ _=>rfl)) (E7 (D6 (v:=V.int 0) rfl T.mg_START ⟨_,rfl⟩)) (fun _ _=>rfl))))))) J5))) (by intro _;rfl))) (B7 (C8 (P4 (A7 (A1 (pv 3)) (A7 (F1 (C6o (C5w rfl T.n_list rfl T.n_reversed rfl (A4 (A1 (pv 4)) B8 A0)))) C6 E5) A0))))))),fun ds Q hl h=>?_⟩)
 obtain⟨m,ws,rs,p,rfl,hp,ok,hr2,hn,q⟩:=h
 array_mem_dec
 refine⟨by decide,?_⟩
 refine⟨fun r ρ=>∃(R:List Rw) (here:Nat) (acc:List Nat) (z1 z2:Sl),r=R.map Q7/\ρ=[Sl.bd (E8 m ws),Sl.bd (.list (rs.map Q7)),Sl.sh (.int (p:Nat)),Sl.sh (.int (here:Nat)),Sl.ow (D4 acc),z1,z2]/\here < m/\A4h m ws R/\acc.length + R.length<=rs.length/\wlk ws rs.reverse p=((wlk ws R here).1,(wlk ws R here).2++acc.reverse),
  ⟨rs.reverse,p,[],_,_,by rw[List.map_reverse],rfl,hp,fun r hr=>hr2 r (B7k.mp hr),by simp,by simp⟩,?_,?_⟩
 ·rintro x r ρ ⟨R,here,acc,z1,z2,h1,rfl,hh,hR,hl2,hW⟩
  cases R with
  | nil=>cases h1
  | cons r0 R=>
   cases (show x::r=Q7 r0::R.map Q7 from h1)
   obtain⟨l0,b0⟩:=hR r0 C0
   decreasing_trivial_pre_omega
   rw[C1g (by rw[l0];exact hh)]
   cases c:gt r0.2 here with
   | none=>
    right
    refine⟨rfl,R,here,acc,_,_,rfl,rfl,hh,fun r hr=>hR r (B6 _ hr),by simp at hl2;omega,?_⟩
    rw[hW]
    have:wlk ws (r0::R) here=wlk ws R here:=by
     show (match gt r0.2 here with
      | none=>wlk ws R here
      | some n=>((wlk ws R (P9 ws n)).1,(wlk ws R (P9 ws n)).2++[n]))=_
     rw[c]
    rw[this]
   | some n=>
    have hn':=b0 here n c
    obtain⟨w,hw⟩:∃w,ws[n]?=some w:=⟨_,K3 hn'⟩
    right
    refine⟨rfl,by rw[d8];simp at hl2;omega,?_⟩
    rw[A6q hw]
    right
    refine⟨rfl,R,w.1,acc++[n],_,_,rfl,by rw[show D4 (acc++[n])=D4 acc++[.int (n:Nat)] by unfold D4;simp],ok.st w (O2 hw),fun r hr=>hR r (B6 _ hr),by simp at hl2 ⊢;omega,?_⟩
    ·rw[hW]
     have:wlk ws (r0::R) here=((wlk ws R w.1).1,(wlk ws R w.1).2++[n]):=by
      show (match gt r0.2 here with
       | none=>wlk ws R here
       | some n=>((wlk ws R (P9 ws n)).1,(wlk ws R (P9 ws n)).2++[n]))=_
      rw[c]
      have e:P9 ws n=w.1:=by unfold P9;rw[hw]
      show ((wlk ws R (P9 ws n)).1,(wlk ws R (P9 ws n)).2++[n])=_
      rw[e]
     rw[this]
     simp
 ·rintro ρ ⟨R,here,acc,z1,z2,h1,rfl,hh,hR,hl2,hW⟩
  cases R with
  | cons p R=>cases h1
  | nil=>
   left
   refine⟨by decide,?_⟩
   rw[hW] at q
   have e:(D4 acc).reverse=D4 acc.reverse:=by unfold D4;rw[List.map_reverse]
   rw[e]
   exact q
end
inductive Pth (ws:List Wy):Nat->List Nat->Nat->Prop
 | nil {p}:Pth ws p [] p
 | cons {n w ns q}:ws[n]?=some w->Pth ws w.2.1 ns q->Pth ws w.1 (n::ns) q
abbrev Pt:=List Nat×Int
inductive Trp (ws:List Wy):Nat->List Pt->Nat->Prop
 | nil {p}:Trp ws p [] p
 | cons {p q r pt ps}:Pth ws p pt.1 q->pt.1≠[]->1<=pt.2->pt.2<=1000000000000000000000000->(pt.2=1\/q=p)->Trp ws q ps r->Trp ws p (pt::ps) r
theorem Pth.app {ws:List Wy} {a b c:Nat} {xs ys:List Nat} (h1:Pth ws a xs b) (h2:Pth ws b ys c):Pth ws a (xs++ys) c:=by
 induction h1 with
 | nil=>exact h2
 | cons e _ ih=>exact .cons e (ih h2)
theorem Trp.app {ws:List Wy} {a b c:Nat} {xs ys:List Pt} (h1:Trp ws a xs b) (h2:Trp ws b ys c):Trp ws a (xs++ys) c:=by
 induction h1 with
 | nil=>exact h2
 | cons e1 e2 e3 e4 e5 _ ih=>exact .cons e1 e2 e3 e4 e5 (ih h2)
def prt (ns:List Nat):List Pt:=if ns.isEmpty then [] else [(ns,1)]
theorem B6f {ws:List Wy} {a b:Nat} {ns:List Nat} (h:Pth ws a ns b):Trp ws a (prt ns) b:=by
 cases h with
 | nil=>exact .nil
 | cons e t=>exact .cons (pt:=(_,1)) (.cons e t) (by simp) (show (1:Int)<=1 by decide) (show (1:Int)<=1000000000000000000000000 by decide) (.inl rfl) .nil
theorem Wk.pth {ws:List Wy} {st:Int} {b:Tb} {N:List Nat} {P:Nat->Nat} {L:Nat->Int} (W:Wk ws st b N P L) {i:Nat}:∀{j:Nat},i<=j->j<=N.length->Pth ws (P i) (My.seg N i j) (P j)
 | 0,h1,_=>by
  have:i=0:=by omega
  subst this
  rw[A7q];exact .nil
 | j + 1,h1,h2=>by
  by_cases e:i=j + 1
  ·subst e
   rw[A7q];exact .nil
  ·rw[B4i (by omega) (by omega)]
   obtain⟨w,hw,e1,e2,_⟩:=W.way j N[j] (K3 (by omega))
   refine (W.pth (i:=i) (j:=j) (by omega) (by omega)).app ?_
   rw[<-e1,<-e2]
   exact .cons hw .nil
theorem M3 (i j:Int):min (PyData.depth (.int i)) (PyData.depth (.int j))<=64:=by show min 0 0<=64;decide
theorem Q2 (i j:Int):PyData.eqv (.int i) (.int j)=(i == j):=by rw[PyData.eqv]
def C9p:DSp:=fun ds Q=>∃(m:Nat) (ws:List Wy) (p q:Nat) (ns:List Nat),ds=[E8 m ws,.int (p:Nat),.list (D4 ns)]/\Pth ws p ns q/\Q (.int (q:Nat))
def C9q:DSp:=fun ds Q=>∃(m:Nat) (ws:List Wy) (p q:Nat) (pt:Pt),ds=[E8 m ws,.int (p:Nat),G8 pt]/\Pth ws p pt.1 q/\pt.1≠[]/\1<=pt.2/\pt.2<=1000000000000000000000000/\(pt.2=1\/q=p)/\Q (.int (q:Nat))
def C9r:DSp:=fun ds Q=>∃(m:Nat) (ws:List Wy) (p q:Nat) (ps:List Pt),ds=[E8 m ws,.int (p:Nat),.list (ps.map G8)]/\Trp ws p ps q/\Q (.int (q:Nat))
def C9s:DSp:=fun ds Q=>∃ns:List Nat,ds=[.list (D4 ns)]/\Q (.list ((prt ns).map G8))
section
variable {P:Program} {w:World} {K:B3} {mg:Str->Option Value} {base:Heap}
theorem C1n (T:Txt K mg):D0 P w K mg base CX0 1 T.f_parts_by.a T.f_parts_by.d ["numbers"] (spD [.sh] C9s):=by
 refine G1 T.f_parts_by.F C8d rfl (fun C cdv A outer s H E hr=>⟨_,(B7 (C8 (A40 (E9 v7 A1y (W5 (G4 Q5 rfl T.n_len Q6 (A4 (pv 0) B8 A0) (he:=A0) (hpl:=A3))) A6 (C9 _)) (F1 (K0 (A7 (P4 (A7 (A1 (pv 0)) (A7 A6 C6 F4) A0)) C6 A1u))) (F1 (K0 C6))))),fun ds Q hl h=>?_⟩)
 obtain⟨ns,rfl,q⟩:=h
 right
 cases ns with
 | nil=>exact⟨by decide,q⟩
 | cons n ns=>
  have e:decide ((0:Int) < ((D4 (n::ns)).length:Nat))=true:=by
   rw[d8];exact decide_eq_true (by rw[K8];omega)
  rw[e]
  right
  exact⟨by decide,by decide,q⟩
theorem C9t (T:Txt K mg):D0 P w K mg base CX0 3 T.f_behind_ways.a T.f_behind_ways.d ["land", "place", "numbers"] (spD [.bd,.sh,.sh] C9p):=by
 have G_is_place:=@C88 P w K mg base T
 have b_is_place:=T.f_is_place.b
 refine G1 T.f_behind_ways.F B1m rfl (fun C cdv A outer s H E hr=>⟨_,(@F7 _ _ _ _ _ _ (E3 (B9 (i:=3) B1m.nd rfl (A8 rfl) (A1 (pv 1)))) (@F7 _ _ _ _ _ _ (@V4 _ _ _ _ _ _ (@Q4 _ _ _ _ _ _ _ _ O6 rfl (b9 (pv 2)) (Z1 (J2 (i:=4) B1m.nd rfl (A8 rfl))) (@F7 _ _ _ _ _ _ (@J1 _ _ _ _ _ _ _ _ _ (PW.pt (@W4 _ _ _ _ _ _ _ _ (@Y8 _ _ _ _ _ (@W3 _ _ _ _ (@C4 _ _ _ _ _ _ _ (@B4 _ _ _ _ _ _ _ _ _ _ _ _ _ _ _ _ G_is_place (hr.mono (by decide)) rfl T.f_is_place.m T.f_is_place.F.kp b_is_place .nil B5 (A5 (C7p (G4 Q5 rfl T.n_len Q6 (A4 (Q0 (c8 (pv 0)) (E7 (D6 (v:=V.int 1) rfl T.mg_WAYS ⟨_,rfl⟩)) (fun _ _=>rfl)) B8 B0) (he:=B0) (hpl:=A3))) (A5 (A1 (pv 4)) C3 A0) E5) (by decide) E5 ((A2 A0 A3)))) (by intro _;rfl))) (j2 (E9 (Y7 (K4 hr)) L9 (A0n (Q0 (Q0 (Q0 (c8 (pv 0)) (E7 (D6 (v:=V.int 1) rfl T.mg_WAYS ⟨_,rfl⟩)) (fun _ _=>rfl)) (A1 (pv 4)) (fun _ _=>rfl)) (E7 (D6 (v:=V.int 0) rfl T.mg_START ⟨_,rfl⟩)) (fun _ _=>rfl))) (A1 (pv 3)) (C9 _))))) (B7 (C8 F6)) J5) (B7 (E3 (B9 (i:=3) B1m.nd rfl (A8 rfl) (A0n (Q0 (Q0 (Q0 (c8 (pv 0)) (E7 (D6 (v:=V.int 1) rfl T.mg_WAYS ⟨_,rfl⟩)) (fun _ _=>rfl)) (A1 (pv 4)) (fun _ _=>rfl)) (E7 (D6 (v:=V.int 1) rfl T.mg_END ⟨_,rfl⟩)) (fun _ _=>rfl))))))) (by intro _;rfl))) (B7 (C8 (A1 (pv 3)))))),fun ds Q hl h=>?_⟩)
 obtain⟨m,ws,p,q0,ns,rfl,hp,q⟩:=h
 array_mem_dec
 refine⟨fun r ρ=>∃(ns':List Nat) (p':Nat) (z:Sl),r=D4 ns'/\ρ=[Sl.bd (E8 m ws),Sl.sh (.int (p:Nat)),Sl.sh (.list (D4 ns)),Sl.sh (.int (p':Nat)),z]/\Pth ws p' ns' q0,⟨ns,p,_,rfl,rfl,hp⟩,?_,?_⟩
 ·rintro x r ρ ⟨ns',p',z,h1,rfl,hp'⟩
  cases hp' with
  | nil=>cases h1
  | @cons n w ns' _ hw hp'=>
   cases (show x::r=PyData.int (n:Nat)::D4 ns' from h1)
   have hn:=(m9.mp hw).1
   decreasing_trivial_pre_omega
   refine⟨_,_,rfl,?_⟩
   rw[D5,decide_eq_true (show (0:Int)<=((n:Nat):Int)/\((n:Nat):Int) < ((ws.length:Nat):Int) from ⟨by omega,by omega⟩)]
   decreasing_trivial_pre_omega
   rw[A6q hw]
   right
   refine⟨rfl,rfl,rfl,M3 _ _,?_⟩
   rw[Q2,beq_self_eq_true]
   right
   exact⟨rfl,ns',w.2.1,_,rfl,rfl,hp'⟩
 ·rintro ρ ⟨ns',p',z,h1,rfl,hp'⟩
  cases hp' with
  | nil=>
   left
   exact q
  | cons hw hp'=>cases h1
theorem C9u (T:Txt K mg):D0 P w K mg base CX0 4 T.f_behind_part.a T.f_behind_part.d ["land", "place", "part"] (spD [.bd,.sh,.sh] C9q):=by
 have G_behind_ways:=@C9t P w K mg base T
 have b_behind_ways:=T.f_behind_ways.b
 refine G1 T.f_behind_part.F C1a rfl (fun C cdv A outer s H E hr=>⟨_,(@F7 _ _ _ _ _ _ (@J1 _ _ _ _ _ _ _ _ _ (PW.pt (@W4 _ _ _ _ _ _ _ _ (E9 (P2 (K4 hr)) L9 (N9 B9f (G4 Q5 rfl T.n_len Q6 (A7 (C7 (pv 2) (E7 (D6 (v:=V.int 0) rfl T.mg_NUMBERS ⟨_,rfl⟩)) (fun _ _=>rfl)) C6 B0) (he:=B0) (hpl:=A3))) A6 (C9 _)) (j2 (Y8 (B3w A4u A4u A6 (C7 (pv 2) (E7 (D6 (v:=V.int 1) rfl T.mg_TIMES ⟨_,rfl⟩)) (fun _ _=>rfl)) (E2 v5 A02 A6 A6)))))) (B7 (C8 F6)) J5) (@F7 _ _ _ _ _ _ (@E3 _ _ _ _ _ (@B9 _ _ 3 _ _ _ _ C1a.nd rfl (A8 rfl) (C4 (B4 G_behind_ways (hr.mono (by decide)) rfl T.f_behind_ways.m T.f_behind_ways.F.kp b_behind_ways .nil B5 (F9 (pv 0) (A5 (A1 (pv 1)) (A5 (C7 (pv 2) (E7 (D6 (v:=V.int 0) rfl T.mg_NUMBERS ⟨_,rfl⟩)) (fun _ _=>rfl)) C3 B0) A0) A0) (he:=A0) (hpl:=(A2 A0 (A2 B0 A3))))) (by rfl) (by first | exact .inl rfl | exact .inr rfl | assumption))) (F7 (J1 (PW.pt (A1w (E9 v7 A1y (C7 (pv 2) (E7 (D6 (v:=V.int 1) rfl T.mg_TIMES ⟨_,rfl⟩)) (fun _ _=>rfl)) A6 (C9 _)) (A4z (E9 (Y7 (K4 hr)) L9 (A1 (pv 3)) (A1 (pv 1)) (C9 _)))))
   (B7 (C8 F6))
   J5)
   (B7 (C8 (A1 (pv 3))))))),fun ds Q hl h=>?_⟩)
 obtain⟨m,ws,p,q0,⟨ns,t⟩,rfl,hp,hne,t1,t2,ht,q⟩:=h
 simp only at hp hne t1 t2 ht
 right
 refine⟨rfl,rfl,M3 _ _,?_⟩
 have hl0:PyData.eqv (.int ((D4 ns).length:Nat)) (.int 0)=false:=by
  rw[Q2,d8]
  cases ns with
  | nil=>exact absurd rfl hne
  | cons n r=>exact beq_eq_false_iff_ne.mpr (by simp;omega)
 rw[hl0]
 right
 rw[decide_eq_true (show (1:Int)<=t from t1)]
 right
 refine⟨⟨by decide,by decide,by decide⟩,?_⟩
 rw[decide_eq_true (show t<=(10:Int) ^ (24:Int).toNat from t2)]
 right
 refine⟨rfl,_,_,_,_,_,rfl,hp,?_⟩
 right
 rcases ht with ht | ht
 ·rw[decide_eq_false (show ¬ (1:Int) < t by omega)]
  right
  exact q
 ·subst ht
  by_cases c:(1:Int) < t
  ·rw[decide_eq_true c]
   right
   refine⟨rfl,rfl,M3 _ _,?_⟩
   rw[Q2,beq_self_eq_true]
   right
   exact q
  ·rw[decide_eq_false c]
   right
   exact q
theorem C9v (T:Txt K mg):D0 P w K mg base CX0 5 T.f_end_of.a T.f_end_of.d ["land", "place", "trip"] (spD [.bd,.sh,.sh] C9r):=by
 have G_behind_part:=@C9u P w K mg base T
 have b_behind_part:=T.f_behind_part.b
 refine G1 T.f_end_of.F A9a rfl (fun C cdv A outer s H E hr=>⟨_,(@F7 _ _ _ _ _ _ (E3 (B9 (i:=3) A9a.nd rfl (A8 rfl) (A1 (pv 1)))) (@F7 _ _ _ _ _ _ (@V4 _ _ _ _ _ _ (@Q4 _ _ _ _ _ _ _ _ O6 rfl (B34 (B0d rfl T.n_enumerate (A4 (A1 (pv 2)) B8 A0))) (B0o (A0w (n:=2) rfl (N2 (J2 (i:=4) A9a.nd rfl (A8 rfl)) (N2 (J2 (i:=5) A9a.nd rfl (A8 rfl)) p8)))) (@F7 _ _ _ _ _ _ (E3 (B9 (i:=3) A9a.nd rfl (A8 rfl) (C4 (B4 G_behind_part (hr.mono (by decide)) rfl T.f_behind_part.m T.f_behind_part.F.kp b_behind_part .nil B5 (F9 (pv 0) (A5 (A1 (pv 3)) (A5 (A1 (pv 5)) C3 A0) A0) A0) (he:=A0) (hpl:=(A2 A0 (A2 A0 A3))))))) (B7 (J1 (E9 U8 Y0 (A1 (pv 3)) F6 (C9 _))
   (B7 C6j)
   J5))) (by intro _;rfl))) (B7 (C8 (A1 (pv 3)))))),fun ds Q hl h=>?_⟩)
 obtain⟨m,ws,p,q0,ps,rfl,hp,q⟩:=h
 array_mem_dec
 have e0:T1 (ps.map G8)=ps.zipIdx.map fun p=>.tuple [.int (p.2:Nat),G8 p.1]:=by
  unfold T1
  rw[List.zipIdx_map,p5]
  rfl
 rw[e0]
 refine⟨fun r ρ=>∃(ps':List (Pt×Nat)) (p':Nat) (z1 z2:Sl),r=ps'.map (fun p=>.tuple [.int (p.2:Nat),G8 p.1])/\ρ=[Sl.bd (E8 m ws),Sl.sh (.int (p:Nat)),Sl.sh (.list (ps.map G8)),Sl.sh (.int (p':Nat)),z1,z2]/\Trp ws p' (ps'.map (·.1)) q0,⟨ps.zipIdx,p,_,_,rfl,rfl,by rw[show ps.zipIdx.map (·.1)=ps by simp];exact hp⟩,?_,?_⟩
 ·rintro x r ρ ⟨ps',p',z1,z2,h1,rfl,hp'⟩
  cases ps' with
  | nil=>cases h1
  | cons a ps'=>
   cases (show x::r=PyData.tuple [.int (a.2:Nat),G8 a.1]::ps'.map (fun p=>.tuple [.int (p.2:Nat),G8 p.1]) from h1)
   have hp2:Trp ws p' (a.1::ps'.map (·.1)) q0:=hp'
   cases hp2 with
   | cons e1 e2 e3 e4 e5 e6=>
    sizeOf_list_dec
    refine⟨rfl,_,_,_,_,_,rfl,e1,e2,e3,e4,e5,?_⟩
    left
    exact⟨ps',_,_,_,rfl,rfl,e6⟩
 ·rintro ρ ⟨ps',p',z1,z2,h1,rfl,hp'⟩
  cases ps' with
  | cons a ps'=>cases h1
  | nil=>
   cases hp'
   left
   exact q
end
theorem C9w (a b:Option Int):PyData.eqv (oD a) (oD b)=decide (a=b):=by
 cases a with
 | none=>cases b with
  | none=>rfl
  | some y=>rfl
 | some x=>cases b with
  | none=>rfl
  | some y=>
   show PyData.eqv (.int x) (.int y)=_
   rw[Q2]
   by_cases h:x=y
   ·subst h;simp
   ·simp [h]
theorem C1o:∀a b:Tb,PyData.eqvAll (C5 a) (C5 b)=decide (a=b)
 | [],[]=>rfl
 | [],_::_=>rfl
 | _::_,[]=>rfl
 | x::a,y::b=>by
  show PyData.eqvAll (oD x::C5 a) (oD y::C5 b)=_
  rw[PyData.eqvAll,C9w,C1o a b]
  by_cases h:x=y
  ·subst h;simp
  ·simp [h]
theorem C9x (a b:Tb):PyData.eqv (.list (C5 a)) (.list (C5 b))=decide (a=b):=by rw[PyData.eqv];exact C1o a b
theorem C1p:∀t:Tb,PyData.canLayAll0 (C5 t)=true
 | []=>rfl
 | x::t=>by
  show (PyData.canLay0 (oD x)&&PyData.canLayAll0 (C5 t))=true
  rw[C1p t]
  cases x <;> rfl
theorem C1q (t:Tb):PyData.canLay0 (.list (C5 t))=true:=by rw[PyData.canLay0];exact C1p t
theorem C1r:∀t:Tb,PyData.depthAll (C5 t)=0
 | []=>rfl
 | x::t=>by
  show max (PyData.depth (oD x)) (PyData.depthAll (C5 t))=0
  rw[C1r t]
  cases x <;> rfl
theorem C1s (t:Tb):PyData.depth (.list (C5 t))=1:=by
 show PyData.depthAll (C5 t) + 1=1
 rw[C1r]
def C9y:DSp:=fun ds Q=>∃(m:Nat) (ws:List Wy) (st:Int) (t:Tb),ds=[E8 m ws,.int st,.list (C5 t)]/\J8 m ws/\t.length=m/\Q (.list ((T8 m ws st m (t,G5 m none)).map Q7))
def C9z:DSp:=fun ds Q=>∃(m:Nat) (ws:List Wy) (rs:List Rw),ds=[E8 m ws,.list (rs.map Q7)]/\Q (.bool (decide (m < rs.length)))
def C90:DSp:=fun ds Q=>∃(m:Nat) (ws:List Wy) (rs:List Rw) (r:Rw),ds=[E8 m ws,.list (rs.map Q7)]/\J8 m ws/\A4h m ws rs/\rs.length<=900/\rs.getLast?=some r/\(∃p n,gt r.2 p=some n)/\
 ∀p n,p < m->gt r.2 p=some n->Q (.tuple [.int ((wlk ws rs.reverse p).1:Nat),.list (D4 (wlk ws rs.reverse p).2)])
def A9e (p:Nat) (N:List Nat):PyData:=.tuple [.int (p:Nat),.list (D4 N)]
def C91:DSp:=fun ds Q=>∃(m:Nat) (ws:List Wy) (st:Int) (b:Tb) (N:List Nat) (P:Nat->Nat) (L:Nat->Int),ds=[E8 m ws,A9e (P 0) N]/\J8 m ws/\G7 m st b/\Wk ws st b N P L/\N.length=m/\
 ∀i j,i < j->j<=m->P i=P j->Q (.tuple [.list (D4 (seg N 0 i)),.list (D4 (seg N i j))])
theorem B1x {α β:Type} {f:α->β} {xs:List α} {x:α} (h:xs.getLast?=some x):(xs.map f).getLast?=some (f x):=by
 obtain⟨ys,rfl⟩:=List.getLast?_eq_some_iff.mp h
 simp
theorem Wk.places {ws:List Wy} {st:Int} {b:Tb} {N:List Nat} {P:Nat->Nat} {L:Nat->Int} (W:Wk ws st b N P L):[P 0]++N.map (A2g ws)=(P5 (N.length + 1)).map P:=by
 apply B7e
 intro k
 cases k with
 | zero=>simp
 | succ k=>
  rw[f7 (by simp),M7,M7]
  by_cases h:k < N.length
  ·rw[B2j (by omega)]
   show (N[k]?).map (A2g ws)=some (P (k + 1))
   obtain⟨w,hw,_,e,_⟩:=W.way k N[k] (K3 h)
   rw[K3 h]
   show some (A2g ws N[k])=_
   unfold A2g
   rw[hw,<-e]
  ·rw[f9 (l:=P5 _) (by rw[o7];omega)]
   show (N[k]?).map (A2g ws)=none
   rw[f9 (by omega)]
   rfl
section
variable {P:Program} {w:World} {K:B3} {mg:Str->Option Value} {base:Heap}
theorem C92 (T:Txt K mg):D0 P w K mg base CX0 4 T.f_rows_from.a T.f_rows_from.d ["land", "store", "table"] (spD [.bd,.sh,.bo] C9y):=by
 have G_first_row:=@C9n P w K mg base T
 have b_first_row:=T.f_first_row.b
 have G_row_behind:=@C9o P w K mg base T
 have b_row_behind:=T.f_row_behind.b
 refine G1 T.f_rows_from.F B1n rfl (fun C cdv A outer s H E hr=>⟨_,(@F7 _ _ _ _ _ _ (Z0 (B9 (i:=3) B1n.nd rfl (A8 rfl) (K0 C6))) (@F7 _ _ _ _ _ _ (E3 (B9 (i:=4) B1n.nd rfl (A8 rfl) (C4 (B4 G_first_row (hr.mono (by decide)) rfl T.f_first_row.m T.f_first_row.F.kp b_first_row .nil B5 (F9 (pv 2) C3 A0) (he:=A0) (hpl:=A3))))) (@F7 _ _ _ _ _ _ (@B37 _ _ _ _ _ (@A8p _ _ _ _ _ _ O6 (E9 X6 A0c (W5 (G4 Q5 rfl T.n_len Q6 (A4 (pv 3) B8 A0) (he:=A0) (hpl:=A3))) (A0n (Q0 (c8 (pv 0)) (E7 (D6 (v:=V.int 0) rfl T.mg_MANY ⟨_,rfl⟩)) (fun _ _=>rfl))) (C9 _)) (@F7 _ _ _ _ _ _ (A08 (S8 (Y5 V3 o8 o9 i7 (pv 3) (A4 (A1 (pv 4)) B8 A0)))) (@F7 _ _ _ _ _ _ (@E3 _ _ _ _ _ (@B9 _ _ 4 _ _ _ _ B1n.nd rfl (A8 rfl) (@C4 _ _ _ _ _ _ _ (@B4 _ _ _ _ _ _ _ _ _ _ _ _ _ _ _ _ G_row_behind (hr.mono (by decide)) rfl T.f_row_behind.m T.f_row_behind.F.kp b_row_behind .nil B5 (F9 (pv 0) (A5 (A1 (pv 1)) (A5 (C7 (pv 4) (E7 (D6 (v:=V.int 0) rfl T.mg_TABLE ⟨_,rfl⟩)) (fun _ _=>rfl)) (A5 (C7 (pv 4) (E7 (D6 (v:=V.int 0) rfl T.mg_TABLE ⟨_,rfl⟩)) (fun _ _=>rfl)) C3 B0) B0) A0) A0) (by decide) A0 ((A2 A0 (A2 B0 (A2 B0 A3)))))) (by rfl) (by first | exact .inl rfl | exact .inr rfl | assumption))) (B7 (J1 (E9 (P2 (K4 hr)) L9 (C7 (pv 4) (E7 (D6 (v:=V.int 0) rfl T.mg_TABLE ⟨_,rfl⟩)) (fun _ _=>rfl)) (L5 (C7 (pv 3) (A00 A6) (fun _ _=>rfl)) (E7 (D6 (v:=V.int 0) rfl T.mg_TABLE ⟨_,rfl⟩)) (fun _ _=>rfl)) (C9 _))
   (B7 (C8 (A1 (pv 3))))
   J5)))))) (F7 (A08 (S8 (Y5 V3 o8 o9 i7 (pv 3) (A4 (A1 (pv 4)) B8 A0))))
   (B7 (C8 (A1 (pv 3)))))))),fun ds Q hl h=>?_⟩)
 obtain⟨m,ws,st,t,rfl,ok,ht,q⟩:=h
 have m2:=ok.m2
 left
 refine⟨by decide,rfl,t,rfl,by omega,?_⟩
 unfold B0q
 refine⟨fun μ ρ=>∃(rs:List Rw) (r:Rw),ρ=[Sl.bd (E8 m ws),Sl.sh (.int st),Sl.bo (C5 t),Sl.ow (rs.map Q7),Sl.sh (Q7 r)]/\rs.length + μ=m/\r.1.length=m/\rs++T8 m ws st μ r=T8 m ws st m (t,G5 m none),⟨m,[],(t,G5 t.length none),rfl,by simp,ht,by rw[ht];rfl⟩,?_⟩
 rintro μ ρ ⟨rs,r,rfl,h1,h2,h3⟩
 right
 rw[D5]
 refine⟨rfl,?_⟩
 cases μ with
 | zero=>
  rw[decide_eq_false (by omega)]
  right
  refine⟨by omega,?_⟩
  have e:rs++[r]=T8 m ws st m (t,G5 m none):=h3
  rw[<-e,O5] at q
  exact q
 | succ μ=>
  rw[decide_eq_true (by omega)]
  decreasing_trivial_pre_omega
  refine⟨by rw[D5];omega,?_⟩
  refine⟨rfl,m,ws,st,r.1,r.1,rfl,ok,h2,h2,?_⟩
  right
  rw[show -(1:Int)=-1 from rfl,B8e]
  right
  refine⟨C1q _,C1q _,by rw[C1s,C1s];decide,?_⟩
  rw[C9x]
  by_cases c:(O0 m ws st r.1 r.1).1=r.1
  ·rw[decide_eq_true c]
   right
   have e:rs++[r]=T8 m ws st m (t,G5 m none):=by rw[<-h3,T8,if_pos c]
   rw[<-e,O5] at q
   exact q
  ·rw[decide_eq_false c]
   right
   refine⟨μ,by omega,rs++[r],O0 m ws st r.1 r.1,by rw[O5];rfl,by simp;omega,(A0m (st:=st) (t:=r.1) ok h2).l1,?_⟩
   rw[<-h3,T8,if_neg c]
   simp
theorem C93 (T:Txt K mg):D0 P w K mg base CX0 1 T.f_still_rises.a T.f_still_rises.d ["land", "rows"] (spD [.bd,.sh] C9z):=by
 refine G1 T.f_still_rises.F C8c rfl (fun C cdv A outer s H E hr=>⟨_,(B7 (C8 (b8 v7 A1y (W5 (G4 Q5 rfl T.n_len Q6 (A4 (pv 1) B8 A0) (he:=A0) (hpl:=A3))) (A0n (Q0 (c8 (pv 0)) (E7 (D6 (v:=V.int 0) rfl T.mg_MANY ⟨_,rfl⟩)) (fun _ _=>rfl))) (C9 _)))),fun ds Q hl h=>?_⟩)
 obtain⟨m,ws,rs,rfl,q⟩:=h
 right
 rw[D5]
 rw[show decide (((m:Nat):Int) < ((rs.length:Nat):Int))=decide (m < rs.length) by by_cases c:m < rs.length <;> simp [c]]
 exact⟨rfl,q⟩
theorem C94 (T:Txt K mg):D0 P w K mg base CX0 2 T.f_rising_walk.a T.f_rising_walk.d ["land", "rows"] (spD [.bd,.sh] C90):=by
 have G_walk_to:=@C1m P w K mg base T
 have b_walk_to:=T.f_walk_to.b
 refine G1 T.f_rising_walk.F C1b rfl (fun C cdv A outer s H E hr=>⟨_,(@F7 _ _ _ _ _ _ (E3 (B9 (i:=2) C1b.nd rfl (f8 rfl) (L5 (C7 (pv 1) (A00 A6) (fun _ _=>rfl)) (E7 (D6 (v:=V.int 1) rfl T.mg_RISEN ⟨_,rfl⟩)) (fun _ _=>rfl)))) (@B7 _ _ _ _ (@C8 _ _ _ _ _ (@C4 _ _ _ _ _ _ _ (@B4 _ _ _ _ _ _ _ _ _ _ _ _ _ _ _ _ G_walk_to (hr.mono (by decide)) rfl T.f_walk_to.m T.f_walk_to.F.kp b_walk_to .nil B5 (@F9 _ _ _ _ _ _ (pv 0) (@F9 _ _ _ _ _ _ (pv 1) (@A5 _ _ _ _ _ _ (@L5 _ _ _ _ _ _ _ (@F1 _ _ _ _ (@A0h _ _ _ _ _ _ _ _ rfl (@Y6 _ _ _ _ _ _ _ _ _ _ _ _ _ _ _ (N5.new (N:=["land", "rows", "last"]) (osc:=C2 B07) (by decide +kernel)) rfl (A3v (p9 rfl T.n_range (A7 (A0n (Q0 (c8 (pv 0)) (E7 (D6 (v:=V.int 0) rfl T.mg_MANY ⟨_,rfl⟩)) (fun _ _=>rfl))) C6 B0))) (fun _=>(B3f (E9 A0x A1z (C7 (pv 2) (A1 (pv 3)) (fun _ _=>rfl)) F6 (C9 _)))) (fun _=>(A1 (pv 3))) (by rfl) (by rfl) (by intro _;rfl)))) A6 (fun _ _=>rfl)) C3 B0) A0) A0) (by decide) A0 ((A2 A0 (A2 B0 A3)))))))),fun ds Q hl h=>?_⟩)
 obtain⟨m,ws,rs,r,rfl,ok,hR,hn,hl2,⟨p0,n0,hp0⟩,q⟩:=h
 have m2:=ok.m2
 have hr0:=hR r (List.mem_of_getLast? hl2)
 array_mem_dec
 rw[show -(1:Int)=-1 from rfl,A9d (B1x hl2)]
 array_mem_dec
 refine⟨rfl,rfl,rfl,⟨by omega,by omega⟩,⟨rfl,by unfold M9;rw[D5,o7];omega⟩,?_⟩
 unfold M9
 rw[show ((m:Nat):Int).toNat=m by simp]
 refine A83 (p:=fun i=>(gt r.2 i).isSome) (f:=fun i=>.int (0 + ((i:Nat):Int))) (fun i hi Q' q'=>?_) (fun i hi _ Q' q'=>?_) ?_
 ·left
  rw[show (0:Int) + ((i:Nat):Int)=((i:Nat):Int) by omega] at q' ⊢
  rw[C1g (by rw[hr0.1];exact l5.mp hi)]
  left
  cases c:gt r.2 i with
  | none=>rw[c] at q';exact q'
  | some n=>rw[c] at q';exact q'
 ·exact q'
 ·have hp0m:p0 < m:=by
   by_cases h:p0 < m
   ·exact h
   ·rw[A35 (by rw[hr0.1];omega)] at hp0;cases hp0
  have hmem:p0∈(P5 m).filter fun i=>(gt r.2 i).isSome:=A8b.mpr ⟨l5.mpr hp0m,by rw[hp0];rfl⟩
  cases hf:(P5 m).filter fun i=>(gt r.2 i).isSome with
  | nil=>rw[hf] at hmem;cases hmem
  | cons p ps=>
   have hpm:p∈(P5 m).filter fun i=>(gt r.2 i).isSome:=by rw[hf];exact C0
   obtain⟨h1,h2⟩:=A8b.mp hpm
   obtain⟨n,hn'⟩:=Option.isSome_iff_exists.mp h2
   rw[Q9,n8,A82]
   left
   refine⟨m,ws,rs,p,by rw[show (0:Int) + ((p:Nat):Int)=((p:Nat):Int) by omega];rfl,l5.mp h1,ok,hR,hn,q p n (l5.mp h1) hn'⟩
end
theorem C1t {P:Nat->Nat}:∀k:Nat,(∀i j,i < j->j < k->P i≠P j)->((P5 k).map P).Nodup
 | 0,_=>B2p
 | k + 1,h=>by
  rw[List.range_succ,O5,A65]
  refine⟨C1t k fun i j h1 h2=>h i j h1 (by omega),by simp,fun a ha b hb=>?_⟩
  obtain⟨i,hi,rfl⟩:=S5.mp ha
  have:b=P k:=by simpa using hb
  subst this
  exact h i k (l5.mp hi) (by omega)
def plI (P:Nat->Nat) (n:Nat):List Int:=((P5 n).map P).map fun p=>((p:Nat):Int)
theorem B6g {P:Nat->Nat} {n:Nat} {x:Nat}:((x:Nat):Int)∈plI P n↔∃i,i < n/\P i=x:=by
 unfold plI
 constructor
 ·intro h
  obtain⟨y,hy,e⟩:=S5.mp h
  obtain⟨i,hi,rfl⟩:=S5.mp hy
  exact⟨i,l5.mp hi,by omega⟩
 ·rintro ⟨i,hi,rfl⟩
  exact S5.mpr ⟨P i,S5.mpr ⟨i,l5.mpr hi,rfl⟩,rfl⟩
theorem C95 {P:Nat->Nat} {n:Nat}:D4 ((P5 n).map P)=(plI P n).map PyData.int:=by
 simp only[D4,plI,p5]
 rfl
theorem B6h {P:Nat->Nat} {n:Nat}:(plI P n).length=n:=by unfold plI;rw[D5,D5,o7]
theorem C96 {P:Nat->Nat} {n:Nat} {x:Nat} (h:((x:Nat):Int)∈plI P n):(plI P n).idxOf ((x:Nat):Int) < n/\P ((plI P n).idxOf ((x:Nat):Int))=x:=by
 have h1:=B2i.mpr h
 have h2:=C27 h1
 rw[B6h] at h1
 refine⟨h1,?_⟩
 have hx:∀i (h:i < (plI P n).length),(plI P n)[i]=((P i:Nat):Int):=fun i h=>by simp [plI]
 rw[hx] at h2
 omega
section
variable {P:Program} {w:World} {K:B3} {mg:Str->Option Value} {base:Heap}
theorem C97 (T:Txt K mg):D0 P w K mg base CX0 1 T.f_parted_at_round.a T.f_parted_at_round.d ["land", "walk"] (spD [.bd,.sh] C91):=by
 refine G1 T.f_parted_at_round.F A9b rfl (fun C cdv A outer s H E hr=>⟨_,(@F7 _ _ _ _ _ _ (@E3 _ _ _ _ _ (@B9 _ _ 2 _ _ _ _ A9b.nd rfl (A8 rfl) (@F1 _ _ _ _ (@A3o _ _ _ _ _ _ _ (F1 (K0 (A7 (C7 (pv 1) (E7 (D6 (v:=V.int 0) rfl T.mg_FROM ⟨_,rfl⟩)) (fun _ _=>rfl)) C6 B0))) (@F1 _ _ _ _ (@A0h _ _ _ _ _ _ _ _ rfl (@Y6 _ _ _ _ _ _ _ _ _ _ _ _ _ _ _ (N5.new (N:=["land", "walk", "places", "end", "begin"]) (osc:=C2 B08) (by decide +kernel)) rfl (A07 (C7 (pv 1) (E7 (D6 (v:=V.int 1) rfl T.mg_BY ⟨_,rfl⟩)) (fun _ _=>rfl))) (fun _=>Y2) (fun _=>(A0n (Q0 (Q0 (Q0 (c8 (pv 0)) (E7 (D6 (v:=V.int 1) rfl T.mg_WAYS ⟨_,rfl⟩)) (fun _ _=>rfl)) (A1 (pv 5)) (fun _ _=>rfl)) (E7 (D6 (v:=V.int 1) rfl T.mg_END ⟨_,rfl⟩)) (fun _ _=>rfl)))) (by rfl) (by rfl) (by intro _;rfl)))))) (by rfl) (by first | exact .inl rfl | exact .inr rfl | assumption))) (@F7 _ _ _ _ _ _ (E3 (B9 (i:=3) A9b.nd rfl (A8 rfl) A6)) (@F7 _ _ _ _ _ _ (B37 (A8p O6 (E9 C42 C6n (C7 (pv 2) (A1 (pv 3)) (fun _ _=>rfl)) (F1 (A7k (pv 2) A45 (A03 (A1 (pv 3))))) (by with_unfolding_all rfl))
   (B7 (E3 (B9 (i:=3) A9b.nd rfl (A8 rfl) (E2 L3 N6 (A1 (pv 3)) A6)))))) (@F7 _ _ _ _ _ _ (E3 (B9 (i:=4) A9b.nd rfl (A8 rfl) (B91 (Y5 V3 C26 PySem.F.type_list_index B81 (pv 2) (A4 (C7 (pv 2) (A1 (pv 3)) (fun _ _=>rfl)) B8 B0))))) (B7 (C8 (P4 (A7 (F1 (B9j (C7 (pv 1) (E7 (D6 (v:=V.int 1) rfl T.mg_BY ⟨_,rfl⟩)) (fun _ _=>rfl)) A45 (A03 (A1 (pv 4))))) (A7 (F1 (B9j (C7 (pv 1) (E7 (D6 (v:=V.int 1) rfl T.mg_BY ⟨_,rfl⟩)) (fun _ _=>rfl)) (A03 (A1 (pv 4))) (A03 (A1 (pv 3))))) C6 B0) B0)))))))),fun ds Q hl h=>?_⟩)
 obtain⟨m,ws,st,b,N,PP,L,rfl,ok,hb,W,hN,q⟩:=h
 have m2:=ok.m2
 have hpl:∀k,k<=m->PP k < m:=fun k hk=>W.pl ok hb k (by omega)
 unfold A9e
 array_mem_dec
 refine⟨by decide,⟨rfl,by rw[d8];omega⟩,?_⟩
 unfold D4
 refine A0i (f:=fun n=>.int (A2g ws n:Nat)) (fun n hm Q' q'=>?_) ?_
 ·obtain⟨k,hk,rfl⟩:=A0t.mp hm
  obtain⟨w,hw,_,e,_⟩:=W.way k N[k] (K3 hk)
  right
  rw[A6q hw]
  right
  have e2:A2g ws N[k]=w.2.1:=by unfold A2g;rw[hw]
  rw[e2] at q'
  exact⟨rfl,q'⟩
 ·left
  refine⟨by rw[D5];omega,?_⟩
  have epl:PyData.int ((PP 0:Nat):Int)::N.map (fun n=>PyData.int ((A2g ws n:Nat):Int))=(plI PP (m + 1)).map PyData.int:=by
   have:=W.places
   rw[hN] at this
   rw[<-C95,<-this]
   unfold D4
   rw[O5,p5]
   rfl
  rw[epl]
  unfold B0q
  refine⟨fun μ ρ=>∃(k:Nat) (z:Sl),ρ=[Sl.bd (E8 m ws),Sl.sh (A9e (PP 0) N),Sl.sh (.list ((plI PP (m + 1)).map PyData.int)),Sl.sh (.int (k:Nat)),z]/\1<=k/\k<=m/\μ + k=m/\∀i j,i < j->j < k->PP i≠PP j,⟨m - 1,1,_,rfl,by omega,ok.m1,by have:=ok.m1;omega,fun i j h1 h2=>by omega⟩,?_⟩
  rintro μ ρ ⟨k,z,rfl,k1,k2,hμ,hd⟩
  right
  have eat:atI ((plI PP (m + 1)).map PyData.int) ((k:Nat):Int)=some (.int ((PP k:Nat):Int)):=P0 (by
   unfold plI
   rw[p5,M7,M7,B2j (by omega)]
   rfl)
  have ecut:W6 ((plI PP (m + 1)).map PyData.int) none (some ((k:Nat):Int))=(plI PP k).map PyData.int:=by
   rw[B4a,<-A1j]
   congr 1
   unfold plI
   rw[<-A1j,<-A1j,List.take_range,A9t (by omega)]
  rw[eat]
  right
  rw[ecut,B0r]
  right
  by_cases c:((PP k:Nat):Int)∈plI PP k
  ·rw[show (!(plI PP k).contains ((PP k:Nat):Int))=false by simp [c]]
   right
   rw[B0r]
   right
   have hc2:((PP k:Nat):Int)∈plI PP (m + 1):=B6g.mpr ⟨k,by omega,rfl⟩
   refine⟨⟨hc2,by rw[B6h];omega⟩,?_⟩
   obtain⟨i0,hi0,ei0⟩:=B6g.mp c
   obtain⟨hi1,hi2⟩:=C96 hc2
   have hik:(plI PP (m + 1)).idxOf ((PP k:Nat):Int) < k:=by
    by_cases h:(plI PP (m + 1)).idxOf ((PP k:Nat):Int) < k
    ·exact h
    ·exfalso
     have hmem:((PP k:Nat):Int)∈(plI PP (m + 1)).take k:=by
      have:(plI PP (m + 1)).take k=plI PP k:=by
       unfold plI
       rw[<-A1j,<-A1j,List.take_range,A9t (by omega)]
      rw[this];exact c
     have h1:=B2i.mpr hmem
     rw[e9,B6h] at h1
     have h2:(plI PP (m + 1)).idxOf ((PP k:Nat):Int)=((plI PP (m + 1)).take k).idxOf ((PP k:Nat):Int):=by
      conv=>lhs;rw[<-List.take_append_drop k (plI PP (m + 1))]
      rw[List.idxOf_append,if_pos hmem]
     omega
   unfold A9e
   right
   generalize (plI PP (m + 1)).idxOf ((PP k:Nat):Int)=i at hi1 hi2 hik
   refine⟨by decide,?_⟩
   have qq:=q i k hik k2 hi2
   have e1:W6 (D4 N) none (some ((i:Nat):Int))=D4 (seg N 0 i):=by
    rw[B4a]
    unfold D4 seg
    rw[<-A1j,B7f,Nat.sub_zero]
   have e2:W6 (D4 N) (some ((i:Nat):Int)) (some ((k:Nat):Int))=D4 (seg N i k):=by
    rw[C6p (by rw[d8];omega) (by rw[d8];omega)]
    unfold D4 seg
    rw[A1j,List.map_drop]
   rw[e1,e2]
   exact qq
  ·rw[show (!(plI PP k).contains ((PP k:Nat):Int))=true by simp [c]]
   decreasing_trivial_pre_omega
   have hd2:∀i j,i < j->j < k + 1->PP i≠PP j:=fun i j h1 h2 e=>by
    by_cases hj:j < k
    ·exact hd i j h1 hj e
    ·have:j=k:=by omega
     subst this
     exact c (B6g.mpr ⟨i,h1,e⟩)
   have hkm:k + 1<=m:=by
    have:=B0w m ((P5 (k + 1)).map PP) (C1t (k + 1) hd2) fun x hx=>by
     obtain⟨i,hi,rfl⟩:=S5.mp hx
     exact hpl i (by have:=l5.mp hi;omega)
    rw[D5,o7] at this
    exact this
   exact⟨μ - 1,by omega,k + 1,_,rfl,by omega,hkm,by omega,hd2⟩
end
theorem Wk.nb {ws:List Wy} {st:Int} {b:Tb} {N:List Nat} {P:Nat->Nat} {L:Nat->Int} (W:Wk ws st b N P L):∀n∈N,n < ws.length:=fun n hn=>by
 obtain⟨k,hk,rfl⟩:=A0t.mp hn
 obtain⟨w,hw,_⟩:=W.way k N[k] (K3 hk)
 exact (m9.mp hw).1
theorem C98 {N:List Nat} {i j n:Nat} (h:n∈seg N i j):n∈N:=List.mem_of_mem_drop (B7l h)
theorem B6i {N:List Nat} {i j:Nat}:(seg N i j).length<=N.length:=by
 unfold seg
 rw[e9,B67]
 omega
theorem C1u {m:Nat} {ws:List Wy} (ok:J8 m ws) (n:Nat):V2 ws n<=1000000000000000000:=by
 unfold V2
 split
 ·rename_i w hw;exact ok.hi w (O2 hw)
 ·decide
theorem C1v {B:Int}:∀{cs:List Int},(∀c∈cs,c<=B)->cs.sum<=(cs.length:Int) * B
 | [],_=>by simp
 | c::cs,h=>by
  have:=C1v (cs:=cs) fun d hd=>h d (B6 _ hd)
  have h1:=h c C0
  rw[B7i,K8,B2n,A8e]
  omega
theorem C99 {x g:Int} (hx:0 < x) (hg:0 < g):1<=-(-x / g)/\-(-x / g)<=x:=by
 have e:=Int.mul_ediv_add_emod (-x) g
 have r0:=B2o (-x) (show g≠0 by omega)
 have r1:=B7j (-x) hg
 generalize -x / g=d at e
 constructor
 ·by_cases h:0<=d
  ·have:=Int.mul_nonneg (Int.le_of_lt hg) h
   omega
  ·omega
 ·by_cases h:-x<=d
  ·omega
  ·exfalso
   have h1:g * d<=g * (-x - 1):=Int.mul_le_mul_of_nonneg_left (by omega) (by omega)
   have h2:g * (-x - 1)=-(g * x) - g:=by rw[Int.mul_sub,Int.mul_neg,Int.mul_one]
   have h3:1 * x<=g * x:=Int.mul_le_mul_of_nonneg_right (by omega) (by omega)
   omega
theorem D0a {x g:Int} (hg:0 < g):x<=-(-x / g) * g:=by
 have e:=Int.mul_ediv_add_emod (-x) g
 have r0:=B2o (-x) (show g≠0 by omega)
 rw[Int.neg_mul,Int.mul_comm]
 omega
def j7 (N:List Nat) (i j k:Nat) (tm:Int):List Pt:=(prt (seg N 0 i)++[(seg N i j,tm)])++prt (seg N i (i + k))
def D0b:DSp:=fun ds Q=>∃(m:Nat) (ws:List Wy) (st:Int) (b:Tb) (N:List Nat) (P:Nat->Nat) (L:Nat->Int),ds=[E8 m ws,.int st,.int (L 0),A9e (P 0) N]/\J8 m ws/\0<=st/\st<=1000000000000000000000/\G7 m st b/\Wk ws st b N P L/\N.length=m/\
 ∀i j k le g tp tm,i < j->j<=m->P i=P j->le<=L i->Rnd st (chs ws (seg N i j)) (L i) le g tp k->1<=tm->tm<=1000000000000000000000000->tp<=L i + tm * g->Q (.list ((j7 N i j k tm).map G8))
theorem A72 {ns:List Nat}:(prt ns).length<=1:=by unfold prt;split <;> simp
section
variable {P:Program} {w:World} {K:B3} {mg:Str->Option Value} {base:Heap}
theorem D0c (T:Txt K mg):D0 P w K mg base CX0 6 T.f_filling_parts.a T.f_filling_parts.d ["land", "store", "level", "walk"] (spD [.bd,.sh,.sh,.sh] D0b):=by
 have G_parted_at_round:=@C97 P w K mg base T
 have b_parted_at_round:=T.f_parted_at_round.b
 have G_effect_of:=@C9d P w K mg base T
 have b_effect_of:=T.f_effect_of.b
 have G_changes_of:=@C9m P w K mg base T
 have b_changes_of:=T.f_changes_of.b
 have G_levels_along:=@C9e P w K mg base T
 have b_levels_along:=T.f_levels_along.b
 have G_parts_by:=@C1n P w K mg base T
 have b_parts_by:=T.f_parts_by.b
 refine G1 T.f_filling_parts.F A4e rfl (fun C cdv A outer s H E hr=>⟨_,(@D3 _ _ _ _ _ _ (E3 (B9 (i:=4) A4e.nd rfl (A8 rfl) (C4 (B4 G_parted_at_round (hr.mono (by decide)) rfl T.f_parted_at_round.m T.f_parted_at_round.F.kp b_parted_at_round .nil B5 (F9 (pv 0) (A5 (A1 (pv 3)) C3 A0) A0) (he:=A0) (hpl:=(A2 A0 A3)))))) (@D3 _ _ _ _ _ _ (E3 (B9 (i:=5) A4e.nd rfl (A8 rfl) (C7 (pv 4) A6 (fun _ _=>rfl)))) (@D3 _ _ _ _ _ _ (E3 (B9 (i:=6) A4e.nd rfl (A8 rfl) (C7 (pv 4) A6 (fun _ _=>rfl)))) (@D3 _ _ _ _ _ _ (@E3 _ _ _ _ _ (@B9 _ _ 7 _ _ _ _ A4e.nd rfl (A8 rfl) (@C4 _ _ _ _ _ _ _ (@B4 _ _ _ _ _ _ _ _ _ _ _ _ _ _ _ _ G_effect_of (hr.mono (by decide)) rfl T.f_effect_of.m T.f_effect_of.F.kp b_effect_of .nil B5 (A5 (A1 (pv 1)) (A5 (C4 (B4 G_changes_of (hr.mono (by decide)) rfl T.f_changes_of.m T.f_changes_of.F.kp b_changes_of .nil B5 (F9 (pv 0) (A5 (A1 (pv 6)) C3 A0) A0) (he:=A0) (hpl:=(A2 A0 A3)))) C3 E5) A0) (by decide) A0 ((A2 E5 A3)))) (by rfl) (by first | exact .inl rfl | exact .inr rfl | assumption))) (@D3 _ _ _ _ _ _ (@E3 _ _ _ _ _ (@B9 _ _ 8 _ _ _ _ A4e.nd rfl (A8 rfl) (@E2 _ _ _ _ _ _ _ _ _ _ A1r A29 (C7 (pv 7) (E7 (D6 (v:=V.int 2) rfl T.mg_TOP ⟨_,rfl⟩)) (fun _ _=>rfl)) (@L5 _ _ _ _ _ _ _ (@C4 _ _ _ _ _ _ _ (@B4 _ _ _ _ _ _ _ _ _ _ _ _ _ _ _ _ G_levels_along (hr.mono (by decide)) rfl T.f_levels_along.m T.f_levels_along.F.kp b_levels_along .nil B5 (A5 (A1 (pv 1)) (A5 (A1 (pv 2)) (A5 (C4 (B4 G_changes_of (hr.mono (by decide)) rfl T.f_changes_of.m T.f_changes_of.F.kp b_changes_of .nil B5 (F9 (pv 0) (A5 (A1 (pv 5)) C3 A0) A0) (he:=A0) (hpl:=(A2 A0 A3)))) C3 E5) A0) A0) (by decide) A0 ((A2 A0 (A2 E5 A3))))) (A00 A6) (fun _ _=>rfl))) (by rfl) (by first | exact .inl rfl | exact .inr rfl | assumption))) (@D3 _ _ _ _ _ _ (E3 (B9 (i:=9) A4e.nd rfl (A8 rfl) (A00 (E2 B3h B88 (A00 (A1 (pv 8))) (C7 (pv 7) (E7 (D6 (v:=V.int 1) rfl T.mg_GAIN ⟨_,rfl⟩)) (fun _ _=>rfl)))))) (@D3 _ _ _ _ _ _ (@E3 _ _ _ _ _ (@B9 _ _ 10 _ _ _ _ A4e.nd rfl (A8 rfl) (@C4 _ _ _ _ _ _ _ (@B4 _ _ _ _ _ _ _ _ _ _ _ _ _ _ _ _ G_levels_along (hr.mono (by decide)) rfl T.f_levels_along.m T.f_levels_along.F.kp b_levels_along .nil B5 (A5 (A1 (pv 1)) (A5 (C7 (pv 7) (E7 (D6 (v:=V.int 2) rfl T.mg_TOP ⟨_,rfl⟩)) (fun _ _=>rfl)) (A5 (C4 (B4 G_changes_of (hr.mono (by decide)) rfl T.f_changes_of.m T.f_changes_of.F.kp b_changes_of .nil B5 (F9 (pv 0) (A5 (A1 (pv 6)) C3 A0) A0) (he:=A0) (hpl:=(A2 A0 A3)))) C3 E5) B0) A0) (by decide) A0 ((A2 B0 (A2 E5 A3))))) (by rfl) (by first | exact .inl rfl | exact .inr rfl | assumption))) (@B7 _ _ _ _ (@C8 _ _ _ _ _ (@F1 _ _ _ _ (@A3o _ _ _ _ _ _ _ (F1 (A3o (C4 (B4 G_parts_by (hr.mono (by decide)) rfl T.f_parts_by.m T.f_parts_by.F.kp b_parts_by .nil B5 (A5 (A1 (pv 5)) C3 A0) (he:=A0) (hpl:=A3))) (F1 (K0 (A7 (P4 (A7 (A1 (pv 6)) (A7 (A1 (pv 9)) C6 A0) A0)) C6 A1u))))) (C4 (B4 G_parts_by (hr.mono (by decide)) rfl T.f_parts_by.m T.f_parts_by.F.kp b_parts_by .nil B5 (A5 (F1 (A7k (pv 6) A45 (A03 (B91 (Y5 V3 C26 PySem.F.type_list_index B81 (pv 10) (A4 (A1 (pv 1)) B8 A0)))))) C3 B0) (he:=B0) (hpl:=A3)))))))))))))),fun ds Q hl h=>?_⟩)
 obtain⟨m,ws,st,b,N,PP,L,rfl,ok,h0,hst,hb,W,hN,q⟩:=h
 have m2:=ok.m2
 left
 refine⟨rfl,m,ws,st,b,N,PP,L,rfl,ok,hb,W,hN,fun i j hij hj hp=>?_⟩
 have nb:∀a c n,n∈seg N a c->n < ws.length:=fun a c n hn=>W.nb n (C98 hn)
 have fw:∀a c,(seg N a c).length<=900:=fun a c=>by have:=@B6i N a c;omega
 have fw2:∀a c,(chs ws (seg N a c)).length<=900:=fun a c=>by unfold chs;rw[D5];exact fw a c
 obtain⟨b0,b1⟩:=W.bd h0 hb i (by omega)
 obtain⟨le,g,tp,k,R,hle⟩:=C68 b0 b1 (W.seg (i:=i) (j:=j) (by omega) (by omega)) (W.strict i j hij (by omega) hp)
 have kl:k<=j - i:=by
  have:=R.kl
  unfold chs at this
  rw[D5,A85 (by omega)] at this
  exact this
 refine go ?_;left
 refine go ?_;left
 refine go ?_;left
 refine⟨rfl,m,ws,seg N i j,rfl,nb i j,fw i j,?_⟩
 left
 refine⟨st,_,rfl,?_⟩
 rw[R.fx]
 refine go ?_;right
 refine⟨rfl,m,ws,seg N 0 i,rfl,nb 0 i,fw 0 i,?_⟩
 left
 refine⟨st,L 0,_,rfl,fw2 0 i,?_⟩
 have w0:=W.seg (i:=0) (j:=i) (M6 _) (by omega)
 have hlast:(O1 st (L 0) (chs ws (seg N 0 i))).getLast?=some (L i):=by
  obtain⟨z,z1,z2⟩:=B4k w0 (chs ws (seg N 0 i)).length (F3 _)
  rw[A9s (F3 _),w0] at z2
  cases z2
  rw[List.getLast?_eq_getElem?,B4l w0]
  exact z1
 left
 rw[show -(1:Int)=-1 from rfl,A9d (xs:=M1 _) (B1x hlast)]
 left
 refine go ?_;left
 have hg:g < 100000000000000000000000000000000000000000000000000000000000000:=by
  rw[R.gs]
  have h1:=C1v (B:=1000000000000000000) (cs:=chs ws (seg N i j)) fun c hc=>by
   obtain⟨n,_,rfl⟩:=S5.mp hc
   exact C1u ok n
  have h2:=fw2 i j
  omega
 refine⟨⟨R.g0,hg⟩,?_⟩
 refine go ?_;left
 refine⟨rfl,m,ws,seg N i j,rfl,nb i j,fw i j,?_⟩
 left
 refine⟨st,tp,_,rfl,fw2 i j,?_⟩
 refine go ?_;left
 refine⟨seg N 0 i,rfl,?_⟩
 left
 have hp1:=@A72 (seg N 0 i)
 refine⟨by decide,by decide,by rw[D5];simp;omega,?_⟩
 unfold M1
 rw[B0r]
 left
 refine⟨⟨R.km,by rw[R.ll];have:=fw2 i j;omega⟩,?_⟩
 rw[R.ki]
 have ecut:W6 (D4 (seg N i j)) none (some ((k:Nat):Int))=D4 (seg N i (i + k)):=by
  rw[B4a]
  unfold D4
  rw[<-A1j,B4m kl]
 rw[ecut]
 refine⟨_,rfl,?_⟩
 left
 have hp2:=@A72 (seg N i (i + k))
 refine⟨by simp;omega,?_⟩
 obtain⟨t1,t2⟩:=C99 (x:=tp - L i) (g:=g) (by have:=R.xt;omega) R.g0
 have t3:=R.tst
 have qq:=q i j k le g tp (-(-(tp - L i) / g)) hij hj hp hle R t1 (by omega) (by have:=@D0a (tp - L i) g R.g0;omega)
 unfold j7 at qq
 rw[O5,O5] at qq
 exact qq
end
theorem Rows.risen {m:Nat} {ws:List Wy} {st:Int} {b:Tb} (ok:J8 m ws) (h0:0<=st) (hb:G7 m st b) {r:Rw} {rs:List Rw} (h:Rows m ws st b (r::rs)) (hn:rs≠[]):∃p n,gt r.2 p=some n:=by
 cases h with
 | one=>exact absurd rfl hn
 | @more r0 rs0 h' c=>
  obtain⟨a1,_,_⟩:=h'.ok ok h0 hb
  have I:=A0m (st:=st) (t:=r0.1) ok a1.len
  by_cases z:∃p n,gt (O0 m ws st r0.1 r0.1).2 p=some n
  ·exact z
  ·refine absurd (B4h (by rw[I.l1,a1.len]) fun p=>I.no p ?_) c
   cases e:gt (O0 m ws st r0.1 r0.1).2 p with
   | none=>rfl
   | some n=>exact absurd ⟨p,n,e⟩ z
theorem Rows.rok {m:Nat} {ws:List Wy} {st:Int} {b:Tb} (ok:J8 m ws) (h0:0<=st) (hb:G7 m st b):∀{rs:List Rw},Rows m ws st b rs->A4h m ws rs
 | _,.one=>fun r hr=>by
  have:r=(b,G5 m none):=by simpa using hr
  subst this
  exact⟨by simp,fun q n e=>by rw[A36] at e;cases e⟩
 | _,.more (r:=r0) h c=>fun r hr=>by
  rcases N1.mp hr with e | hr
  ·subst e
   obtain⟨a1,_,_⟩:=h.ok ok h0 hb
   have I:=A0m (st:=st) (t:=r0.1) ok a1.len
   refine⟨I.l2,fun q n e=>?_⟩
   obtain⟨w,hw,_⟩:=I.yes q n e
   exact (m9.mp hw).1
  ·exact Rows.rok ok h0 hb h r hr
theorem D0d {m:Nat} {ws:List Wy} {st:Int} {b:Tb} (ok:J8 m ws) (h0:0<=st) (hb:G7 m st b):∃r rs,(T8 m ws st m (b,G5 m none)).reverse=r::rs/\(T8 m ws st m (b,G5 m none)).getLast?=some r/\(T8 m ws st m (b,G5 m none)).length=rs.length + 1/\rs.length<=m/\Rows m ws st b (r::rs)/\A4h m ws (T8 m ws st m (b,G5 m none))/\
  ((T8 m ws st m (b,G5 m none)).length<=m->U5 m ws st b r.1):=by
 obtain⟨r,rs,e,h,z⟩:=B99 (m:=m) (ws:=ws) (st:=st) (b:=b) m (b,G5 m none) [] .one
 rw[List.reverse_nil,Q9] at e
 have hl:(T8 m ws st m (b,G5 m none)).length=rs.length + 1:=by
  rw[<-A0u,e];rfl
 have hbd:∀(k:Nat) (q:Rw),(T8 m ws st k q).length<=k + 1:=by
  intro k
  induction k with
  | zero=>intro q;exact F3 _
  | succ k ih=>
   intro q
   unfold T8
   split
   ·simp
   ·have:=ih (O0 m ws st q.1 q.1);simp;omega
 have hb2:=hbd m (b,G5 m none)
 refine⟨r,rs,e,?_,hl,by omega,h,fun q hq=>h.rok ok h0 hb q (by rw[<-e];exact B7k.mpr hq),fun hm=>?_⟩
 ·rw[<-List.head?_reverse,e];rfl
 ·rcases z with z | z
  ·exact h.least ok h0 hb z
  ·rw[K8] at z
   simp at z
   omega
abbrev Rd:=Nat×List Pt
def j8 (r:Rd):PyData:=.tuple [.int (r.1:Nat),.list (r.2.map G8)]
def itF (st:Int) (cs:List Int):Nat->Option Int->Option Int
 | 0,o=>o
 | n + 1,o=>itF st cs n (wkF st o cs)
def V6 (ws:List Wy) (st:Int):Option Int->List Pt->Option Int
 | o,[]=>o
 | o,p::ps=>V6 ws st (itF st (chs ws p.1) p.2.toNat o) ps
theorem A9f {ws:List Wy} {st:Int}:∀(xs:List Pt) (o:Option Int) (ys:List Pt),V6 ws st o (xs++ys)=V6 ws st (V6 ws st o xs) ys
 | [],_,_=>rfl
 | x::xs,o,ys=>A9f xs _ ys
theorem B6j {ws:List Wy} {st:Int} {o:Option Int} {ns:List Nat}:V6 ws st o (prt ns)=wkF st o (chs ws ns):=by
 cases ns with
 | nil=>rfl
 | cons n ns=>rfl
theorem C1w {st:Int} {cs:List Int} {le g tp:Int} (fx:fxF st cs=some (le,g,tp)) (g0:0 < g) (tst:tp<=st):∀(n:Nat) {x:Int},0<=x->le<=x->x<=tp->itF st cs n (some x)=some (if x + ((n:Nat):Int) * g < tp then x + ((n:Nat):Int) * g else tp)
 | 0,x,x0,h1,h2=>by
  show some x=_
  congr 1
  split <;> simp at * <;> omega
 | n + 1,x,x0,h1,h2=>by
  show itF st cs n (wkF st (some x) cs)=_
  have w:=A7p x0 (show x<=st by omega) cs
  rw[fx] at w
  unfold M0 at w
  dsimp only at w
  rw[if_neg (by omega)] at w
  rw[<-w]
  have e:(((n + 1:Nat)):Int) * g=((n:Nat):Int) * g + g:=by rw[B2n,A8e];simp
  have e0:0<=((n:Nat):Int) * g:=Int.mul_nonneg (by omega) (by omega)
  rw[C1w fx g0 tst n (by split <;> omega) (by split <;> omega) (by split <;> omega),e]
  congr 1
  split <;> split <;> split <;> omega
theorem D0e {ws:List Wy} {st:Int} {b:Tb} {N:List Nat} {P:Nat->Nat} {L:Nat->Int} {m:Nat} (W:Wk ws st b N P L) (h0:0<=st) (hb:G7 m st b) {i j:Nat} (hij:i < j) (hj:j<=N.length) {le g tp tm:Int} {k:Nat} (hle:le<=L i) (R:Rnd st (chs ws (seg N i j)) (L i) le g tp k) (t1:1<=tm) (t3:tp<=L i + tm * g) :
  V6 ws st (some (L 0)) (j7 N i j k tm)=some st:=by
 have kl:k<=j - i:=by
  have:=R.kl
  unfold chs at this
  rw[D5,A85 hj] at this
  exact this
 unfold j7
 rw[A9f,A9f,B6j (o:=some (L 0)),W.seg (M6 _) (by omega)]
 have hr:V6 ws st (some (L i)) [(seg N i j,tm)]=some tp:=by
  show itF st (chs ws (seg N i j)) tm.toNat (some (L i))=_
  rw[C1w R.fx R.g0 R.tst tm.toNat (W.bd h0 hb i (by omega)).1 hle (Int.le_of_lt R.xt),if_neg (by rw[show ((tm.toNat:Nat):Int)=tm by omega];omega)]
 rw[hr,B6j]
 have kw:=R.kw
 unfold chs at kw ⊢
 rw[<-A1j,B4m kl] at kw
 exact kw
structure C1x (ws:List Wy) (st:Int) (b0:Tb) (r:Rd) (q:Nat) (y:Int):Prop where
 trp:Trp ws r.1 r.2 q
 arr:∃y0,gt b0 r.1=some y0/\V6 ws st (some y0) r.2=some y
structure A1e (m:Nat) (ws:List Wy) (st:Int) (b0 b:Tb) (rd:List Rd) (B:Nat):Prop where
 len:rd.length=m
 ok:∀q y r,gt b q=some y->rd[q]?=some r->C1x ws st b0 r q y
 few:∀r∈rd,r.2.length<=B/\∀pt∈r.2,pt.1.length<=m
theorem A1e.more {m:Nat} {ws:List Wy} {st:Int} {b0 b:Tb} {rd:List Rd} {B C:Nat} (h:A1e m ws st b0 b rd B) (l:B<=C):A1e m ws st b0 b rd C:=⟨h.len,h.ok,fun r hr=>⟨m8 (h.few r hr).1 l,(h.few r hr).2⟩⟩
def B6k (st:Int) (b0 b:Tb):Prop:=∀p,gt b p=gt b0 p\/gt b p=some st
theorem D0f {N:List Nat} {i j k:Nat} {tm:Int}:∀pt∈j7 N i j k tm,pt.1.length<=N.length:=fun pt h=>by
 have hp:∀{a c:Nat},pt∈prt (seg N a c)->pt.1.length<=N.length:=fun {a c} h=>by
  unfold prt at h
  split at h
  ·cases h
  ·have:pt=(seg N a c,1):=by simpa using h
   subst this
   exact B6i
 unfold j7 at h
 rcases O9.mp h with h | h
 ·rcases O9.mp h with h | h
  ·exact hp h
  ·have:pt=(seg N i j,tm):=by simpa using h
   subst this
   exact B6i
 ·exact hp h
theorem A1e.fill {m:Nat} {ws:List Wy} {st:Int} {b0 b:Tb} {rd:List Rd} {B:Nat} (h:A1e m ws st b0 b rd B) {p f:Nat} {x:Int} {r:Rd} {ps:List Pt} (hf:f < b.length) (hp:gt b p=some x) (hr:rd[p]?=some r) (ht:Trp ws p ps f) (ha:V6 ws st (some x) ps=some st) (h3:ps.length<=3) (hfe:∀pt∈ps,pt.1.length<=m):A1e m ws st b0 (b.set f (some st)) (rd.set f (r.1,r.2++ps)) (B + 3):=by
 refine⟨by rw[O3];exact h.len,fun q y r' hq hr'=>?_,fun r' hr'=>?_⟩
 ·rw[j5 hf] at hq
  by_cases c:f=q
  ·subst c
   rw[if_pos rfl] at hq
   cases hq
   rw[n9] at hr'
   simp only[if_true] at hr'
   split at hr'
   ·cases hr'
    obtain⟨t,y0,e0,e1⟩:=h.ok p x r hp hr
    exact⟨t.app ht,y0,e0,by rw[A9f,e1];exact ha⟩
   ·cases hr'
  ·rw[if_neg c] at hq
   rw[U6 c] at hr'
   exact h.ok q y r' hq hr'
 ·rcases List.mem_or_eq_of_mem_set hr' with z | rfl
  ·exact⟨by have:=(h.few r' z).1;omega,(h.few r' z).2⟩
  ·have z:=h.few r (O2 hr)
   refine⟨by have:=z.1;rw[M4];omega,fun pt hpt=>?_⟩
   rcases O9.mp hpt with q | q
   ·exact z.2 pt q
   ·exact hfe pt q
theorem B1y {m:Nat} {ws:List Wy} {st:Int} {b:Tb} (ok:J8 m ws) (h0:0<=st) (hb:G7 m st b):∀{r:Rw} {rs:List Rw},Rows m ws st b (r::rs)->∀p x,gt r.1 p=some x->
  ∃q y N,wlk ws (r::rs) p=(q,N)/\gt b q=some y/\Pth ws q N p/\wkF st (some y) (chs ws N)=some x/\N.length<=rs.length
 | _,_,.one,p,x,e=>by
  refine⟨p,x,[],?_,e,.nil,rfl,M6 _⟩
  show (match gt (G5 m (none:Option Nat)) p with
   | none=>wlk ws [] p
   | some n=>((wlk ws [] (P9 ws n)).1,(wlk ws [] (P9 ws n)).2++[n]))=_
  rw[A36]
  rfl
 | _,_,.more (r:=r) (rs:=rs) h c,p,x,e=>by
  obtain⟨a1,_,a3⟩:=h.ok ok h0 hb
  have I:=A0m (st:=st) (t:=r.1) ok a1.len
  have ew:wlk ws (O0 m ws st r.1 r.1::r::rs) p=(match gt (O0 m ws st r.1 r.1).2 p with
   | none=>wlk ws (r::rs) p
   | some n=>((wlk ws (r::rs) (P9 ws n)).1,(wlk ws (r::rs) (P9 ws n)).2++[n])):=rfl
  cases hn:gt (O0 m ws st r.1 r.1).2 p with
  | none=>
   obtain⟨q,y,N,f1,f2,f3,f4,f5⟩:=B1y ok h0 hb h p x (by rw[<-I.no p hn];exact e)
   exact⟨q,y,N,by rw[ew,hn];exact f1,f2,f3,f4,by rw[K8];omega⟩
  | some n=>
   obtain⟨w,hw,e1,e2,e3⟩:=I.yes p n hn
   rw[e] at e2
   obtain⟨l',hl',hs⟩:∃l',gt r.1 w.1=some l'/\K6 st l' w.2.2=some x:=by
    have hl2:=e2.symm
    unfold N0 at hl2
    split at hl2
    ·cases hl2
    ·rename_i l' e;exact⟨l',e,hl2⟩
   obtain⟨q,y,N,f1,f2,f3,f4,f5⟩:=B1y ok h0 hb h w.1 l' hl'
   have ws1:P9 ws n=w.1:=by unfold P9;rw[hw]
   have wc:V2 ws n=w.2.2:=by unfold V2;rw[hw]
   refine⟨q,y,N++[n],by rw[ew,hn];show ((wlk ws (r::rs) (P9 ws n)).1,(wlk ws (r::rs) (P9 ws n)).2++[n])=_;rw[ws1,f1],f2,f3.app (by rw[<-e1];exact .cons hw .nil),?_,by simp only[M4,K8,A66];omega⟩
   unfold chs
   rw[O5,B4j]
   show wkF st (wkF st (some y) (chs ws N)) [V2 ws n]=_
   rw[f4,wc]
   exact hs
def D0g:DSp:=fun ds Q=>∃(m:Nat) (ws:List Wy) (st:Int) (b0:Tb),ds=[E8 m ws,.int st,.list (C5 b0)]/\J8 m ws/\0<=st/\st<=1000000000000000000000/\G7 m st b0/\
 ∀(rs qs:List Rw) (r:Rw) (b:Tb) (rd:List Rd),rs.getLast?=some r->rs.reverse=r::qs->U5 m ws st b0 r.1->Rows m ws st b (r::qs)->A4h m ws rs->rs.length<=m->G7 m st b->B6k st b0 b->A1e m ws st b0 b rd (3 * m)->Q (.tuple [.list (rs.map Q7),.list (rd.map j8)])
def B1z (m:Nat) (ws:List Wy) (st:Int) (b0 t:Tb):Prop:=∀p x,gt t p=some x->∃q y N,(gt b0 q=some y\/y=st)/\gt t q≠none/\leO (some y) (gt t q)/\Pth ws q N p/\wkF st (some y) (chs ws N)=some x/\N.length + 1<=m
theorem C1y {m:Nat} {ws:List Wy} {st:Int} {b0 b:Tb} (ok:J8 m ws) (h0:0<=st) (hb:G7 m st b) (hf:B6k st b0 b) {r:Rw} {rs:List Rw} (h:Rows m ws st b (r::rs)) (hl:rs.length + 1<=m):B1z m ws st b0 r.1:=fun p x e=>by
 obtain⟨q,y,N,_,f2,f3,f4,f5⟩:=B1y ok h0 hb h p x e
 have up:=(h.ok ok h0 hb).2.2 q
 rw[f2] at up
 refine⟨q,y,N,?_,fun z=>by rw[z] at up;exact A0l up,up,f3,f4,by omega⟩
 rcases hf q with z | z
 ·exact .inl (by rw[<-z];exact f2)
 ·rw[f2] at z;cases z;exact .inr rfl
def D0h:DSp:=fun ds Q=>∃(m:Nat) (ws:List Wy) (st:Int) (b0:Tb),ds=[E8 m ws,.int st,.list (C5 b0)]/\J8 m ws/\0<=st/\st<=1000000000000000000000/\G7 m st b0/\∀t,U5 m ws st b0 t->B1z m ws st b0 t->Q (.list (C5 t))
theorem D0i {st:Int} {b:Tb}:A5r st b<=b.length:=List.countP_le_length
theorem D0j {N:List Nat} {i j k:Nat} {tm:Int}:(j7 N i j k tm).length<=3:=by
 unfold j7
 have h1:=@A72 (seg N 0 i)
 have h2:=@A72 (seg N i (i + k))
 rw[M4,M4]
 simp
 omega
section
variable {P:Program} {w:World} {K:B3} {mg:Str->Option Value} {base:Heap}
theorem C1z (T:Txt K mg):D0 P w K mg base CX0 7 T.f_settled.a T.f_settled.d ["land", "store", "base"] (spD [.bd,.sh,.bo] D0g):=by
 have G_rows_from:=@C92 P w K mg base T
 have b_rows_from:=T.f_rows_from.b
 have G_still_rises:=@C93 P w K mg base T
 have b_still_rises:=T.f_still_rises.b
 have G_rising_walk:=@C94 P w K mg base T
 have b_rising_walk:=T.f_rising_walk.b
 have G_filling_parts:=@D0c P w K mg base T
 have b_filling_parts:=T.f_filling_parts.b
 have G_end_of:=@C9v P w K mg base T
 have b_end_of:=T.f_end_of.b
 refine G1 T.f_settled.F A2k rfl (fun C cdv A outer s H E hr=>⟨_,(@D3 _ _ _ _ _ _ (Z0 (B9 (i:=3) A2k.nd rfl (A8 rfl) (B30 (b7 w5 rfl T.n_list W1 (A4 (pv 2) B8 A0) (he:=A0) (hpl:=A3))))) (@D3 _ _ _ _ _ _ (@C6k _ _ _ _ _ _ _ _ _ rfl (@A4y _ _ _ _ _ _ _ _ _ _ _ _ _ 4 _ _ _ _ _ A2k.nd rfl (A8 rfl) (N5.new (N:=["land", "store", "base", "table", "roads", "rows", "walk", "parts", "full", "road"]) (osc:=C2 B09) (by decide +kernel)) rfl (A3v (p9 rfl T.n_range (A7 (A0n (Q0 (c8 (pv 0)) (E7 (D6 (v:=V.int 0) rfl T.mg_MANY ⟨_,rfl⟩)) (fun _ _=>rfl))) C6 B0))) (fun _=>Y2) (fun _=>(P4 (A7 (A1 (pv 10)) (A7 (F1 (K0 C6)) C6 B3m) A0))) (by rfl) (by first | exact .inl rfl | exact .inr rfl | assumption) (by rfl) (by rfl) (by intro _;rfl))) (@D3 _ _ _ _ _ _ (E3 (B9 (i:=5) A2k.nd rfl (A8 rfl) (C4 (B4 G_rows_from (hr.mono (by decide)) rfl T.f_rows_from.m T.f_rows_from.F.kp b_rows_from .nil B5 (F9 (pv 0) (A5 (A1 (pv 1)) (F9 (pv 3) C3 A0) A0) A0) (he:=A0) (hpl:=(A2 A0 (A2 A0 A3))))))) (@D3 _ _ _ _ _ _ (@B37 _ _ _ _ _ (@A8p _ _ _ _ _ _ O6 (W3 (C4 (B4 G_still_rises (hr.mono (by decide)) rfl T.f_still_rises.m T.f_still_rises.F.kp b_still_rises .nil B5 (F9 (pv 0) (A5 (A1 (pv 5)) C3 A0) A0) (he:=A0) (hpl:=(A2 A0 A3))))) (@D3 _ _ _ _ _ _ (E3 (B9 (i:=6) A2k.nd rfl (A8 rfl) (C4 (B4 G_rising_walk (hr.mono (by decide)) rfl T.f_rising_walk.m T.f_rising_walk.F.kp b_rising_walk .nil B5 (F9 (pv 0) (A5 (A1 (pv 5)) C3 A0) A0) (he:=A0) (hpl:=(A2 A0 A3)))))) (@D3 _ _ _ _ _ _ (@E3 _ _ _ _ _ (@B9 _ _ 7 _ _ _ _ A2k.nd rfl (A8 rfl) (@C4 _ _ _ _ _ _ _ (@B4 _ _ _ _ _ _ _ _ _ _ _ _ _ _ _ _ G_filling_parts (hr.mono (by decide)) rfl T.f_filling_parts.m T.f_filling_parts.F.kp b_filling_parts .nil B5 (F9 (pv 0) (A5 (A1 (pv 1)) (A5 (C7 (pv 3) (C7 (pv 6) (E7 (D6 (v:=V.int 0) rfl T.mg_FROM ⟨_,rfl⟩)) (fun _ _=>rfl)) (fun _ _=>rfl)) (A5 (A1 (pv 6)) C3 A0) B0) A0) A0) (by decide) A0 ((A2 A0 (A2 B0 (A2 A0 A3)))))) (by rfl) (by first | exact .inl rfl | exact .inr rfl | assumption))) (@D3 _ _ _ _ _ _ (E3 (B9 (i:=8) A2k.nd rfl (A8 rfl) (C4 (B4 G_end_of (hr.mono (by decide)) rfl T.f_end_of.m T.f_end_of.F.kp b_end_of .nil B5 (F9 (pv 0) (A5 (C7 (pv 6) (E7 (D6 (v:=V.int 0) rfl T.mg_FROM ⟨_,rfl⟩)) (fun _ _=>rfl)) (A5 (A1 (pv 7)) C3 A0) B0) A0) (he:=A0) (hpl:=(A2 B0 (A2 A0 A3))))))) (@D3 _ _ _ _ _ _ (E3 (B9 (i:=9) A2k.nd rfl (A8 rfl) (C7 (pv 4) (C7 (pv 6) (E7 (D6 (v:=V.int 0) rfl T.mg_FROM ⟨_,rfl⟩)) (fun _ _=>rfl)) (fun _ _=>rfl)))) (@D3 _ _ _ _ _ _ (A7m (T9 (P4 (A7 (C7 (pv 9) (E7 (D6 (v:=V.int 0) rfl T.mg_FROM ⟨_,rfl⟩)) (fun _ _=>rfl)) (A7 (F1 (A3o (C7 (pv 9) (E7 (D6 (v:=V.int 1) rfl T.mg_BY ⟨_,rfl⟩)) (fun _ _=>rfl)) (A1 (pv 7)))) C6 F5) B0)) (Z9 (pv 4) (A1 (pv 8)) X9))) (@D3 _ _ _ _ _ _ (A7m (T9 (A1 (pv 1)) (Z9 (pv 3) (A1 (pv 8)) X9))) (B7 (E3 (B9 (i:=5) A2k.nd rfl (A8 rfl) (C4 (B4 G_rows_from (hr.mono (by decide)) rfl T.f_rows_from.m T.f_rows_from.F.kp b_rows_from .nil B5 (F9 (pv 0) (A5 (A1 (pv 1)) (F9 (pv 3) C3 A0) A0) A0) (he:=A0) (hpl:=(A2 A0 (A2 A0 A3)))))))))))))))) (B7 (C8 (P4 (A7 (A1 (pv 5)) (A7 (A1 (pv 4)) C6 A0) A0)))))))),fun ds Q hl h=>?_⟩)
 obtain⟨m,ws,st,b0,rfl,ok,h0,hst,hb0,q⟩:=h
 have m2:=ok.m2
 left
 refine go ?_;array_mem_dec
 refine⟨rfl,⟨by omega,by omega⟩,⟨rfl,by unfold M9;rw[D5,o7];omega⟩,?_⟩
 unfold M9
 rw[show ((m:Nat):Int).toNat=m by simp]
 refine A0i (f:=fun i=>.tuple [.int (0 + ((i:Nat):Int)),.list []]) (fun i hi Q' q'=>?_) ?_
 ·left
  exact⟨by decide,by decide,q'⟩
 left
 rw[show List.map (fun i=>PyData.tuple [.int (0 + ((i:Nat):Int)),.list []]) (P5 m)=List.map j8 ((P5 m).map fun i=>(i,([]:List Pt))) by
  rw[p5]
  refine List.map_congr_left fun i _=>?_
  show PyData.tuple [.int (0 + ((i:Nat):Int)),.list []]=.tuple [.int ((i:Nat):Int),.list []]
  rw[B2q]]
 refine go ?_;left
 refine⟨rfl,rfl,m,ws,st,b0,rfl,ok,hb0.len,?_⟩
 left
 refine go ?_
 unfold P8 B0q
 refine⟨fun μ ρ=>∃(b:Tb) (rd:List Rd) (z2 z6 z7 z8 z9:Sl),ρ=[Sl.bd (E8 m ws),Sl.sh (.int st),z2,Sl.ow (C5 b),Sl.ow (rd.map j8),Sl.sh (.list ((T8 m ws st m (b,G5 m none)).map Q7)),z6,z7,z8,z9]/\G7 m st b/\A5r st b=μ/\(∀t,U5 m ws st b t->U5 m ws st b0 t)/\B6k st b0 b/\A1e m ws st b0 b rd (3 * (m - μ)),
  ⟨A5r st b0,b0,_,_,_,_,_,_,rfl,hb0,rfl,fun t h=>h,fun p=>.inl rfl,by simp,fun q y r hq hr=>?_,fun r hr=>?_⟩,?_⟩
 ·rw[M7] at hr
  cases e:(P5 m)[q]? with
  | none=>rw[e] at hr;cases hr
  | some i=>
   rw[e] at hr
   obtain⟨_,e2⟩:=m9.mp e
   rw[List.getElem_range] at e2
   subst e2
   cases hr
   exact⟨.nil,y,hq,rfl⟩
 ·obtain⟨i,_,rfl⟩:=S5.mp hr
  exact⟨M6 _,fun pt h=>nomatch h⟩
 rintro μ ρ ⟨b,rd,z2,z6,z7,z8,z9,rfl,hb,hμ,hle,hfl,hrd⟩
 obtain⟨r,rs,e1,e2,e3,e4,hR,hok,hfin⟩:=D0d ok h0 hb
 left
 refine⟨rfl,m,ws,_,rfl,?_⟩
 by_cases c:m < (T8 m ws st m (b,G5 m none)).length
 ·rw[decide_eq_true c]
  sizeOf_list_dec
  have hne:rs≠[]:=fun z=>by rw[z] at e3;have:=ok.m1;simp at e3;omega
  refine⟨rfl,m,ws,_,r,rfl,ok,hok,by omega,e2,hR.risen ok h0 hb hne,fun p n hp hn=>?_⟩
  obtain⟨N,PP,L,f1,f2,f3,f4,W,f6⟩:=C0i ok h0 hb hR p (.inr ⟨n,hn⟩)
  have hN:N.length=m:=by omega
  rw[e1,f1]
  have hbeg:gt b (PP 0)=some (L 0):=W.beg
  have hP0:PP 0 < m:=W.pl ok hb 0 (M6 _)
  refine go ?_;left
  rw[j6 (by rw[hb.len];exact hP0),hbeg]
  right
  refine⟨rfl,m,ws,st,b,N,PP,L,rfl,ok,h0,hst,hb,W,hN,fun i j k le g tp tm hij hj hpp hle2 R t1 t2 t3=>?_⟩
  have kl:k<=j - i:=by
   have:=R.kl
   unfold chs at this
   rw[D5,A85 (by omega)] at this
   exact this
  have hfull:PP (i + k) < m:=W.pl ok hb (i + k) (by omega)
  have htrp:Trp ws (PP 0) (j7 N i j k tm) (PP (i + k)):=by
   unfold j7
   refine ((B6f (W.pth (i:=0) (j:=i) (M6 _) (by omega))).app ?_).app (B6f (W.pth (i:=i) (j:=i + k) (by omega) (by omega)))
   have hs:=W.pth (i:=i) (j:=j) (by omega) (by omega)
   rw[<-hpp] at hs
   exact .cons hs (fun z=>by have:=congrArg A2o z;rw[A85 (by omega)] at this;simp at this;omega) t1 t2 (.inr rfl) .nil
  have harr:=D0e W h0 hb hij (by omega) hle2 R t1 t3
  refine go ?_;left
  refine⟨rfl,m,ws,PP 0,PP (i + k),_,rfl,htrp,?_⟩
  obtain⟨r0,hr0⟩:∃d,rd[PP 0]?=some d:=⟨_,K3 (by rw[hrd.len];exact hP0)⟩
  have hps:=(hrd.few r0 (O2 hr0)).1
  refine go ?_;left
  rw[P0 (show (rd.map j8)[PP 0]?=some (.tuple [.int (r0.1:Nat),.list (r0.2.map G8)]) by rw[M7,hr0];rfl)]
  left
  refine go ?_;left
  have h3:=@D0j N i j k tm
  have hlk:=C0k st b (PP (i + k)) (by rw[hb.len];exact hfull) (C7a W h0 hb hij (by omega) hpp (by omega))
  have hlm:=@D0i st b
  rw[hb.len] at hlm
  refine⟨by rw[D5,D5];omega,by decide,?_⟩
  rw[A6r (by rw[D5,hrd.len];exact hfull)]
  left
  rw[show (rd.map j8).set (PP (i + k)) (.tuple [.int (r0.1:Nat),.list (r0.2.map G8++(j7 N i j k tm).map G8)])=(rd.set (PP (i + k)) (r0.1,r0.2++j7 N i j k tm)).map j8 by
   rw[List.map_set,<-O5];rfl]
  refine go ?_;left
  rw[A6r (by rw[d7,hb.len];exact hfull)]
  left
  rw[show (C5 b).set (PP (i + k)) (PyData.int st)=C5 (b.set (PP (i + k)) (some st)) from B1w (x:=some st)]
  refine go ?_;left
  have hb':=C7b h0 hb hfull
  refine⟨rfl,rfl,m,ws,st,_,rfl,ok,hb'.len,?_⟩
  left
  refine⟨A5r st (b.set (PP (i + k)) (some st)),by omega,b.set (PP (i + k)) (some st),rd.set (PP (i + k)) (r0.1,r0.2++j7 N i j k tm),_,_,_,_,_,rfl,hb',rfl,fun t h=>hle t (h.fill hb hfull fun T hT h1 h2=>C69 W hij (by omega) hpp hle2 R hT h1 h2),fun p=>?_,(hrd.fill (by rw[hb.len];exact hfull) hbeg hr0 htrp harr h3 fun pt hpt=>by rw[<-hN];exact D0f pt hpt).more (by omega)⟩
  rw[j5 (by rw[hb.len];exact hfull)]
  split
  ·exact .inr rfl
  ·exact hfl p
 ·rw[decide_eq_false c]
  left
  refine go ?_
  left
  refine⟨by decide,?_⟩
  exact q _ rs r b rd e2 e1 (hle _ (hfin (by omega))) hR hok (by omega) hb hfl (hrd.more (by omega))
theorem C10 (T:Txt K mg):D0 P w K mg base CX0 8 T.f_highest.a T.f_highest.d ["land", "store", "base"] (spD [.bd,.sh,.bo] D0h):=by
 have G_settled:=@C1z P w K mg base T
 have b_settled:=T.f_settled.b
 refine G1 T.f_highest.F C8e rfl (fun C cdv A outer s H E hr=>⟨_,(@B7 _ _ _ _ (@C8 _ _ _ _ _ (@L5 _ _ _ _ _ _ _ (L5 (L5 (C4 (B4 G_settled (hr.mono (by decide)) rfl T.f_settled.m T.f_settled.F.kp b_settled .nil B5 (F9 (pv 0) (A5 (A1 (pv 1)) (F9 (pv 2) C3 A0) A0) A0) (he:=A0) (hpl:=(A2 A0 (A2 A0 A3))))) A6 (fun _ _=>rfl)) (A00 A6) (fun _ _=>rfl)) (E7 (D6 (v:=V.int 0) rfl T.mg_TABLE ⟨_,rfl⟩)) (fun _ _=>rfl)))),fun ds Q hl h=>?_⟩)
 obtain⟨m,ws,st,b0,rfl,ok,h0,hst,hb0,q⟩:=h
 left
 refine⟨rfl,rfl,m,ws,st,b0,rfl,ok,h0,hst,hb0,fun rs qs r b rd hl he hL hR hok hlen hb hf hrd=>?_⟩
 left
 rw[show -(1:Int)=-1 from rfl,A9d (B1x hl)]
 right
 have hq:qs.length + 1<=m:=by
  have:=congrArg A2o he
  rw[A0u,K8] at this
  omega
 exact q _ hL (C1y ok h0 hb hf hR hq)
end
def trO:Option Rd->PyData
 | none=>.none
 | some r=>j8 r
def A0o (ws:List Wy) (rs:List Rw) (rd:List Rd) (p:Nat):Rd:=((rd.getD (wlk ws rs.reverse p).1 (0,[])).1,(rd.getD (wlk ws rs.reverse p).1 (0,[])).2++prt (wlk ws rs.reverse p).2)
structure C11 (m:Nat) (ws:List Wy) (st:Int) (b0:Tb) (r:Rd) (p:Nat) (x:Int):Prop extends C1x ws st b0 r p x where
 few:r.2.length<=40
 thin:∀pt∈r.2,pt.1.length<=12
structure B6l (m:Nat) (ws:List Wy) (st:Int) (b0 t:Tb) (trs:List (Option Rd)):Prop where
 len:trs.length=m
 no:∀p,p < m->gt t p=none->trs[p]?=some none
 yes:∀p x,gt t p=some x->∃r,trs[p]?=some (some r)/\C11 m ws st b0 r p x
def D0k:DSp:=fun ds Q=>∃(m:Nat) (ws:List Wy) (st:Int) (b0:Tb),ds=[E8 m ws,.int st,.list (C5 b0)]/\J8 m ws/\0<=st/\st<=1000000000000000000000/\G7 m st b0/\∀t trs,U5 m ws st b0 t->B1z m ws st b0 t->B6l m ws st b0 t trs->Q (.list (trs.map trO))
theorem D0l {ns:List Nat} {pt:Pt} (h:pt∈prt ns):pt.1.length<=ns.length:=by
 unfold prt at h
 split at h
 ·cases h
 ·have:pt=(ns,1):=by simpa using h
  subst this
  exact F3 _
theorem C12 {m:Nat} {ws:List Wy} {st:Int} {b0 b:Tb} {rd:List Rd} {r:Rw} {qs rs:List Rw} (ok:J8 m ws) (h0:0<=st) (hb:G7 m st b) (he:rs.reverse=r::qs) (hR:Rows m ws st b (r::qs)) (hl:rs.length<=m) (hrd:A1e m ws st b0 b rd (3 * m)) {p:Nat} {x:Int} (e:gt r.1 p=some x):(wlk ws rs.reverse p).1 < m/\C11 m ws st b0 (A0o ws rs rd p) p x:=by
 obtain⟨q,y,N,f1,f2,f3,f4,f5⟩:=B1y ok h0 hb hR p x e
 have m2:=ok.m2
 have hq:q < m:=by
  by_cases h:q < m
  ·exact h
  ·rw[A35 (by rw[hb.len];omega)] at f2;cases f2
 have hqs:qs.length + 1<=m:=by
  have:=congrArg A2o he
  rw[A0u,K8] at this
  omega
 rw[he,f1]
 refine⟨hq,?_⟩
 unfold A0o
 rw[he,f1]
 obtain⟨d,hd⟩:∃d,rd[q]?=some d:=⟨_,K3 (by rw[hrd.len];exact hq)⟩
 rw[List.getD_eq_getElem?_getD,hd]
 obtain⟨t,y0,e0,e1⟩:=hrd.ok q y d f2 hd
 have hfe:=hrd.few d (O2 hd)
 refine⟨⟨t.app (B6f f3),y0,e0,?_⟩,?_,fun pt hpt=>?_⟩
 ·show V6 ws st (some y0) (d.2++prt N)=_
  rw[A9f,e1,B6j]
  exact f4
 ·show (d.2++prt N).length<=40
  have:=hfe.1
  have:=@A72 N
  rw[M4]
  omega
 ·rcases O9.mp (show pt∈d.2++prt N from hpt) with z | z
  ·have:=hfe.2 pt z;omega
  ·have:=D0l z;omega
def D0m:Sp:=fun vs H Q _=>∃(F:Addr->Prop) (vl vr vd:V) (m:Nat) (ws:List Wy) (rs:List Rw) (rd:List Rd) (p:Nat),vs=[vl,vr,vd,.int (p:Nat)]/\ThV F H vl (E8 m ws)/\ThV F H vr (.list (rs.map Q7))/\ThV F H vd (.list (rd.map j8))/\(p < m/\J8 m ws/\A4h m ws rs/\rs.length<=900/\(wlk ws rs.reverse p).1 < rd.length/\∀r∈rd,r.2.length<=900)/\
 ∀v H' fp,Same H H'->FpV (fun b=>H b=none\/∃xs,H b=some (.tup xs)) H' v (j8 (A0o ws rs rd p)) fp->fp.Nodup->Q v H'
theorem j9 {H H':Hp} (k:Kq none H H'):Same H H':=fun b o e=>k b o e fun q hq=>nomatch hq
theorem D0n {G F2:Addr->Prop} {H2 H3:Hp} {l:Addr} {ns:List Nat} {zs:List V} (hG:∀b,F2 b->G b) (hF:∀b,F2 b->H2 b=none\/(∃xs,H2 b=some (.tup xs))\/b=l) (sm:Same H2 H3) (t:A9 F2 H3 zs ((prt ns).map G8)):∃fq,G0 G H3 zs ((prt ns).map G8) fq/\fq.Nodup/\∀b∈fq,H2 b=none\/b=l:=by
 unfold prt at t ⊢
 split at t
 ·rename_i c
  rw[if_pos c]
  cases t
  exact⟨[],.nil,B2p,fun b hb=>nomatch hb⟩
 ·rename_i c
  rw[if_neg c]
  obtain⟨v,rfl,t1⟩:=A42 t
  obtain⟨tq,xs,rfl,g1,e1,t2⟩:=U9 t1
  obtain⟨v1,v2,rfl,t3,t4⟩:=S9 t2
  obtain⟨l',us,rfl,g2,e2,t5⟩:=K1 t3
  cases t4
  have hu:=t5.fp0 (B1v _)
  refine⟨[l']++([]++[])++[],.cons (.tup (hG _ g1) e1 (.cons (.lst (hG _ g2) e2 (hu.mvm fun b o z e _=>⟨hG b z,e⟩)) (.cons (.int _) .nil))) .nil,by simp,fun b hb=>?_⟩
  have:b=l':=by simpa using hb
  subst this
  rcases hF b g2 with h | ⟨xs,h⟩ | h
  ·exact .inl h
  ·have:=sm b _ h
   rw[e2] at this;cases this
  ·exact .inr h
section
variable {P:Program} {w:World} {K:B3} {mg:Str->Option Value} {base:Heap}
theorem D0o (T:Txt K mg):D0 P w K mg base CX0 3 T.f_trip_to.a T.f_trip_to.d ["land", "rows", "roads", "place"] D0m:=by
 have G_walk_to:=@C1m P w K mg base T
 have b_walk_to:=T.f_walk_to.b
 have G_parts_by:=@C1n P w K mg base T
 have b_parts_by:=T.f_parts_by.b
 refine T.f_trip_to.F.ok B1o (fun vs H Q E h=>?_) (fun cdv A outer s H vs Q E hr h=>?_)
 ·obtain⟨F,vl,vr,vd,m,ws,rs,rd,p,rfl,_⟩:=h
  rfl
 ·obtain⟨F,vl,vr,vd,m,ws,rs,rd,p,rfl,tl,tr,td,⟨hp,ok,hR,hn,hw,hfe⟩,q⟩:=h
  refine⟨_,(E6 (B9 (i:=4) B1o.nd rfl (A8 rfl) (B4 G_walk_to (hr.mono (by decide)) rfl T.f_walk_to.m T.f_walk_to.F.kp b_walk_to .nil B5 (A4 (pv 0) (A4 (pv 1) (A4 (pv 3) B8 A0) A0) A0) (he:=A0) (hpl:=(A2 A0 (A2 A0 A3)))))
   (E6 (B9 (i:=5) B1o.nd rfl (A8 rfl) (D9 J3 (pv 2) (D9 J3 (pv 4) (D6 (v:=V.int 0) rfl T.mg_FROM ⟨_,rfl⟩) (fun _ _=>rfl)) (fun _ _=>rfl)))
   (E6 (A4y (i:=6) B1o.nd rfl (A8 rfl) (N5.new (N:=["land", "rows", "roads", "place", "walk", "road", "trip"]) (osc:=C2 B1a) (by decide +kernel)) rfl (A1q (D9 J3 (pv 5) (D6 (v:=V.int 1) rfl T.mg_BY ⟨_,rfl⟩) (fun _ _=>rfl))) (fun _=>A2v) (fun _=>(l7 (A4 (b7 w5 rfl T.n_list W1 (A4 (D9 J3 (pv 7) (D6 (v:=V.int 0) rfl T.mg_NUMBERS ⟨_,rfl⟩) (fun _ _=>rfl)) B8 B0) (he:=B0) (hpl:=A3)) (A4 (D9 J3 (pv 7) (D6 (v:=V.int 1) rfl T.mg_TIMES ⟨_,rfl⟩) (fun _ _=>rfl)) B8 B0) E5))))
   (M2 (Q3 (l7 (A4 (D9 J3 (pv 5) (D6 (v:=V.int 0) rfl T.mg_FROM ⟨_,rfl⟩) (fun _ _=>rfl)) (A4 (N8 A97 (pv 6) (B4 G_parts_by (hr.mono (by decide)) rfl T.f_parts_by.m T.f_parts_by.F.kp b_parts_by .nil B5 (A4 (D9 J3 (pv 4) (D6 (v:=V.int 1) rfl T.mg_BY ⟨_,rfl⟩) (fun _ _=>rfl)) B8 B0) (he:=B0) (hpl:=A3))) B8 F5) B0))))))),?_⟩
  try dsimp only[X8,Cx.nox]
  let G:Addr->Prop:=fun b=>H b=none\/∃xs,H b=some (.tup xs)
  refine⟨vl,rfl,vr,rfl,.int (p:Nat),rfl,?_⟩
  refine⟨G,none,[E8 m ws,.list (rs.map Q7),.int (p:Nat)],fun d=>d=.tuple [.int ((wlk ws rs.reverse p).1:Nat),.list (D4 (wlk ws rs.reverse p).2)],⟨fun b hb=>.inl hb,fun b xs e=>.inr ⟨xs,e⟩⟩,fun q hq=>(nomatch hq),fun q hq=>(nomatch hq),.cons (ThV.mv (fun b o _ e=>⟨fun q hq=>(nomatch hq),e⟩) tl) (.cons (ThV.mv (fun b o _ e=>⟨fun q hq=>(nomatch hq),e⟩) tr) (.cons (.int _) .nil)),⟨m,ws,rs,p,rfl,hp,ok,hR,hn,rfl⟩,fun dw vw H1 hd tw k1 _=>?_⟩
  subst hd
  have s1:=j9 k1
  obtain⟨aw,xw,rfl,_,ew,tw2⟩:=U9 tw
  obtain⟨w1,w2,rfl,tw3,tw4⟩:=S9 tw2
  cases tw3
  obtain⟨l,lus,rfl,gl,el,tl5⟩:=K1 tw4
  have hlN:H l=none:=by
   rcases gl with h | ⟨xs,h⟩
   ·exact h
   ·have:=s1 l _ h
    rw[el] at this;cases this
  obtain⟨d,hd⟩:∃d,rd[(wlk ws rs.reverse p).1]?=some d:=⟨_,K3 hw⟩
  have hd2:=hfe d (O2 hd)
  unfold A0o at q
  rw[List.getD_eq_getElem?_getD,hd] at q
  obtain⟨ar,rvs,rfl,_,er,td2⟩:=K1 td
  obtain⟨vroad,hvr,tro⟩:=td2.at (show (rd.map j8)[(wlk ws rs.reverse p).1]?=some (j8 d) by rw[M7,hd];rfl)
  obtain⟨ad,xd,rfl,_,ead,td3⟩:=U9 tro
  obtain⟨u1,u2,rfl,td4,td5⟩:=S9 td3
  cases td4
  obtain⟨lb,us,rfl,_,elb,tus⟩:=K1 td5
  refine⟨_,rfl,_,rfl,.inr (.inl ⟨aw,_,0,_,rfl,rfl,SqT.of ew,rfl,.inl ⟨ar,rvs,_,_,rfl,rfl,SqL.of (s1 _ _ er),P0 hvr,?_⟩⟩)⟩
  refine⟨_,rfl,.inr (.inl ⟨ad,_,1,_,rfl,rfl,SqT.of (s1 _ _ ead),rfl,lb,rfl,⟨us,SqL.of (s1 _ _ elb)⟩,?_⟩)⟩
  refine A7g (xs:=us) (fun i ys H'=>Same H1 H'/\ys.length=i/\∃fp,G0 G H' ys ((d.2.take i).map G8) fp/\fp.Nodup/\∀b∈fp,H1 b=none) ?_ ?_ ?_ ?_ ?_
  ·rw[tus.len,D5,sizeLine_eq];omega
  ·exact⟨Same.refl _,rfl,[],.nil,B2p,fun b hb=>nomatch hb⟩
  ·exact fun i ys H' _ h=>⟨by rw[h.2.1];exact F3 _,SqL.of (h.1 _ _ (s1 _ _ elb))⟩
  ·rintro i x ys H' hx ⟨sm,hl,fp,Tf,nd,nw⟩ ca
   obtain⟨dp,hdp,tx⟩:=tus.get hx
   rw[M7] at hdp
   obtain⟨pt,hpt,rfl⟩:=A4q.mp hdp
   obtain⟨tb,xb,rfl,_,etb,tb2⟩:=U9 tx
   obtain⟨b1,b2,rfl,tb3,tb4⟩:=S9 tb2
   cases tb4
   obtain⟨ln,lns,rfl,_,eln,tln⟩:=K1 tb3
   have etb':=sm _ _ (s1 _ _ etb)
   have eln':=sm _ _ (s1 _ _ eln)
   unfold A2u
   refine J0 ?_
   refine⟨_,rfl,.inr (.inl ⟨tb,_,0,_,rfl,rfl,SqT.of etb',rfl,ln,lns,rfl,.inl (SqL.of eln'),fun l2 hl2=>?_⟩)⟩
   have k2:∀b o,H' b=some o->upd H' l2 (.lst lns) b=some o:=fun b o e=>by rw[C1 (N7 e hl2)];exact e
   refine⟨_,rfl,.inr (.inl ⟨tb,_,1,_,rfl,rfl,SqT.of (k2 _ _ etb'),rfl,by show 2<=sizeLine;decide,fun t2 ht2=>?_⟩)⟩
   have k3:∀b o,H' b=some o->upd (upd H' l2 (.lst lns)) t2 (.tup [.ref l2,.int pt.2]) b=some o:=fun b o e=>by rw[C1 (N7 (k2 b o e) ht2)];exact k2 b o e
   have kn:∀b,H' b=none->H b=none:=fun b hb=>by
    cases z:H b with
    | none=>rfl
    | some o=>rw[sm _ _ (s1 _ _ z)] at hb;cases hb
   have kn1:∀b,H' b=none->H1 b=none:=fun b hb=>by
    cases z:H1 b with
    | none=>rfl
    | some o=>rw[sm _ _ z] at hb;cases hb
   have ht2':H' t2=none:=by
    cases z:H' t2 with
    | none=>rfl
    | some o=>rw[k2 _ _ z] at ht2;cases ht2
   have el2:upd (upd H' l2 (.lst lns)) t2 (.tup [.ref l2,.int pt.2]) l2=some (.lst lns):=by rw[C1 (N7 E4 ht2)];exact E4
   have hu:=(tln.fp0 (B1v _)).mvm (G:=G) (H':=upd (upd H' l2 (.lst lns)) t2 (.tup [.ref l2,.int pt.2])) fun b o _ e h=>by
    have e':=k3 _ _ (sm _ _ (s1 _ _ e))
    rcases h with h | ⟨xs,rfl⟩
    ·cases h
    ·exact⟨.inr ⟨xs,e⟩,e'⟩
   have item:FpV G (upd (upd H' l2 (.lst lns)) t2 (.tup [.ref l2,.int pt.2])) (.ref t2) (G8 pt) ([l2]++([]++[])):=.tup (.inl (kn _ ht2')) E4 (.cons (.lst (.inl (kn _ hl2)) el2 hu) (.cons (.int _) .nil))
   refine⟨fun b o e=>k3 b o (sm b o e),by rw[M4,hl];rfl,fp++([l2]++([]++[])++[]),?_,?_,fun b hb=>?_⟩
   ·rw[A63,hpt]
    show G0 G _ _ (List.map G8 (d.2.take i++[pt])) _
    rw[O5]
    exact (Tf.mvm fun b o g e _=>⟨g,k3 b o e⟩).append (.cons item .nil)
   ·refine A65.mpr ⟨nd,by simp,fun b hb c hc e=>?_⟩
    have:c=l2:=by simpa using hc
    subst this
    subst e
    obtain⟨_,xs,ex⟩:=Tf.mem b hb
    rw[ex] at hl2;cases hl2
   ·rcases O9.mp hb with h | h
    ·exact nw b h
    ·have:b=l2:=by simpa using h
     subst this
     exact kn1 b hl2
  rintro ys H2 ⟨sm,hl,fp,Tf,nd,nw⟩ tr0 htr
  have hk:us.length=d.2.length:=by rw[tus.len,D5]
  rw[hk,A64] at Tf
  have k2:∀b o,H2 b=some o->upd H2 tr0 (.lst ys) b=some o:=fun b o e=>by rw[C1 (N7 e htr)];exact e
  have S2:Same H (upd H2 tr0 (.lst ys)):=fun b o e=>k2 _ _ (sm _ _ (s1 _ _ e))
  refine⟨_,rfl,.inr (.inl ⟨ad,_,0,_,rfl,rfl,SqT.of (S2 _ _ ead),rfl,?_⟩)⟩
  refine⟨_,rfl,_,rfl,.inr (.inl ⟨aw,_,1,_,rfl,rfl,SqT.of (k2 _ _ (sm _ _ ew)),rfl,?_⟩)⟩
  let H3:Hp:=upd H2 tr0 (.lst ys)
  let F2:Addr->Prop:=fun b=>H3 b=none\/(∃xs,H3 b=some (.tup xs))\/b=l
  have el3:H3 l=some (.lst lus):=k2 _ _ (sm _ _ el)
  refine⟨F2,none,[.list (D4 (wlk ws rs.reverse p).2)],fun dd=>dd=.list ((prt (wlk ws rs.reverse p).2).map G8),⟨fun b hb=>.inl hb,fun b xs e=>.inr (.inl ⟨xs,e⟩)⟩,fun q hq=>(nomatch hq),fun q hq=>(nomatch hq),.cons (.lst (.inr (.inr rfl)) el3 ((tl5.fp0 (B1v _)).mvm fun b o _ e h=>by
   rcases h with h | ⟨xs,rfl⟩
   ·cases h
   ·exact⟨.inr (.inl ⟨xs,k2 _ _ (sm _ _ e)⟩),k2 _ _ (sm _ _ e)⟩).th) .nil,⟨_,rfl,rfl⟩,fun dd vv H4 hdd tdd k4 _=>?_⟩
  subst hdd
  have s4:=j9 k4
  obtain⟨aq,zs,rfl,_,eaq,tzs⟩:=K1 tdd
  obtain⟨fq,Tq,ndq,nq⟩:=D0n (G:=fun b=>F2 b) (fun b h=>h) (fun b h=>h) s4 tzs
  have kn4:∀b,H4 b=none->H b=none:=fun b hb=>by
   cases z:H b with
   | none=>rfl
   | some o=>rw[s4 _ _ (S2 _ _ z)] at hb;cases hb
  have tr4:H4 tr0=some (.lst ys):=s4 _ _ E4
  refine⟨tr0,aq,ys,zs,rfl,rfl,tr4,eaq,by rw[hl,tus.len,D5,tzs.len,D5,sizeLine_eq];have:=@A72 (wlk ws rs.reverse p).2;omega,fun c hc=>⟨by show 2<=sizeLine;decide,fun u hu=>?_⟩⟩
  have k5:∀b o,H4 b=some o->upd (upd H4 c (.lst (ys++zs))) u (.tup [.int (d.1:Nat),.ref c]) b=some o:=fun b o e=>by
   have e1:upd H4 c (.lst (ys++zs)) b=some o:=by rw[C1 (N7 e hc)];exact e
   rw[C1 (N7 e1 hu)];exact e1
  have hu4:H4 u=none:=by
   cases z:H4 u with
   | none=>rfl
   | some o=>
    have:upd H4 c (.lst (ys++zs)) u=some o:=by rw[C1 (N7 z hc)];exact z
    rw[this] at hu;cases hu
  have ec:upd (upd H4 c (.lst (ys++zs))) u (.tup [.int (d.1:Nat),.ref c]) c=some (.lst (ys++zs)):=by rw[C1 (N7 E4 hu)];exact E4
  have Tq':G0 G (upd (upd H4 c (.lst (ys++zs))) u (.tup [.int (d.1:Nat),.ref c])) zs ((prt (wlk ws rs.reverse p).2).map G8) fq:=Tq.mvm fun b o g e h=>by
   refine⟨?_,k5 b o e⟩
   rcases h with h | ⟨xs,rfl⟩
   ·rcases nq b h with z | z
    ·exact .inl (by
      cases y:H b with
      | none=>rfl
      | some o=>exact absurd ((S2 _ _ y).symm.trans z) (fun q=>nomatch q))
    ·rw[z];exact .inl hlN
   ·cases y:H b with
    | none=>exact .inl y
    | some o=>
     have:=s4 _ _ (S2 _ _ y)
     rw[e] at this
     cases this
     exact .inr ⟨xs,y⟩
  have Tf':G0 G (upd (upd H4 c (.lst (ys++zs))) u (.tup [.int (d.1:Nat),.ref c])) ys (d.2.map G8) fp:=Tf.mvm fun b o g e _=>⟨g,k5 _ _ (s4 _ _ (k2 _ _ e))⟩
  have nd2:(fp++fq).Nodup:=A65.mpr ⟨nd,ndq,fun b hb b' hb' e=>by
   subst e
   obtain⟨_,xs,ex⟩:=Tf.mem b hb
   rcases nq b hb' with z | z
   ·exact absurd ((k2 _ _ ex).symm.trans z) (fun q=>nomatch q)
   ·have:=nw b hb
    rw[z,el] at this;cases this⟩
  refine q (.ref u) _ ([]++(c::(fp++fq)++[])) (fun b o e=>k5 _ _ (s4 _ _ (S2 _ _ e))) (.tup (.inl (kn4 _ hu4)) E4 (.cons (.int _) (.cons ?_ .nil))) ?_
  ·show FpV G _ _ (.list (List.map G8 (d.2++prt (wlk ws rs.reverse p).2))) _
   rw[O5]
   exact .lst (.inl (kn4 _ hc)) ec (Tf'.append Tq')
  ·rw[Q9,n6]
   refine A0s.mpr ⟨fun hb=>?_,nd2⟩
   rcases O9.mp hb with h | h
   ·obtain⟨_,xs,ex⟩:=Tf.mem c h
    rw[s4 _ _ (k2 _ _ ex)] at hc;cases hc
   ·obtain⟨_,xs,ex⟩:=Tq.mem c h
    rw[ex] at hc;cases hc
end
theorem C13:∀b:Tb,V5 (C5 b)=true
 | []=>rfl
 | o::b=>by
  show (O8 (oD o)&&V5 (C5 b))=true
  rw[C13 b]
  cases o <;> rfl
abbrev C14:Sp:=A7v [.bd,.sh,.bd] D0k
theorem FpV.early {H H' H2:Hp} {v:V} {d:PyData} {fp:List Addr} (s1:Same H H') (s2:Same H' H2) (t:FpV (fun b=>H' b=none\/∃xs,H' b=some (.tup xs)) H2 v d fp):FpV (fun b=>H b=none\/∃xs,H b=some (.tup xs)) H2 v d fp/\∀b∈fp,H' b=none:=by
 have back:∀b,H' b=none->H b=none:=fun b h=>by
  cases z:H b with
  | none=>rfl
  | some o=>rw[s1 _ _ z] at h;cases h
 refine⟨t.mvm fun b o g e _=>⟨?_,e⟩,fun b hb=>?_⟩
 ·rcases g with g | ⟨xs,g⟩
  ·exact .inl (back b g)
  ·cases z:H b with
   | none=>exact .inl rfl
   | some o'=>
    have:=s1 _ _ z
    rw[g] at this
    cases this
    exact .inr ⟨xs,rfl⟩
 ·obtain⟨g,xs,e⟩:=t.mem b hb
  rcases g with g | ⟨ys,g⟩
  ·exact g
  ·rw[s2 _ _ g] at e;cases e
section
variable {P:Program} {w:World} {K:B3} {mg:Str->Option Value} {base:Heap}
theorem D0p (T:Txt K mg):D0 P w K mg base CX0 8 T.f_trips_to.a T.f_trips_to.d ["land", "store", "base"] C14:=by
 have G_settled:=@C1z P w K mg base T
 have b_settled:=T.f_settled.b
 have G_trip_to:=@D0o P w K mg base T
 have b_trip_to:=T.f_trip_to.b
 refine T.f_trips_to.F.ok B1p (fun vs H Q E h=>?_) (fun cdv A outer s H vs Q E hr h=>?_)
 ·obtain⟨_,_,_,_,_,_,_,a,_⟩:=h
  rw[a.len.1];rfl
 ·obtain⟨F0,hand,ds,Qd,_,_,hq,ar,hsp,told⟩:=h
  obtain⟨m,ws,st,b0,rfl,ok,h0,hst,hb0,q⟩:=hsp
  have m2:=ok.m2
  cases ar with
  | @cons _ vl _ _ _ _ tl ar=>
  cases ar with
  | @cons _ vs0 _ _ _ _ ts ar=>
  cases ar with
  | @cons _ vb _ _ _ _ tb ar=>
  cases ar
  cases (show ThV F0 H vs0 (.int st) from ts)
  refine⟨_,(E6 (B9 (i:=3) B1p.nd rfl (f8 rfl) (B4 G_settled (hr.mono (by decide)) rfl T.f_settled.m T.f_settled.F.kp b_settled .nil B5 (A4 (pv 0) (A4 (pv 1) (A4 (pv 2) B8 A0) A0) A0) (he:=A0) (hpl:=(A2 A0 (A2 A0 A3)))))
   (E6 (B9 (i:=4) B1p.nd rfl (f8 rfl) (D9 J3 (pv 3) D1 (fun _ _=>rfl)))
   (E6 (B9 (i:=5) B1p.nd rfl (f8 rfl) (D9 J3 (D9 J3 (pv 4) (B72 B73 D1) (fun _ _=>rfl)) (D6 (v:=V.int 0) rfl T.mg_TABLE ⟨_,rfl⟩) (fun _ _=>rfl)))
   (M2 (Q3 (Y6 (N5.new (N:=["land", "store", "base", "found", "rows", "table"]) (osc:=C2 B1b) (by decide +kernel)) rfl (p9 rfl T.n_range (A4 (D9 J3 (pv 0) (D6 (v:=V.int 0) rfl T.mg_MANY ⟨_,rfl⟩) (fun _ _=>rfl)) B8 B0)) (fun _=>A2v) (fun _=>(B7t (U1 U8 (D9 J3 (pv 5) (pv 6) (fun _ _=>rfl)) A2q (C9 _)) A2q (B4 G_trip_to (hr.mono (by decide)) rfl T.f_trip_to.m T.f_trip_to.F.kp b_trip_to .nil B5 (A4 (pv 0) (A4 (pv 4) (A4 (D9 J3 (pv 3) D1 (fun _ _=>rfl)) (A4 (pv 6) B8 A0) B0) A0) A0) (he:=A0) (hpl:=(A2 A0 (A2 B0 (A2 A0 A3))))))))))))),?_⟩
  try dsimp only[X8,Cx.nox]
  let G:Addr->Prop:=fun b=>H b=none\/∃xs,H b=some (.tup xs)
  refine⟨vl,rfl,.int st,rfl,vb,rfl,?_⟩
  obtain⟨ba,bvs,rfl,_,eb,tbs⟩:=K1 (show ThV _ H vb (.list (C5 b0)) from tb)
  refine⟨G,none,[E8 m ws,.int st,.list (C5 b0)],fun d=>∃(rs qs:List Rw) (r:Rw) (b:Tb) (rd:List Rd),d=.tuple [.list (rs.map Q7),.list (rd.map j8)]/\rs.getLast?=some r/\rs.reverse=r::qs/\U5 m ws st b0 r.1/\Rows m ws st b (r::qs)/\A4h m ws rs/\rs.length<=m/\G7 m st b/\B1z m ws st b0 r.1/\A1e m ws st b0 b rd (3 * m),⟨fun b hb=>.inl hb,fun b xs e=>.inr ⟨xs,e⟩⟩,fun q hq=>(nomatch hq),fun q hq=>(nomatch hq),.cons (ThV.mv (fun b o _ e=>⟨fun q hq=>(nomatch hq),e⟩) (show ThV _ H vl _ from tl)) (.cons (.int _) (.cons ⟨ba,bvs,C5 b0,rfl,rfl,fun q hq=>(nomatch hq),eb,(tbs.flat (fun b xs e=>.inr ⟨xs,e⟩) (C13 b0))⟩ .nil)),⟨m,ws,st,b0,rfl,ok,h0,hst,hb0,fun rs qs r b rd hl he hL hR hok hlen hb hf hrd=>?_⟩,fun dw vw H1 hd tw k1 _=>?_⟩
  ·have hq:qs.length + 1<=m:=by
    have:=congrArg A2o he
    rw[A0u,K8] at this
    omega
   exact⟨rs,qs,r,b,rd,rfl,hl,he,hL,hR,hok,hlen,hb,C1y ok h0 hb hf hR hq,hrd⟩
  obtain⟨rs,qs,r,b,rd,rfl,hl,he,hL,hR,hok,hlen,hb,hN,hrd⟩:=hd
  have s1:=j9 k1
  obtain⟨af,xf,rfl,_,ef,tf⟩:=U9 tw
  obtain⟨f1,f2,rfl,tf1,tf2⟩:=S9 tf
  obtain⟨ar,rvs,rfl,gr,er,trv⟩:=K1 tf1
  obtain⟨vlast,hvl,tvl⟩:=A10 trv (show atI (rs.map Q7) (-1)=some (Q7 r) from A9d (B1x hl))
  obtain⟨al,xl,rfl,_,eal,tal⟩:=U9 tvl
  obtain⟨t1,t2,rfl,tt1,tt2⟩:=S9 tal
  obtain⟨at',tvs,rfl,_,eat,ttv⟩:=K1 tt1
  refine⟨_,rfl,.inr (.inl ⟨af,_,0,_,rfl,rfl,SqT.of ef,rfl,?_⟩)⟩
  refine⟨_,rfl,1,rfl,.inl ⟨ar,rvs,_,_,rfl,rfl,SqL.of er,hvl,.inr (.inl ⟨al,_,0,_,rfl,rfl,SqT.of eal,rfl,?_⟩)⟩⟩
  obtain⟨ll,lxs,rfl,_,ell,tll⟩:=U9 (show ThV _ H vl (E8 m ws) from tl)
  obtain⟨l1,l2,rfl,tl1,tl2⟩:=S9 tll
  cases tl1
  refine⟨_,rfl,.inr (.inl ⟨ll,_,0,_,rfl,rfl,SqT.of (s1 _ _ ell),rfl,?_⟩)⟩
  refine⟨((m:Nat):Int),rfl,by omega,by omega,?_⟩
  rw[show ((m:Nat):Int).toNat=m by simp]
  refine C5f (fun i ys H'=>Same H1 H'/\ys.length=i/\∃fp,G0 G H' ys ((P5 i).map fun k=>trO ((gt r.1 k).map fun _=>A0o ws rs rd k)) fp/\fp.Nodup/\∀b∈fp,H1 b=none) ?_ ?_ ?_ ?_ ?_
  ·rw[sizeLine_eq];omega
  ·exact⟨Same.refl _,rfl,[],.nil,B2p,fun b hb=>nomatch hb⟩
  ·exact fun i ys H' _ h=>by rw[h.2.1];exact F3 _
  ·rintro i ys H' hi ⟨sm,hl',fp,Tf,nd,nw⟩ ca
   rw[show (0:Int) + ((i:Nat):Int)=((i:Nat):Int) by omega]
   obtain⟨vt,hvt,tvt⟩:=A10 ttv (show atI (C5 r.1) ((i:Nat):Int)=some (oD (gt r.1 i)) from j6 (by rw[hL.tab.len];exact hi))
   unfold A2u
   refine J0 ?_
   refine⟨_,rfl,_,rfl,.inl ⟨at',tvs,_,_,rfl,rfl,SqL.of (sm _ _ eat),hvt,rfl,_,rfl,?_⟩⟩
   have st1:((P5 (i + 1)).map fun k=>trO ((gt r.1 k).map fun _=>A0o ws rs rd k))=((P5 i).map fun k=>trO ((gt r.1 k).map fun _=>A0o ws rs rd k))++[trO ((gt r.1 i).map fun _=>A0o ws rs rd i)]:=by rw[List.range_succ,O5];rfl
   rw[st1]
   rw[B0g tvt]
   cases e:gt r.1 i with
   | none=>
    refine J0 ?_
    exact⟨sm,by rw[M4,hl'];rfl,fp++([]++[]),Tf.append (.cons .non .nil),by simpa using nd,fun b hb=>nw b (by simpa using hb)⟩
   | some x=>
    refine G6 ?_
    have htr:=C12 ok h0 hb he hR hlen hrd e
    refine⟨_,rfl,_,rfl,_,rfl,.inr (.inl ⟨af,_,1,_,rfl,rfl,SqT.of (sm _ _ ef),rfl,_,rfl,?_⟩)⟩
    refine⟨fun _=>True,.ref ll,.ref ar,_,m,ws,rs,rd,i,rfl,ThV.mv (fun b o _ e=>⟨trivial,sm _ _ (s1 _ _ e)⟩) (show ThV _ H (.ref ll) (E8 m ws) from tl),ThV.mv (fun b o _ e=>⟨trivial,sm _ _ e⟩) tf1,ThV.mv (fun b o _ e=>⟨trivial,sm _ _ e⟩) tf2,⟨hi,ok,hok,by omega,by rw[hrd.len];exact htr.1,fun r hr=>by have:=(hrd.few r hr).1;omega⟩,fun v H'' fp' s2 tv nd'=>?_⟩
    obtain⟨tv2,nw2⟩:=tv.early (fun b o e=>sm _ _ (s1 _ _ e)) s2
    refine⟨fun b o e=>s2 _ _ (sm _ _ e),by rw[M4,hl'];rfl,fp++(fp'++[]),(Tf.mvm fun b o g e _=>⟨g,s2 _ _ e⟩).append (.cons tv2 .nil),?_,fun b hb=>?_⟩
    ·rw[n6]
     refine A65.mpr ⟨nd,nd',fun b hb c hc z=>?_⟩
     subst z
     obtain⟨_,xs,ex⟩:=Tf.mem b hb
     rw[nw2 b hc] at ex;cases ex
    ·rcases O9.mp hb with h | h
     ·exact nw b h
     ·have:=nw2 b (by simpa using h)
      cases z:H1 b with
      | none=>rfl
      | some o=>rw[sm _ _ z] at this;cases this
  rintro ys H2 ⟨sm,hl',fp,Tf,nd,nw⟩ p hp
  have k2:∀b o,H2 b=some o->upd H2 p (.lst ys) b=some o:=fun b o e=>by rw[C1 (N7 e hp)];exact e
  have S:Same H (upd H2 p (.lst ys)):=fun b o e=>k2 _ _ (sm _ _ (s1 _ _ e))
  have pn:H p=none:=by
   cases z:H p with
   | none=>rfl
   | some o=>rw[sm _ _ (s1 _ _ z)] at hp;cases hp
  refine told (.list (((P5 m).map fun k=>(gt r.1 k).map fun _=>A0o ws rs rd k).map trO)) (.ref p) _ (p::fp) (q r.1 ((P5 m).map fun k=>(gt r.1 k).map fun _=>A0o ws rs rd k) hL hN ⟨by rw[D5,o7],fun p hp e=>by rw[M7,B2j hp];show some ((gt r.1 p).map _)=_;rw[e];rfl,fun p x e=>?_⟩) (.lst (.inl pn) E4 ?_) (A0s.mpr ⟨fun hb=>?_,nd⟩) (Kq.same S) (hq.same S)
  ·have hp:p < m:=by
    by_cases h:p < m
    ·exact h
    ·rw[A35 (by rw[hL.tab.len];omega)] at e;cases e
   exact⟨A0o ws rs rd p,by rw[M7,B2j hp];show some ((gt r.1 p).map _)=_;rw[e];rfl,(C12 ok h0 hb he hR hlen hrd e).2⟩
  ·rw[p5]
   exact Tf.mvm fun b o g e _=>⟨g,k2 _ _ e⟩
  ·obtain⟨_,xs,ex⟩:=Tf.mem p hb
   rw[hp] at ex;cases ex
end
def D0q:DSp:=fun ds Q=>∃(st:Int) (cs:List Int),ds=[.int st,.list (M1 cs)]/\0<=st/\Q (Z5 (fxF st cs))
def D0r:DSp:=fun ds Q=>∃(e:Ef) (n:Int) (o:Option Int),ds=[Z5 e,.int n,oD o]/\(∀lo g tp,e=some (lo,g,tp)->-18000000000000000000<=g/\g<=18000000000000000000)/\Q (oD (B0y e n o))
def D0s:DSp:=fun ds Q=>∃(m:Nat) (ws:List Wy) (st x y:Int) (p q:Nat) (ps:List Pt),ds=[E8 m ws,.int st,.int (p:Nat),.int x,.list (ps.map G8)]/\J8 m ws/\0<=x/\x<=st/\Trp ws p ps q/\(∀pt∈ps,pt.1.length<=18)/\V6 ws st (some x) ps=some y/\Q (.list [.int (q:Nat),.int y])
theorem B10 {st:Int} {cs:List Int}:∀(n:Nat) (o:Option Int),itF st cs n o=itN st cs n o
 | 0,_=>rfl
 | n + 1,o=>B10 n _
theorem B6m {ws:List Wy} {st:Int}:∀ps:List Pt,V6 ws st none ps=none
 | []=>rfl
 | p::ps=>by
  show V6 ws st (itF st (chs ws p.1) p.2.toNat none) ps=none
  rw[B10,A7t];exact B6m ps
theorem C15 {st:Int}:∀cs:List Int,foF st none cs=none
 | []=>rfl
 | c::cs=>by
  show foF st (V1 none (W7 st c)) cs=none
  exact C15 cs
theorem D0t {st:Int} {e:Int×Int×Int} {c:Int} {cs:List Int}:foF st (some e) (c::cs)=foF st (V1 (some e) (W7 st c)) cs:=rfl
theorem C16 {B:Int}:∀{cs:List Int},(∀c∈cs,-B<=c/\c<=B)->-((cs.length:Int) * B)<=cs.sum/\cs.sum<=(cs.length:Int) * B
 | [],_=>by simp
 | c::cs,h=>by
  have:=C16 (cs:=cs) fun d hd=>h d (B6 _ hd)
  have h1:=h c C0
  rw[B7i,K8,B2n,A8e]
  omega
theorem D0u {m:Nat} {ws:List Wy} (ok:J8 m ws) (n:Nat):-1000000000000000000<=V2 ws n:=by
 unfold V2
 split
 ·rename_i w hw;exact ok.lo w (O2 hw)
 ·decide
theorem D0v {m:Nat} {ws:List Wy} (ok:J8 m ws) {st:Int} {ns:List Nat} (hn:ns.length<=18) {lo g tp:Int} (h:fxF st (chs ws ns)=some (lo,g,tp)):-18000000000000000000<=g/\g<=18000000000000000000:=by
 have e:=C0h h
 simp only at e
 have b:=C16 (B:=1000000000000000000) (cs:=chs ws ns) fun c hc=>by
  obtain⟨n,_,rfl⟩:=S5.mp hc
  exact⟨D0u ok n,C1u ok n⟩
 have l:((chs ws ns).length:Int)<=18:=by unfold chs;rw[D5];omega
 rw[e]
 have l0:(0:Int)<=((chs ws ns).length:Int):=by omega
 generalize ((chs ws ns).length:Int)=L at *
 omega
section
variable {P:Program} {w:World} {K:B3} {mg:Str->Option Value} {base:Heap}
theorem C17 (T:Txt K mg):D0 P w K mg base CX0 1 T.f_law_is_whole.a T.f_law_is_whole.d ["_law_thing"] (spD [.sh] B6d):=by
 refine G1 T.f_law_is_whole.F C8r rfl (fun C cdv A outer s H E hr=>⟨_,(@B7 _ _ _ _ (@C8 _ _ _ _ _ (@A22 _ _ _ _ _ _ _ _ (A04 B9n (G4 A0b rfl T.n_isinstance A0a (A4 (pv 0) (A4 (p7 (v:=V.ty "int") rfl T.n_int A8t rfl) B8 A0) A0) (he:=A0) (hpl:=(A2 A0 A3)))) (A0z (B0f (A04 B9o (G4 A0b rfl T.n_isinstance A0a (A4 (pv 0) (A4 (p7 (v:=V.ty "bool") rfl T.n_bool B8t rfl) B8 A0) A0) (he:=A0) (hpl:=(A2 A0 A3))))))))),fun ds Q hl h=>?_⟩)
 obtain⟨d,rfl,q⟩:=h
 left
 unfold A1d at q
 cases d <;> exact q
theorem D0w (T:Txt K mg):D0 P w K mg base CX0 1 T.f_effect.a T.f_effect.d ["_law_store_here", "_law_changes"] (spD [.sh,.sh] D0q):=by
 refine G1 T.f_effect.F A70 rfl (fun C cdv A outer s H E hr=>⟨_,(@D3 _ _ _ _ _ _ (C7f (C5j (i0:=2) (i1:=3) (i2:=4) rfl A70.nd rfl rfl rfl (by decide) (by decide) (by decide) rfl rfl rfl (A7 A6 (A7 A6 (A7 (A1 (pv 0)) C6 A0) F4) F4) (by rfl))) (@D3 _ _ _ _ _ _ (@T7 _ _ _ _ (@V4 _ _ _ _ _ _ (@Q4 _ _ _ _ _ _ _ _ O6 rfl (b9 (pv 1)) (Z1 (J2 (i:=5) A70.nd rfl (A8 rfl))) (@D3 _ _ _ _ _ _ (T7 (J1 (E9 X6 A0c (E2 L3 N6 (A1 (pv 4)) (A1 (pv 5))) A6 (C9 _))
   (B7 (C8 F6))
   J5)) (@D3 _ _ _ _ _ _ (E3 (B9 (i:=2) A70.nd rfl (A8 rfl) (N9 B3x (G4 (B25 rfl) rfl T.n_max B3k (A7 (A1 (pv 2)) (A7 (E2 A1r A29 (A00 (A1 (pv 5))) (A1 (pv 3))) C6 F5) A0) (he:=A0) (hpl:=(A2 F5 A3)))))) (@D3 _ _ _ _ _ _ (E3 (B9 (i:=3) A70.nd rfl (A8 rfl) (E2 L3 N6 (A1 (pv 3)) (A1 (pv 5))))) (B7 (E3 (B9 (i:=4) A70.nd rfl (A8 rfl) (N9 j3 (G4 (g7 rfl) rfl T.n_min j0 (A7 (A1 (pv 0)) (A7 (E2 L3 N6 (A1 (pv 4)) (A1 (pv 5))) C6 F5) A0) (he:=A0) (hpl:=(A2 F5 A3)))))))))) (by intro _;rfl)))) (B7 (C8 (P4 (A7 (A1 (pv 2)) (A7 (A1 (pv 3)) (A7 (A1 (pv 4)) C6 A0) A0) A0)))))),fun ds Q hl h=>?_⟩)
 obtain⟨st,cs,rfl,h0,q⟩:=h
 left
 (try unfold C0m)
 left
 refine go ?_
 (try unfold P8);(try unfold Y9)
 refine⟨fun ρ'=>∃(lo g tp:Int) (z:Sl),ρ'=[Sl.sh (.int st),Sl.sh (.list (M1 cs)),Sl.sh (.int lo),Sl.sh (.int g),Sl.sh (.int tp),z]/\fxF st cs=some (lo,g,tp),?_,?_⟩
 ·array_get_dec
  refine⟨fun r ρ=>∃(R:List Int) (lo g tp:Int) (z:Sl),r=M1 R/\ρ=[Sl.sh (.int st),Sl.sh (.list (M1 cs)),Sl.sh (.int lo),Sl.sh (.int g),Sl.sh (.int tp),z]/\EOk st (lo,g,tp)/\foF st (some (lo,g,tp)) R=fxF st cs,⟨cs,0,0,st,_,rfl,rfl,C0a h0,rfl⟩,?_,?_⟩
  ·rintro x r ρ ⟨R,lo,g,tp,z,h1,rfl,hE,hF⟩
   cases R with
   | nil=>cases h1
   | cons c R=>
    cases (show x::r=PyData.int c::M1 R from h1)
    rw[D0t,C0r hE] at hF
    sizeOf_list_dec
    (try unfold P8);(try unfold Y9)
    refine⟨fun ρ'=>¬ tp + c < 0/\ρ'=[Sl.sh (.int st),Sl.sh (.list (M1 cs)),Sl.sh (.int lo),Sl.sh (.int g),Sl.sh (.int tp),Sl.sh (.int c)],?_,?_⟩
    ·left
     by_cases c1:tp + c < 0
     ·rw[decide_eq_true c1]
      rw[if_pos c1,C15] at hF
      rw[<-hF] at q
      exact J0 q
     ·rw[decide_eq_false c1]
      exact G6 ⟨c1,rfl⟩
    rintro ρ ⟨c1,rfl⟩
    rw[if_neg c1] at hF
    have hE2:OkE st (V1 (some (lo,g,tp)) (W7 st c)):=OkE.join (show OkE st (some (lo,g,tp)) from hE) (C0b h0 c)
    rw[C0r hE,if_neg c1] at hE2
    refine go ?_;left
    refine go ?_;left
    refine go ?_;left
    exact⟨R,_,_,_,_,rfl,rfl,hE2,hF⟩
  ·rintro ρ ⟨R,lo,g,tp,z,h1,rfl,hE,hF⟩
   cases R with
   | cons c R=>cases h1
   | nil=>exact⟨lo,g,tp,z,rfl,hF.symm⟩
 rintro ρ ⟨lo,g,tp,z,rfl,hF⟩
 rw[hF] at q
 refine go ?_;left
 exact⟨by show 3<=1000;decide,q⟩
theorem D0x (T:Txt K mg):D0 P w K mg base CX0 1 T.f_times.a T.f_times.d ["_law_effect_here", "_law_times_here", "_law_level"] (spD [.sh,.sh,.sh] D0r):=by
 refine G1 T.f_times.F A9c rfl (fun C cdv A outer s H E hr=>⟨_,(@F7 _ _ _ _ _ _ (J1 (PW.pt (W4 (E9 U8 Y0 (A1 (pv 0)) F6 (C9 _)) (W4 (E9 U8 Y0 (A1 (pv 2)) F6 (C9 _)) (j2 (E9 X6 A0c (A1 (pv 2)) (C7 (pv 0) A6 (fun _ _=>rfl)) (C9 _))))))
   (B7 (C8 F6))
   J5) (@F7 _ _ _ _ _ _ (A81 (T9 (A1 (pv 0)) (C6l (A0w (n:=3) rfl (N2 (J2 (i:=3) A9c.nd rfl (A8 rfl)) (N2 (J2 (i:=4) A9c.nd rfl (A8 rfl)) (N2 (J2 (i:=5) A9c.nd rfl (A8 rfl)) p8))))))) (@F7 _ _ _ _ _ _ (@J1 _ _ _ _ _ _ _ _ _ (PW.pt (@A1w _ _ _ _ _ _ _ _ (E9 v7 A1y (A1 (pv 1)) A6 (C9 _)) (A1w (E9 B22 B89 (A1 (pv 4)) A6 (C9 _)) (A4z (E9 X6 A0c (N9 j3 (G4 (g7 rfl) rfl T.n_min j0 (A7 (E2 L3 N6 (A1 (pv 2)) (A1 (pv 4))) (A7 (A1 (pv 5)) C6 A0) F5) (he:=F5) (hpl:=(A2 A0 A3)))) (A1 (pv 3)) (C9 _)))))) (B7 (C8 F6)) J5) (@F7 _ _ _ _ _ _ (@J1 _ _ _ _ _ _ _ _ _ (E9 X6 A0c (A1 (pv 4)) A6 (C9 _)) (@F7 _ _ _ _ _ _ (@E3 _ _ _ _ _ (@B9 _ _ 6 _ _ _ _ A9c.nd rfl (A8 rfl) (N9 j3 (G4 (g7 rfl) rfl T.n_min j0 (A7 (E2 L3 N6 (A1 (pv 2)) (E2 g6 A3a (E2 A1r A29 (A1 (pv 1)) A6) (A1 (pv 4)))) (A7 (E2 L3 N6 (A1 (pv 5)) (E2 g6 A3a (E2 A1r A29 (A1 (pv 1)) A6) (A1 (pv 4)))) C6 F5) F5) (he:=F5) (hpl:=(A2 F5 A3)))) (by rfl) (by first | exact .inl rfl | exact .inr rfl | assumption))) (@F7 _ _ _ _ _ _ (J1 (PW.pt (A1w (E9 v7 A1y (A1 (pv 1)) A6 (C9 _)) (A4z (E9 X6 A0c (A1 (pv 6)) (A1 (pv 3)) (C9 _)))))
   (B7 (C8 F6))
   J5) (B7 (C8 (N9 j3 (G4 (g7 rfl) rfl T.n_min j0 (A7 (E2 L3 N6 (A1 (pv 2)) (E2 g6 A3a (A1 (pv 1)) (A1 (pv 4)))) (A7 (E2 L3 N6 (A1 (pv 5)) (E2 g6 A3a (E2 A1r A29 (A1 (pv 1)) A6) (A1 (pv 4)))) C6 F5) F5) (he:=F5) (hpl:=(A2 F5 A3)))))))) J5) (B7 (C8 (N9 j3 (G4 (g7 rfl) rfl T.n_min j0 (A7 (E2 L3 N6 (A1 (pv 2)) (E2 g6 A3a (A1 (pv 1)) (A1 (pv 4)))) (A7 (A1 (pv 5)) C6 A0) F5) (he:=F5) (hpl:=(A2 A0 A3)))))))))),fun ds Q hl h=>?_⟩)
 obtain⟨e,n,o,rfl,hg,q⟩:=h
 cases e with
 | none=>
  right
  exact q
 | some r=>
  obtain⟨lo,g,tp⟩:=r
  cases o with
  | none=>
   right
   exact q
  | some x=>
   unfold B0y at q
   dsimp only at q
   have hm:∀a,A7a a g:=fun a=>.inr (by have:=hg lo g tp rfl;omega)
   right
   by_cases c1:x < lo
   ·rw[decide_eq_true c1]
    rw[if_pos c1] at q
    exact J0 q
   ·rw[decide_eq_false c1]
    rw[if_neg c1] at q
    refine G6 ?_
    by_cases c2:1 < n
    ·rw[decide_eq_true c2]
     refine J0 ?_
     by_cases c3:0<=g
     ·rw[decide_eq_true c3,decide_eq_false (show ¬ g < 0 by omega)]
      refine J0 ?_
      by_cases c4:(if tp < x + g then tp else x + g) < lo
      ·rw[decide_eq_true c4]
       rw[if_pos ⟨c2,c3,c4⟩] at q
       exact J0 q
      ·rw[decide_eq_false c4]
       rw[if_neg (fun z=>c4 z.2.2),if_neg (by omega)] at q
       exact G6 (G6 ⟨hm _,q⟩)
     ·rw[decide_eq_false c3,decide_eq_true (show g < 0 by omega)]
      rw[if_neg (fun z=>c3 z.2.1),if_pos (by omega)] at q
      refine G6 (J0 ⟨hm _,hm _,J0 ?_⟩)
      by_cases c4:(if tp + (n - 2) * g < x + (n - 1) * g then tp + (n - 2) * g else x + (n - 1) * g) < lo
      ·rw[decide_eq_true c4]
       rw[if_pos ⟨c2,c4⟩] at q
       exact J0 q
      ·rw[decide_eq_false c4]
       rw[if_neg (fun z=>c4 z.2)] at q
       exact G6 ⟨hm _,hm _,q⟩
    ·rw[decide_eq_false c2]
     rw[if_neg (fun z=>c2 z.1)] at q
     refine G6 ?_
     by_cases c3:g < 0
     ·rw[decide_eq_true c3]
      rw[if_pos c3,if_neg (fun z=>c2 z.1)] at q
      exact J0 ⟨hm _,hm _,G6 ⟨hm _,hm _,q⟩⟩
     ·rw[decide_eq_false c3]
      rw[if_neg c3] at q
      exact G6 ⟨hm _,q⟩
end
theorem D0y {ns:List Nat} (h:ns≠[]):PyData.eqv (.list (D4 ns)) (.list [])=false:=by
 cases ns with
 | nil=>exact absurd rfl h
 | cons n ns=>rfl
theorem B6n:∀ns:List Nat,PyData.canLayAll0 (D4 ns)=true
 | []=>rfl
 | n::ns=>by
  show (PyData.canLay0 (.int (n:Nat))&&PyData.canLayAll0 (D4 ns))=true
  rw[B6n ns];rfl
section
variable {P:Program} {w:World} {K:B3} {mg:Str->Option Value} {base:Heap}
theorem D0z (T:Txt K mg):D0 P w K mg base CX0 3 T.f_arrive.a T.f_arrive.d ["_law_land_here", "_law_store_here", "_law_place", "_law_level", "_law_trip"] (spD [.sh,.sh,.sh,.sh,.sh] D0s):=by
 have G_law_is_whole:=@C17 P w K mg base T
 have b_law_is_whole:=T.f_law_is_whole.b
 have G_effect:=@D0w P w K mg base T
 have b_effect:=T.f_effect.b
 have G_times:=@D0x P w K mg base T
 have b_times:=T.f_times.b
 refine G1 T.f_arrive.F A4f rfl (fun C cdv A outer s H E hr=>⟨_,(@D3 _ _ _ _ _ _ (T7 (J1 (Y8 (W3 (A04 A8y (G4 A0b rfl T.n_isinstance A0a (A4 (pv 4) (A4 (p7 (v:=V.ty "list") rfl T.n_list W1 rfl) B8 A0) A0) (he:=A0) (hpl:=(A2 A0 A3))))))
   (B7 (C8 F6))
   J5)) (@D3 _ _ _ _ _ _ (@T7 _ _ _ _ (@V4 _ _ _ _ _ _ (@Q4 _ _ _ _ _ _ _ _ O6 rfl (b9 (pv 4)) (Z1 (J2 (i:=5) A4f.nd rfl (A8 rfl))) (@D3 _ _ _ _ _ _ (@T7 _ _ _ _ (@J1 _ _ _ _ _ _ _ _ _ (PW.pt (@W4 _ _ _ _ _ _ _ _ (Y8 (W3 (A04 B9p (G4 A0b rfl T.n_isinstance A0a (A4 (pv 5) (A4 (p7 (v:=V.ty "tuple") rfl T.n_tuple B8u rfl) B8 A0) A0) (he:=A0) (hpl:=(A2 A0 A3)))))) (j2 (E9 (Y7 (K4 hr)) L9 (W5 (G4 Q5 rfl T.n_len Q6 (A4 (pv 5) B8 A0) (he:=A0) (hpl:=A3))) A6 (C9 _))))) (B7 (C8 F6)) J5)) (@D3 _ _ _ _ _ _ (@T7 _ _ _ _ (@J1 _ _ _ _ _ _ _ _ _ (PW.pt (@W4 _ _ _ _ _ _ _ _ (Y8 (W3 (C59 A8y (G4 A0b rfl T.n_isinstance A0a (A4 (C7 (pv 5) A6 (fun _ _=>rfl)) (A4 (p7 (v:=V.ty "list") rfl T.n_list W1 rfl) B8 A0) B0) (he:=B0) (hpl:=(A2 A0 A3)))))) (j2 (E9 (P2 (K4 hr)) L9 (C7 (pv 5) A6 (fun _ _=>rfl)) (F1 (K0 C6)) (C9 _))))) (B7 (C8 F6)) J5)) (@D3 _ _ _ _ _ _ (E3 (B9 (i:=6) A4f.nd rfl (A8 rfl) (A1 (pv 2)))) (@D3 _ _ _ _ _ _ (Z0 (B9 (i:=7) A4f.nd rfl (A8 rfl) (K0 C6))) (@D3 _ _ _ _ _ _ (@T7 _ _ _ _ (@V4 _ _ _ _ _ _ (@Q4 _ _ _ _ _ _ _ _ O6 rfl (A07 (C7 (pv 5) A6 (fun _ _=>rfl))) (Z1 (J2 (i:=8) A4f.nd rfl (A8 rfl))) (@D3 _ _ _ _ _ _ (@T7 _ _ _ _ (@J1 _ _ _ _ _ _ _ _ _ (PW.pt (@W4 _ _ _ _ _ _ _ _ (Y8 (W3 (C4 (B4 G_law_is_whole (hr.mono (by decide)) rfl T.f_law_is_whole.m T.f_law_is_whole.F.kp b_law_is_whole .nil B5 (A5 (A1 (pv 8)) C3 A0) (he:=A0) (hpl:=A3))))) (j2 (Y8 (B3w A4u X6 A6 (A1 (pv 8)) (N9 B9f (G4 Q5 rfl T.n_len Q6 (A7 (C7 (pv 0) A6 (fun _ _=>rfl)) C6 B0) (he:=B0) (hpl:=A3)))))))) (B7 (C8 F6)) J5)) (@D3 _ _ _ _ _ _ (T7 (J1 (E9 (Y7 (K4 hr)) L9 (L5 (L5 (C7 (pv 0) A6 (fun _ _=>rfl)) (A1 (pv 8)) (fun _ _=>rfl)) A6 (fun _ _=>rfl)) (A1 (pv 6)) (C9 _))
   (B7 (C8 F6))
   J5)) (@D3 _ _ _ _ _ _ (A08 (S8 (Y5 V3 o8 o9 i7 (pv 7) (A4 (L5 (L5 (C7 (pv 0) A6 (fun _ _=>rfl)) (A1 (pv 8)) (fun _ _=>rfl)) A6 (fun _ _=>rfl)) B8 B0)))) (B7 (E3 (B9 (i:=6) A4f.nd rfl (A8 rfl) (L5 (L5 (C7 (pv 0) A6 (fun _ _=>rfl)) (A1 (pv 8)) (fun _ _=>rfl)) A6 (fun _ _=>rfl)))))))) (by intro _;rfl)))) (@D3 _ _ _ _ _ _ (@T7 _ _ _ _ (@J1 _ _ _ _ _ _ _ _ _ (PW.pt (@W4 _ _ _ _ _ _ _ _ (Y8 (W3 (C4 (B4 G_law_is_whole (hr.mono (by decide)) rfl T.f_law_is_whole.m T.f_law_is_whole.F.kp b_law_is_whole .nil B5 (A5 (C7 (pv 5) A6 (fun _ _=>rfl)) C3 B0) (he:=B0) (hpl:=A3))))) (W4 (E9 X6 A0c (C7 (pv 5) A6 (fun _ _=>rfl)) A6 (C9 _)) (j2 (E9 v7 A1y (C7 (pv 5) A6 (fun _ _=>rfl)) (E2 v5 A02 A6 A6) (C9 _)))))) (B7 (C8 F6)) J5)) (@D3 _ _ _ _ _ _ (T7 (J1 (PW.pt (A1w (E9 v7 A1y (C7 (pv 5) A6 (fun _ _=>rfl)) A6 (C9 _)) (A4z (E9 (Y7 (K4 hr)) L9 (A1 (pv 6)) (A1 (pv 2)) (C9 _)))))
   (B7 (C8 F6))
   J5)) (@D3 _ _ _ _ _ _ (@E3 _ _ _ _ _ (@B9 _ _ 3 _ _ _ _ A4f.nd rfl (A8 rfl) (@C4 _ _ _ _ _ _ _ (@B4 _ _ _ _ _ _ _ _ _ _ _ _ _ _ _ _ G_times (hr.mono (by decide)) rfl T.f_times.m T.f_times.F.kp b_times .nil B5 (A5 (C4 (B4 G_effect (hr.mono (by decide)) rfl T.f_effect.m T.f_effect.F.kp b_effect .nil B5 (A5 (A1 (pv 1)) (A5 (A1 (pv 7)) C3 A0) A0) (he:=A0) (hpl:=(A2 A0 A3)))) (A5 (C7 (pv 5) A6 (fun _ _=>rfl)) (A5 (A1 (pv 3)) C3 A0) B0) E5) (by decide) E5 ((A2 B0 (A2 A0 A3))))) (by rfl) (by first | exact .inl rfl | exact .inr rfl | assumption))) (B7 (E3 (B9 (i:=2) A4f.nd rfl (A8 rfl) (A1 (pv 6))))))))))))) (by intro _;rfl)))) (B7 (C8 (F1 (K0 (A7 (A1 (pv 2)) (A7 (A1 (pv 3)) C6 A0) A0))))))),fun ds Q hl h=>?_⟩)
 obtain⟨m,ws,st,x,y,p,q0,ps,rfl,ok,x0,x1,ht,hth,ha,q⟩:=h
 (try unfold P8);(try unfold Y9)
 refine⟨fun ρ'=>ρ'=[Sl.sh (E8 m ws),Sl.sh (.int st),Sl.sh (.int (p:Nat)),Sl.sh (.int x),Sl.sh (.list (ps.map G8)),.no,.no,.no,.no],?_,?_⟩
 ·left
  exact G6 rfl
 rintro ρ rfl
 refine go ?_
 (try unfold P8);(try unfold Y9)
 refine⟨fun ρ'=>∃z5 z6 z7 z8:Sl,ρ'=[Sl.sh (E8 m ws),Sl.sh (.int st),Sl.sh (.int (q0:Nat)),Sl.sh (.int y),Sl.sh (.list (ps.map G8)),z5,z6,z7,z8],?_,?_⟩
 ·array_get_dec
  refine⟨fun r ρ=>∃(R:List Pt) (p':Nat) (x':Int) (z5 z6 z7 z8:Sl),r=R.map G8/\ρ=[Sl.sh (E8 m ws),Sl.sh (.int st),Sl.sh (.int (p':Nat)),Sl.sh (.int x'),Sl.sh (.list (ps.map G8)),z5,z6,z7,z8]/\Trp ws p' R q0/\V6 ws st (some x') R=some y/\0<=x'/\x'<=st/\∀pt∈R,pt.1.length<=18,⟨ps,p,x,_,_,_,_,rfl,rfl,ht,ha,x0,x1,hth⟩,?_,?_⟩
  ·rintro u r ρ ⟨R,p',x',z5,z6,z7,z8,h1,rfl,ht',ha',x0',x1',hth'⟩
   cases R with
   | nil=>cases h1
   | cons pt R=>
    cases (show u::r=G8 pt::R.map G8 from h1)
    have hfew:=hth' pt C0
    cases ht' with
    | @cons _ q1 _ _ _ hp hne h1' h24 hor htr=>
    sizeOf_list_dec
    (try unfold P8);(try unfold Y9)
    refine⟨fun ρ'=>ρ'=[Sl.sh (E8 m ws),Sl.sh (.int st),Sl.sh (.int (p':Nat)),Sl.sh (.int x'),Sl.sh (.list (ps.map G8)),Sl.sh (G8 pt),z6,z7,z8],?_,?_⟩
    ·right
     refine⟨rfl,rfl,M3 _ _,?_⟩
     rw[show PyData.eqv (.int (((0 + 1 + 1:Nat)):Int)) (.int 2)=true from rfl]
     exact G6 rfl
    rintro ρ rfl
    try dsimp only
    refine go ?_
    (try unfold P8);(try unfold Y9)
    refine⟨fun ρ'=>ρ'=[Sl.sh (E8 m ws),Sl.sh (.int st),Sl.sh (.int (p':Nat)),Sl.sh (.int x'),Sl.sh (.list (ps.map G8)),Sl.sh (G8 pt),z6,z7,z8],?_,?_⟩
    ·right
     refine⟨by decide,by rw[PyData.canLay0];exact B6n _,rfl,by show min _ 1<=64;omega,?_⟩
     rw[D0y hne]
     exact G6 rfl
    rintro ρ rfl
    refine go ?_;left
    refine go ?_;left
    refine⟨by decide,?_⟩
    refine go ?_
    (try unfold P8);(try unfold Y9)
    refine⟨fun ρ'=>∃z8:Sl,ρ'=[Sl.sh (E8 m ws),Sl.sh (.int st),Sl.sh (.int (p':Nat)),Sl.sh (.int x'),Sl.sh (.list (ps.map G8)),Sl.sh (G8 pt),Sl.sh (.int (q1:Nat)),Sl.ow (M1 (chs ws pt.1)),z8],?_,?_⟩
    ·array_get_dec
     refine⟨fun r ρ=>∃(ns dn:List Nat) (h':Nat) (z8:Sl),r=D4 ns/\ρ=[Sl.sh (E8 m ws),Sl.sh (.int st),Sl.sh (.int (p':Nat)),Sl.sh (.int x'),Sl.sh (.list (ps.map G8)),Sl.sh (G8 pt),Sl.sh (.int (h':Nat)),Sl.ow (M1 (chs ws dn)),z8]/\Pth ws h' ns q1/\dn++ns=pt.1,⟨pt.1,[],p',_,rfl,rfl,hp,rfl⟩,?_,?_⟩
     ·rintro v r ρ ⟨ns,dn,h',z8,h2,rfl,hp',hd⟩
      cases ns with
      | nil=>cases h2
      | cons n ns=>
       cases (show v::r=PyData.int (n:Nat)::D4 ns from h2)
       have hdl:dn.length<=18:=by
        have:=congrArg A2o hd
        rw[M4] at this
        omega
       cases hp' with
       | @cons _ w _ _ hw hp2=>
       have hlt:=(m9.mp hw).1
       have hwc:V2 ws n=w.2.2:=by unfold V2;rw[hw]
       sizeOf_list_dec
       (try unfold P8);(try unfold Y9)
       refine⟨fun ρ'=>ρ'=[Sl.sh (E8 m ws),Sl.sh (.int st),Sl.sh (.int (p':Nat)),Sl.sh (.int x'),Sl.sh (.list (ps.map G8)),Sl.sh (G8 pt),Sl.sh (.int (w.1:Nat)),Sl.ow (M1 (chs ws dn)),Sl.sh (.int (n:Nat))],?_,?_⟩
       ·right
        refine⟨_,rfl,?_⟩
        rw[show A1d (.int (n:Nat))=true from rfl]
        right
        rw[decide_eq_true (show (0:Int)<=((n:Nat):Int) by omega),decide_eq_true (show ((n:Nat):Int) < (((ws.map R9).length:Nat):Int) by rw[D5];omega)]
        exact G6 rfl
       rintro ρ rfl
       try dsimp only
       refine go ?_
       (try unfold P8);(try unfold Y9)
       refine⟨fun ρ'=>ρ'=[Sl.sh (E8 m ws),Sl.sh (.int st),Sl.sh (.int (p':Nat)),Sl.sh (.int x'),Sl.sh (.list (ps.map G8)),Sl.sh (G8 pt),Sl.sh (.int (w.1:Nat)),Sl.ow (M1 (chs ws dn)),Sl.sh (.int (n:Nat))],?_,?_⟩
       ·right
        rw[A6q hw]
        right
        refine⟨rfl,rfl,M3 _ _,?_⟩
        rw[Q2,beq_self_eq_true]
        exact G6 rfl
       rintro ρ rfl
       refine go ?_;right
       rw[A6q hw]
       right
       refine⟨by unfold M1 chs;rw[D5,D5];omega,?_⟩
       refine go ?_;right
       rw[A6q hw]
       right
       rw[show M1 (chs ws dn)++[PyData.int w.2.2]=M1 (chs ws (dn++[n])) by unfold M1 chs;rw[O5,O5,<-hwc];rfl]
       exact⟨ns,dn++[n],w.2.1,_,rfl,rfl,hp2,by rw[<-hd,A1h];rfl⟩
     ·rintro ρ ⟨ns,dn,h',z8,h2,rfl,hp',hd⟩
      cases ns with
      | cons n ns=>cases h2
      | nil=>
       cases hp'
       rw[n6] at hd
       rw[hd]
       exact⟨_,rfl⟩
    rintro ρ ⟨z8,rfl⟩
    refine go ?_
    (try unfold P8);(try unfold Y9)
    refine⟨fun ρ'=>ρ'=[Sl.sh (E8 m ws),Sl.sh (.int st),Sl.sh (.int (p':Nat)),Sl.sh (.int x'),Sl.sh (.list (ps.map G8)),Sl.sh (G8 pt),Sl.sh (.int (q1:Nat)),Sl.ow (M1 (chs ws pt.1)),z8],?_,?_⟩
    ·right
     refine⟨_,rfl,?_⟩
     rw[show A1d (.int pt.2)=true from rfl]
     right
     rw[decide_eq_false (show ¬ pt.2 < 1 by omega)]
     right
     refine⟨⟨by decide,by decide,by decide⟩,?_⟩
     rw[decide_eq_false (show ¬ 10 ^ A9u 24 < pt.2 from Int.not_lt.mpr h24)]
     exact G6 rfl
    rintro ρ rfl
    refine go ?_
    (try unfold P8);(try unfold Y9)
    refine⟨fun ρ'=>ρ'=[Sl.sh (E8 m ws),Sl.sh (.int st),Sl.sh (.int (p':Nat)),Sl.sh (.int x'),Sl.sh (.list (ps.map G8)),Sl.sh (G8 pt),Sl.sh (.int (q1:Nat)),Sl.ow (M1 (chs ws pt.1)),z8],?_,?_⟩
    ·right
     by_cases c:1 < pt.2
     ·have e:q1=p':=by
       rcases hor with z | z
       ·omega
       ·exact z
      rw[decide_eq_true c]
      refine J0 ⟨rfl,rfl,M3 _ _,?_⟩
      rw[Q2,e,beq_self_eq_true]
      exact G6 rfl
     ·rw[decide_eq_false c]
      exact G6 rfl
    rintro ρ rfl
    refine go ?_;left
    refine⟨st,chs ws pt.1,rfl,by omega,?_⟩
    right
    have ha2:V6 ws st (itF st (chs ws pt.1) pt.2.toNat (some x')) R=some y:=ha'
    obtain⟨x2,hx2⟩:∃x2,itF st (chs ws pt.1) pt.2.toNat (some x')=some x2:=by
     cases e:itF st (chs ws pt.1) pt.2.toNat (some x') with
     | none=>rw[e,B6m] at ha2;cases ha2
     | some x2=>exact⟨x2,rfl⟩
    obtain⟨e1,e2,e3⟩:=C0u x0' x1' h1' (by rw[<-B10];exact hx2)
    rw[hx2] at ha2
    refine⟨fxF st (chs ws pt.1),pt.2,some x',rfl,fun lo g tp e=>D0v ok hfew e,?_⟩
    rw[e1]
    refine go ?_;right
    exact⟨R,q1,x2,_,_,_,_,rfl,rfl,htr,ha2,e2,e3,fun pt h=>hth' pt (B6 _ h)⟩
  ·rintro ρ ⟨R,p',x',z5,z6,z7,z8,h1,rfl,ht',ha',x0',x1',hth'⟩
   cases R with
   | cons pt R=>cases h1
   | nil=>
    cases ht'
    cases ha'
    exact⟨_,_,_,_,rfl⟩
 rintro ρ ⟨z5,z6,z7,z8,rfl⟩
 refine go ?_;left
 exact⟨by show 2<=1000;decide,q⟩
end
theorem A4i {t u:DS} {D:K2} {ρ:List Sl} (M:List Sl->Prop) (h1:t { D with nx:=M } ρ) (h2:∀ρ',M ρ'->Go (u D) ρ'):P8 (Y9 t) u D ρ:=⟨M,h1,h2⟩
def C18 (g:DG) (tb:DS) (D:K2) (xs:List PyData) (ρ1:List Sl):Prop:=∃I:List PyData->List Sl->Prop,I xs ρ1/\(∀x r ρ,I (x::r) ρ->g x ρ (Blk tb { nx:=I r,ct:=I r,bk:=D.nx,rt:=D.rt }))/\∀ρ,I [] ρ->D.nx ρ
theorem D00 {it:DF} {g:DG} {tb:DS} {D:K2} {ρ:List Sl} (h:it ρ fun xs ρ1=>C18 g tb D xs ρ1):B0p it g tb D ρ:=h
theorem D01 {g:DG} {tb:DS} {D:K2} {xs:List PyData} {ρ1:List Sl} (I:List PyData->List Sl->Prop) (h0:I xs ρ1) (h1:∀x r ρ,I (x::r) ρ->g x ρ (Blk tb { nx:=I r,ct:=I r,bk:=D.nx,rt:=D.rt })) (h2:∀ρ,I [] ρ->D.nx ρ):C18 g tb D xs ρ1:=⟨I,h0,h1,h2⟩
theorem A0p {α:Type} {o:Option α} {d:α} {f:α->Prop} (h:o=some d) (q:f d):bnd o f:=by rw[h];exact q
def D02:DSp:=fun ds Q=>∃d,ds=[d]/\∀r:Int,1<=r->r<=1000000000000000000->Q (.int r)
def D03:DSp:=fun ds Q=>∃(d:PyData) (sc:Int),ds=[d,.int sc]/\0<=sc/\sc<=1000000000000000000/\∀r:Int,-sc<=r->r<=sc->Q (.int r)
def D04:DSp:=fun ds Q=>∃(d:PyData) (sc:Int),ds=[d,.int sc]/\0<=sc/\sc<=1000000000000000000/\∀r:Int,0<=r->r<=100000000000000000000->Q (.int r)
def D05:DSp:=fun ds Q=>∃(d:PyData) (pl wn:Nat) (sc:Int),ds=[d,.int (pl:Nat),.int (wn:Nat),.int sc]/\1<=pl/\pl<=12/\wn<=40/\1<=sc/\sc<=1000000000000000000/\∀m ws,J8 m ws->Q (E8 m ws)
def D06:DSp:=fun ds Q=>∃(d:PyData) (m:Nat) (st:Int),ds=[d,.int (m:Nat),.int st]/\m<=12/\0<=st/\st<=1000000000000000000000/\∀t,G7 m st t->Q (.list (C5 t))
def ODs (st:Int) (d:PyData):Prop:=∃o:Option Int,d=oD o/\∀x,o=some x->0<=x/\x<=st
theorem C19 {st:Int}:∀{ds:List PyData},(∀d∈ds,ODs st d)->∃t:Tb,ds=C5 t/\G7 ds.length st t
 | [],_=>⟨[],rfl,rfl,fun p x e=>by rw[A35 (M6 _)] at e;cases e⟩
 | d::ds,h=>by
  obtain⟨t,rfl,ht⟩:=C19 (ds:=ds) fun e he=>h e (B6 _ he)
  obtain⟨o,rfl,ho⟩:=h d C0
  refine⟨o::t,rfl,⟨by rw[K8,K8,d7],fun p x e=>?_⟩⟩
  cases p with
  | zero=>exact ho x e
  | succ p=>exact ht.bd p x e
theorem lt2 {r:Int} (h0:0<=r) (h1:r < 2):r=0\/r=1:=by omega
section
variable {P:Program} {w:World} {K:B3} {mg:Str->Option Value} {base:Heap}
theorem D07 (T:Txt K mg):D0 P w K mg base CX0 4 T.f_scale.a T.f_scale.d ["_law_hand_here"] (spD [.hd] D02):=by
 have G_draw:=@A1c P w K mg base T
 have b_draw:=T.f_draw.b
 refine G1 T.f_scale.F C8p rfl (fun C cdv A outer s H E hr=>⟨_,(@B7 _ _ _ _ (@C8 _ _ _ _ _ (@L5 _ _ _ _ _ _ _ (F1 (K0 (A7 A6 (A7 A6 (A7 A6 (A7 A6 (A7 (E2 v5 A02 A6 A6) (A7 (E2 v5 A02 A6 A6) C6 F5) F5) F4) F4) F4) F4))) (C4 (B4 G_draw (hr.mono (by decide)) rfl T.f_draw.m T.f_draw.F.kp b_draw .nil B5 (F9 (pv 0) (A5 A6 C3 F4) A0) (he:=A0) (hpl:=(A2 F4 A3)))) (fun _ _=>rfl)))),fun ds Q hl h=>?_⟩)
 obtain⟨d,rfl,q⟩:=h
 left
 refine⟨⟨by decide,by decide,by decide⟩,⟨by decide,by decide,by decide⟩,by decide,rfl,6,rfl,by decide,by decide,fun r r0 r1=>?_⟩
 left
 have hr':r=0\/r=1\/r=2\/r=3\/r=4\/r=5:=by omega
 rcases hr' with rfl | rfl | rfl | rfl | rfl | rfl
 all_goals exact q _ (by decide) (by decide)
theorem D08 (T:Txt K mg):D0 P w K mg base CX0 4 T.f_change.a T.f_change.d ["_law_hand_here", "_law_scale_here"] (spD [.hd,.sh] D03):=by
 have G_draw:=@A1c P w K mg base T
 have b_draw:=T.f_draw.b
 refine G1 T.f_change.F C8q rfl (fun C cdv A outer s H E hr=>⟨_,(B7 (C8 (E2 A1r A29 (C4 (B4 G_draw (hr.mono (by decide)) rfl T.f_draw.m T.f_draw.F.kp b_draw .nil B5 (F9 (pv 0) (A5 (E2 L3 N6 (E2 g6 A3a A6 (A1 (pv 1))) A6) C3 F5) A0) (he:=A0) (hpl:=(A2 F5 A3)))) (A1 (pv 1))))),fun ds Q hl h=>?_⟩)
 obtain⟨d,sc,rfl,s0,s1,q⟩:=h
 left
 refine⟨rfl,.inl ⟨by decide,by decide⟩,2 * sc + 1,rfl,by omega,by omega,fun r r0 r1=>?_⟩
 left
 exact q _ (by omega) (by omega)
theorem D09 (T:Txt K mg):D0 P w K mg base CX0 4 T.f_store.a T.f_store.d ["_law_hand_here", "_law_scale_here"] (spD [.hd,.sh] D04):=by
 have G_draw:=@A1c P w K mg base T
 have b_draw:=T.f_draw.b
 refine G1 T.f_store.F C1d rfl (fun C cdv A outer s H E hr=>⟨_,(@F7 _ _ _ _ _ _ (E3 (B9 (i:=2) C1d.nd rfl (A8 rfl) (C4 (B4 G_draw (hr.mono (by decide)) rfl T.f_draw.m T.f_draw.F.kp b_draw .nil B5 (F9 (pv 0) (A5 A6 C3 F4) A0) (he:=A0) (hpl:=(A2 F4 A3)))))) (@F7 _ _ _ _ _ _ (J1 (E9 (P2 (K4 hr)) L9 (A1 (pv 2)) A6 (C9 _))
   (B7 (C8 (C4 (B4 G_draw (hr.mono (by decide)) rfl T.f_draw.m T.f_draw.F.kp b_draw .nil B5 (F9 (pv 0) (A5 A6 C3 F4) A0) (he:=A0) (hpl:=(A2 F4 A3))))))
   J5) (@F7 _ _ _ _ _ _ (@J1 _ _ _ _ _ _ _ _ _ (E9 (P2 (K4 hr)) L9 (A1 (pv 2)) A6 (C9 _)) (B7 (C8 (L5 (F1 (K0 (A7 (E2 v5 A02 A6 A6) (A7 (E2 v5 A02 A6 A6) C6 F5) F5))) (C4 (B4 G_draw (hr.mono (by decide)) rfl T.f_draw.m T.f_draw.F.kp b_draw .nil B5 (F9 (pv 0) (A5 A6 C3 F4) A0) (he:=A0) (hpl:=(A2 F4 A3)))) (fun _ _=>rfl)))) J5) (@B7 _ _ _ _ (@C8 _ _ _ _ _ (@N9 _ _ _ _ _ _ j3 (@G4 _ _ _ _ _ _ _ _ _ (g7 rfl) rfl T.n_min j0 (A7 (E2 v5 A02 A6 A6) (A7 (C4 (B4 G_draw (hr.mono (by decide)) rfl T.f_draw.m T.f_draw.F.kp b_draw .nil B5 (F9 (pv 0) (A5 (E2 L3 N6 (E2 g6 A3a A6 (A1 (pv 1))) A6) C3 F5) A0) (he:=A0) (hpl:=(A2 F5 A3)))) C6 E5) F5) (by decide) (by decide) F5 ((A2 E5 A3))))))))),fun ds Q hl h=>?_⟩)
 obtain⟨d,sc,rfl,s0,s1,q⟩:=h
 left
 refine⟨rfl,6,rfl,by decide,by decide,fun r r0 r1=>?_⟩
 left
 refine⟨rfl,rfl,M3 _ _,?_⟩
 rw[Q2]
 by_cases c0:r=0
 ·rw[c0,show ((0:Int) == 0)=true from rfl]
  left
  refine⟨rfl,4,rfl,by decide,by decide,fun r r0 r1=>?_⟩
  exact q _ r0 (by omega)
 ·rw[beq_eq_false_iff_ne.mpr c0]
  left
  refine⟨rfl,rfl,M3 _ _,?_⟩
  rw[Q2]
  by_cases c1:r=1
  ·rw[c1,show ((1:Int) == 1)=true from rfl]
   left
   refine⟨⟨by decide,by decide,by decide⟩,⟨by decide,by decide,by decide⟩,by decide,rfl,2,rfl,by decide,by decide,fun r r0 r1=>?_⟩
   left
   rcases lt2 r0 r1 with rfl | rfl
   all_goals exact q _ (by decide) (by decide)
  ·rw[beq_eq_false_iff_ne.mpr c1]
   left
   refine⟨⟨by decide,by decide,by decide⟩,rfl,.inl ⟨by decide,by decide⟩,4 * sc + 1,rfl,by omega,by omega,fun r r0 r1=>?_⟩
   left
   refine q _ ?_ ?_
   ·split
    ·exact r0
    ·decide
   ·split
    ·omega
    ·decide
end
def WyB (m:Nat) (w:Wy):Prop:=w.1 < m/\w.2.1 < m/\-1000000000000000000<=w.2.2/\w.2.2<=1000000000000000000
theorem A73 {r:Int} {m:Nat} (h0:0<=r) (h1:r < ((m:Nat):Int)):∃n:Nat,r=((n:Nat):Int)/\n < m:=⟨r.toNat,by omega,by omega⟩
section
variable {P:Program} {w:World} {K:B3} {mg:Str->Option Value} {base:Heap}
theorem D1a (T:Txt K mg):D0 P w K mg base CX0 5 T.f_land.a T.f_land.d ["_law_hand_here", "_law_places", "_law_ways", "_law_scale_here"] (spD [.hd,.sh,.sh,.sh] D05):=by
 have G_draw:=@A1c P w K mg base T
 have b_draw:=T.f_draw.b
 have G_change:=@D08 P w K mg base T
 have b_change:=T.f_change.b
 refine G1 T.f_land.F A6n rfl (fun C cdv A outer s H E hr=>⟨_,(@D3 _ _ _ _ _ _ (E3 (B9 (i:=4) A6n.nd rfl (A8 rfl) (E2 L3 N6 A6 (C4 (B4 G_draw (hr.mono (by decide)) rfl T.f_draw.m T.f_draw.F.kp b_draw .nil B5 (F9 (pv 0) (A5 (A1 (pv 1)) C3 A0) A0) (he:=A0) (hpl:=(A2 A0 A3))))))) (@D3 _ _ _ _ _ _ (Z0 (B9 (i:=5) A6n.nd rfl (A8 rfl) (K0 C6))) (@D3 _ _ _ _ _ _ (@V4 _ _ _ _ _ _ (@Q4 _ _ _ _ _ _ _ _ O6 rfl (A3v (p9 rfl T.n_range (A7 (C4 (B4 G_draw (hr.mono (by decide)) rfl T.f_draw.m T.f_draw.F.kp b_draw .nil B5 (F9 (pv 0) (A5 (E2 L3 N6 (A1 (pv 2)) A6) C3 F5) A0) (he:=A0) (hpl:=(A2 F5 A3)))) C6 E5))) (Z1 (J2 (i:=6) A6n.nd rfl (A8 rfl))) (@D3 _ _ _ _ _ _ (E3 (B9 (i:=7) A6n.nd rfl (A8 rfl) (C4 (B4 G_draw (hr.mono (by decide)) rfl T.f_draw.m T.f_draw.F.kp b_draw .nil B5 (F9 (pv 0) (A5 (A1 (pv 4)) C3 A0) A0) (he:=A0) (hpl:=(A2 A0 A3)))))) (@D3 _ _ _ _ _ _ (E3 (B9 (i:=8) A6n.nd rfl (A8 rfl) (C4 (B4 G_draw (hr.mono (by decide)) rfl T.f_draw.m T.f_draw.F.kp b_draw .nil B5 (F9 (pv 0) (A5 (A1 (pv 4)) C3 A0) A0) (he:=A0) (hpl:=(A2 A0 A3)))))) (@D3 _ _ _ _ _ _ (@T7 _ _ _ _ (@J1 _ _ _ _ _ _ _ _ _ (E9 (P2 (K4 hr)) L9 (C4 (B4 G_draw (hr.mono (by decide)) rfl T.f_draw.m T.f_draw.F.kp b_draw .nil B5 (F9 (pv 0) (A5 A6 C3 F4) A0) (he:=A0) (hpl:=(A2 F4 A3)))) A6 (C9 _)) (B7 (E3 (B9 (i:=8) A6n.nd rfl (A8 rfl) (E2 u8 B3v (E2 L3 N6 (A1 (pv 7)) A6) (A1 (pv 4)))))) J5)) (@B7 _ _ _ _ (@A08 _ _ _ _ _ _ (@S8 _ _ _ _ (@Y5 _ _ _ _ _ _ _ _ _ _ _ _ V3 o8 o9 i7 (pv 5) (@A4 _ _ _ _ _ (@P4 _ _ _ _ _ _ (@A7 _ _ _ _ _ _ (A1 (pv 7)) (@A7 _ _ _ _ _ _ (A1 (pv 8)) (@A7 _ _ _ _ _ _ (@C4 _ _ _ _ _ _ _ (@B4 _ _ _ _ _ _ _ _ _ _ _ _ _ _ _ _ G_change (hr.mono (by decide)) rfl T.f_change.m T.f_change.F.kp b_change .nil B5 (F9 (pv 0) (A5 (L5 (F1 (K0 (A7 (A1 (pv 3)) (A7 (A1 (pv 3)) (A7 A6 C6 F4) A0) A0))) (C4 (B4 G_draw (hr.mono (by decide)) rfl T.f_draw.m T.f_draw.F.kp b_draw .nil B5 (F9 (pv 0) (A5 A6 C3 F4) A0) (he:=A0) (hpl:=(A2 F4 A3)))) (fun _ _=>rfl)) C3 B0) A0) (by decide) A0 ((A2 B0 A3)))) C6 E5) A0) A0)) B8 A1u) (by rfl) (by rfl) (by rfl) (by rfl) (by rfl)) (by rfl))))))) (by intro _;rfl))) (B7 (C8 (P4 (A7 (A1 (pv 4)) (A7 (A1 (pv 5)) C6 A0) A0))))))),fun ds Q hl h=>?_⟩)
 obtain⟨d,pl,wn,sc,rfl,p1,p2,w2,s0,s1,q⟩:=h
 left
 refine⟨rfl,_,rfl,by omega,by omega,fun r r0 r1=>?_⟩
 left
 obtain⟨m,hm,m1⟩:∃m:Nat,1 + r=((m:Nat):Int)/\1<=m/\m<=12:=⟨(1 + r).toNat,by omega,by omega,by omega⟩
 rw[hm]
 refine go ?_;left
 refine⟨by decide,?_⟩
 refine go ?_;array_mem_dec
 refine⟨rfl,_,rfl,by omega,by omega,fun c c0 c1=>?_⟩
 array_mem_dec
 refine⟨⟨by omega,by omega⟩,fun r ρ=>∃(ws:List Wy) (z6 z7 z8:Sl),ρ=[Sl.hd,Sl.sh (.int (pl:Nat)),Sl.sh (.int (wn:Nat)),Sl.sh (.int sc),Sl.sh (.int (m:Nat)),Sl.ow (ws.map R9),z6,z7,z8]/\r.length + ws.length<=40/\∀w∈ws,WyB m w,⟨[],_,_,_,rfl,by unfold M9;simp;omega,fun w hw=>nomatch hw⟩,?_,?_⟩
 ·rintro x r ρ ⟨ws,z6,z7,z8,rfl,hl2,hw⟩
  sizeOf_list_dec
  refine⟨rfl,_,rfl,by omega,by omega,fun a a0 a1=>?_⟩
  refine go ?_;left
  refine⟨rfl,_,rfl,by omega,by omega,fun b b0 b1=>?_⟩
  refine go ?_
  unfold P8
  obtain⟨a',rfl,ha⟩:=A73 a0 a1
  obtain⟨b',rfl,hb⟩:=A73 b0 b1
  refine⟨fun ρ=>∃e:Nat,e < m/\ρ=[Sl.hd,Sl.sh (.int (pl:Nat)),Sl.sh (.int (wn:Nat)),Sl.sh (.int sc),Sl.sh (.int (m:Nat)),Sl.ow (ws.map R9),Sl.sh x,Sl.sh (.int (a':Nat)),Sl.sh (.int (e:Nat))],?_,?_⟩
  ·left
   refine⟨rfl,_,rfl,by decide,by decide,fun u u0 u1=>?_⟩
   left
   refine⟨rfl,rfl,M3 _ _,?_⟩
   rw[Q2]
   cases (u == 0) with
   | true=>
    left
    refine⟨by omega,?_⟩
    obtain⟨e,he,hem⟩:=A73 (r:=(((a':Nat):Int) + 1) % ((m:Nat):Int)) (m:=m) (B2o _ (by omega)) (B7j _ (by omega))
    rw[he]
    exact⟨e,hem,rfl⟩
   | false=>
    left
    exact⟨b',hb,rfl⟩
  ·rintro ρ ⟨e,he,rfl⟩
   refine go ?_;left
   refine⟨rfl,by show 3<=1000;decide,rfl,_,rfl,by decide,by decide,fun u u0 u1=>?_⟩
   left
   obtain⟨sc',hsc,hs0,hs1⟩:∃sc':Int,atI [PyData.int sc,.int sc,.int 1] u=some (.int sc')/\0<=sc'/\sc'<=1000000000000000000:=by
    have hu:u=0\/u=1\/u=2:=by omega
    rcases hu with rfl | rfl | rfl
    ·exact⟨sc,rfl,by omega,s1⟩
    ·exact⟨sc,rfl,by omega,s1⟩
    ·exact⟨1,rfl,by decide,by decide⟩
   rw[hsc]
   left
   refine⟨_,sc',rfl,hs0,hs1,fun v v0 v1=>?_⟩
   left
   refine⟨by decide,by rw[D5];simp at hl2;omega,ws++[(a',e,v)],_,_,_,by rw[O5];rfl,by simp at hl2 ⊢;omega,fun w hw'=>?_⟩
   rcases O9.mp hw' with z | z
   ·exact hw w z
   ·have:w=(a',e,v):=by simpa using z
    subst this
    exact⟨ha,he,show -1000000000000000000<=v by omega,show v<=1000000000000000000 by omega⟩
 ·rintro ρ ⟨ws,z6,z7,z8,rfl,hl2,hw⟩
  refine go ?_;left
  refine⟨by decide,?_⟩
  exact q m ws ⟨m1.1,m1.2,by simp at hl2;omega,fun w h=>(hw w h).1,fun w h=>(hw w h).2.1,fun w h=>(hw w h).2.2.1,fun w h=>(hw w h).2.2.2⟩
theorem D1b (T:Txt K mg):D0 P w K mg base CX0 4 T.f_table.a T.f_table.d ["_law_hand_here", "_law_many", "_law_store_here"] (spD [.hd,.sh,.sh] D06):=by
 have G_draw:=@A1c P w K mg base T
 have b_draw:=T.f_draw.b
 refine G1 T.f_table.F C1e rfl (fun C cdv A outer s H E hr=>⟨_,(@F7 _ _ _ _ _ _ (E3 (B9 (i:=3) C1e.nd rfl (f8 rfl) (E2 L3 N6 A6 (E2 g6 A3a A6 (C4 (B4 G_draw (hr.mono (by decide)) rfl T.f_draw.m T.f_draw.F.kp b_draw .nil B5 (F9 (pv 0) (A5 A6 C3 F4) A0) (he:=A0) (hpl:=(A2 F4 A3)))))))) (@B7 _ _ _ _ (@C8 _ _ _ _ _ (@F1 _ _ _ _ (@A0h _ _ _ _ _ _ _ _ rfl (@Y6 _ _ _ _ _ _ _ _ _ _ _ _ _ _ _ (N5.new (N:=["_law_hand_here", "_law_many", "_law_store_here", "_law_rare"]) (osc:=C2 B1i) (by decide +kernel)) rfl (A3v (p9 rfl T.n_range (A7 (A1 (pv 1)) C6 A0))) (fun _=>Y2) (fun _=>(@L5 _ _ _ _ _ _ _ (F1 (K0 (A7 (C4 (B4 G_draw (hr.mono (by decide)) rfl T.f_draw.m T.f_draw.F.kp b_draw .nil B5 (F9 (pv 0) (A5 (E2 L3 N6 (A1 (pv 2)) A6) C3 F5) A0) (he:=A0) (hpl:=(A2 F5 A3)))) (A7 F6 C6 F4) E5))) (N9 B3y (b7 B26 rfl T.n_int A8t (A7 (b8 v7 A1y (C4 (B4 G_draw (hr.mono (by decide)) rfl T.f_draw.m T.f_draw.F.kp b_draw .nil B5 (F9 (pv 0) (A5 (A1 (pv 3)) C3 A0) A0) (he:=A0) (hpl:=(A2 A0 A3)))) A6 (C9 _)) C6 A7h) (he:=A7h) (hpl:=A3))) (fun _ _=>rfl))) (by rfl) (by rfl) (by intro _;rfl))))))),fun ds Q hl h=>?_⟩)
 obtain⟨d,m,st,rfl,m2,s0,s1,q⟩:=h
 left
 refine⟨rfl,_,rfl,by decide,by decide,fun r r0 r1=>?_⟩
 array_mem_dec
 refine⟨.inl ⟨by decide,by decide⟩,⟨by omega,by omega⟩,⟨rfl,by unfold M9;rw[D5,o7];omega⟩,?_⟩
 refine B92 (R:=ODs st) (fun x hx Q' q'=>?_) fun ds hl2 hR=>?_
 ·left
  refine⟨rfl,_,rfl,by omega,by omega,fun u u0 u1=>?_⟩
  left
  refine⟨by decide,rfl,_,rfl,by omega,by omega,fun v v0 v1=>?_⟩
  left
  cases decide (0 < v) with
  | true=>
   exact q' _ ⟨none,rfl,fun x e=>nomatch e⟩
  | false=>
   exact q' _ ⟨some u,rfl,fun x e=>by cases e;exact⟨u0,by omega⟩⟩
 ·obtain⟨t,e,ht⟩:=C19 hR
  rw[Q9,e]
  have hlen:ds.length=m:=by rw[hl2];unfold M9;rw[D5,o7];simp
  rw[hlen] at ht
  exact q t ht
end
theorem D1c (n:Nat):M9 0 n=(P5 n).map fun k=>PyData.int ((k:Nat):Int):=by
 unfold M9
 congr 1
 funext i
 rw[B2q]
def D2 (n:Nat) (d:PyData):Prop:=d.canLay0=true/\d.depth<=n
theorem D2.all {n:Nat}:∀{ds:List PyData},(∀d∈ds,D2 n d)->PyData.canLayAll0 ds=true/\PyData.depthAll ds<=n
 | [],_=>⟨rfl,M6 _⟩
 | d::ds,h=>by
  obtain⟨a,b⟩:=D2.all fun x hx=>h x (B6 _ hx)
  obtain⟨a1,b1⟩:=h d C0
  constructor
  ·show (PyData.canLay0 d&&PyData.canLayAll0 ds)=true
   rw[a,a1];rfl
  ·show max (PyData.depth d) (PyData.depthAll ds)<=n
   omega
theorem D2.lst {n:Nat} {ds:List PyData} (h:∀d∈ds,D2 n d):D2 (n + 1) (.list ds):=by
 obtain⟨a,b⟩:=D2.all h
 refine⟨by rw[PyData.canLay0];exact a,?_⟩
 show PyData.depthAll ds + 1<=n + 1
 omega
theorem D2.tup {n:Nat} {ds:List PyData} (h:∀d∈ds,D2 n d):D2 (n + 1) (.tuple ds):=by
 obtain⟨a,b⟩:=D2.all h
 refine⟨by rw[PyData.canLay0];exact a,?_⟩
 show PyData.depthAll ds + 1<=n + 1
 omega
theorem D2.mono {n k:Nat} {d:PyData} (h:D2 n d) (l:n<=k):D2 k d:=⟨h.1,m8 h.2 l⟩
theorem D2.int {n:Nat} (i:Int):D2 n (.int i):=⟨rfl,M6 _⟩
theorem D2.o {n:Nat} (o:Option Int):D2 n (oD o):=by cases o <;> exact⟨rfl,M6 _⟩
theorem D2.tab (t:Tb):D2 1 (.list (C5 t)):=D2.lst fun d hd=>by
 unfold C5 at hd
 obtain⟨o,_,rfl⟩:=S5.mp hd
 exact .o o
theorem D2.way (w:Wy):D2 1 (R9 w):=D2.tup fun d hd=>by
 rcases N1.mp hd with rfl | hd
 ·exact .int _
 rcases N1.mp hd with rfl | hd
 ·exact .int _
 rw[p6.mp hd];exact .int _
theorem D2.land (m:Nat) (ws:List Wy):D2 3 (E8 m ws):=D2.tup fun d hd=>by
 rcases N1.mp hd with rfl | hd
 ·exact .int _
 rw[p6.mp hd]
 exact D2.lst fun d hd=>by
  obtain⟨w,_,rfl⟩:=S5.mp hd
  exact .way w
theorem D2.two {n:Nat} {a b:PyData} (ha:D2 n a) (hb:D2 n b):∀d∈[a,b],D2 n d:=fun d hd=>by
 rcases N1.mp hd with rfl | hd
 ·exact ha
 rw[p6.mp hd];exact hb
theorem D2.dep {n:Nat} {a:PyData} (h:D2 n a) (l:n<=64) (b:PyData):min a.depth b.depth<=64:=by have:=h.2;omega
theorem D2.same {n:Nat} {a:PyData} (h:D2 n a):PyData.eqv a a=true:=PySem.SeqAt.eqv_refl _ h.1
def J6 (q:Sp2):PyData:=.tuple [.int (q.1:Nat),.int q.2]
def sIn (s k:Nat):Bool:=decide (s / 2 ^ k % 2=1)
def tbs (ts:List Tb) (s:Nat):Tb:=(ts[s]?).getD []
def lvG (st:Int) (ts:List Tb) (r:Nat) (q:Sp2):Option Int:=(gt (tbs ts r) q.1).bind fun x=>K6 st x q.2
def Y3 (n s:Nat):List Nat:=(P5 n).filter (sIn s)
structure k9 (m:Nat) (sp:List Sp2):Prop where
 few:sp.length<=4
 pl:∀q∈sp,q.1 < m
 gf:∀q∈sp,0<=q.2
structure Bas (m:Nat) (st:Int) (sp:List Sp2) (ts:List Tb) (s:Nat) (ks:List Nat) (c:Tb):Prop where
 tab:G7 m st c
 up:∀k∈ks,∀q,sp[k]?=some q->leO (lvG st ts (s - 2 ^ k) q) (gt c q.1)
 le:∀L:Tb,(∀k∈ks,∀q,sp[k]?=some q->leO (lvG st ts (s - 2 ^ k) q) (gt L q.1))->leT c L
def X0 (m:Nat) (st:Int) (sp:List Sp2) (ts:List Tb) (b:Tb) (s:Nat) (c:Tb):Prop:=(s=0/\c=b)\/(0 < s/\Bas m st sp ts s (Y3 sp.length s) c)
theorem D1d {m:Nat} {st:Int}:G7 m st (G5 m none):=⟨A4m,fun p x e=>by rw[A36] at e;cases e⟩
theorem Bas.nil {m:Nat} {st:Int} {sp:List Sp2} {ts:List Tb} {s:Nat}:Bas m st sp ts s [] (G5 m none):=
 ⟨D1d,fun k hk=>(nomatch hk),fun L _ p=>by rw[A36];exact B4d⟩
theorem D1e {st:Int} {ts:List Tb} {r:Nat} {q:Sp2} {x:Int} (h0:0<=st) (h:lvG st ts r q=some x):0<=x/\x<=st:=by
 unfold lvG at h
 cases e:gt (tbs ts r) q.1 with
 | none=>rw[e] at h;cases h
 | some l=>rw[e] at h;exact B0t h0 h
theorem Bas.put {m:Nat} {st:Int} {sp:List Sp2} {ts:List Tb} {s:Nat} {ks:List Nat} {c:Tb} {k:Nat} {q:Sp2} (h0:0<=st) (B:Bas m st sp ts s ks c) (hq:sp[k]?=some q) (hm:q.1 < m) (h:U4 (lvG st ts (s - 2 ^ k) q) (gt c q.1)=true):Bas m st sp ts s (ks++[k]) (c.set q.1 (lvG st ts (s - 2 ^ k) q)):=by
 have hl:q.1 < c.length:=by rw[B.tab.len];exact hm
 have hle:leT c (c.set q.1 (lvG st ts (s - 2 ^ k) q)):=fun p=>by
  rw[j5 hl]
  split
  ·rename_i e;cases e;exact B94 h
  ·exact A2e _
 refine⟨⟨by rw[O3];exact B.tab.len,fun p x e=>?_⟩,fun j hj r hr=>?_,fun L hL p=>?_⟩
 ·rw[j5 hl] at e
  split at e
  ·exact D1e h0 e
  ·exact B.tab.bd p x e
 ·rcases O9.mp hj with z | z
  ·exact l8 (B.up j z r hr) (hle _)
  ·have:j=k:=by simpa using z
   subst this
   rw[hq] at hr
   cases hr
   rw[j5 hl,if_pos rfl]
   exact A2e _
 ·rw[j5 hl]
  split
  ·rename_i e
   cases e
   exact hL k (S3 _ C0) q hq
  ·exact B.le L (fun j hj=>hL j (A8c _ hj)) p
theorem Bas.keep {m:Nat} {st:Int} {sp:List Sp2} {ts:List Tb} {s:Nat} {ks:List Nat} {c:Tb} {k:Nat} {q:Sp2} (B:Bas m st sp ts s ks c) (hq:sp[k]?=some q) (h:leO (lvG st ts (s - 2 ^ k) q) (gt c q.1)):Bas m st sp ts s (ks++[k]) c:=by
 refine⟨B.tab,fun j hj r hr=>?_,fun L hL=>B.le L fun j hj=>hL j (A8c _ hj)⟩
 rcases O9.mp hj with z | z
 ·exact B.up j z r hr
 ·have:j=k:=by simpa using z
  subst this
  rw[hq] at hr
  cases hr
  exact h
theorem A74 {s k:Nat} (h:sIn s k=true):2 ^ k<=s:=by
 have h1:s / 2 ^ k % 2=1:=of_decide_eq_true h
 rcases A0v s (2 ^ k) with c | c
 ·rw[Nat.div_eq_of_lt c] at h1;cases h1
 ·exact c
theorem A6s {n s k:Nat} (h:k∈Y3 n s):k < n/\sIn s k=true:=by
 obtain⟨h1,h2⟩:=A8b.mp h
 exact⟨l5.mp h1,h2⟩
theorem Bas.cong {m:Nat} {st:Int} {sp:List Sp2} {ts us:List Tb} {s n:Nat} {c:Tb} (h:∀r,r < s->tbs ts r=tbs us r) (B:Bas m st sp ts s (Y3 n s) c):Bas m st sp us s (Y3 n s) c:=by
 have e:∀k∈Y3 n s,∀q,lvG st ts (s - 2 ^ k) q=lvG st us (s - 2 ^ k) q:=fun k hk q=>by
  have h2:=A74 (A6s hk).2
  have h3:0 < 2 ^ k:=Nat.pos_of_ne_zero (by simp)
  unfold lvG
  rw[h (s - 2 ^ k) (by omega)]
 exact⟨B.tab,fun k hk q hq=>by rw[<-e k hk];exact B.up k hk q hq,fun L hL=>B.le L fun k hk q hq=>by rw[e k hk];exact hL k hk q hq⟩
theorem X0.cong {m:Nat} {st:Int} {sp:List Sp2} {ts us:List Tb} {s:Nat} {b c:Tb} (h:∀r,r < s->tbs ts r=tbs us r) (B:X0 m st sp ts b s c):X0 m st sp us b s c:=by
 rcases B with z | ⟨z,B⟩
 ·exact .inl z
 ·exact .inr ⟨z,B.cong h⟩
theorem X0.tab {m:Nat} {st:Int} {sp:List Sp2} {ts:List Tb} {s:Nat} {b c:Tb} (hb:G7 m st b) (B:X0 m st sp ts b s c):G7 m st c:=by
 rcases B with ⟨_,rfl⟩ | ⟨_,B⟩
 ·exact hb
 ·exact B.tab
def A75 (m:Nat) (ws:List Wy) (st:Int) (sp:List Sp2) (b:Tb) (ts:List Tb):Prop:=∀s,s < ts.length->∃c,X0 m st sp ts b s c/\U5 m ws st c (tbs ts s)
structure V8 (m:Nat) (ws:List Wy) (st:Int) (sp:List Sp2) (b:Tb) (ts:List Tb):Prop where
 len:ts.length=2 ^ sp.length
 all:A75 m ws st sp b ts
theorem B6o {ts us:List Tb} {r:Nat} (h:r < ts.length):tbs (ts++us) r=tbs ts r:=by
 unfold tbs
 rw[l6 h]
theorem A6t {ts:List Tb} {r:Nat} (h:r < ts.length):ts[r]?=some (tbs ts r):=by
 unfold tbs
 rw[K3 h]
 rfl
theorem B11 {ts:List Tb} {t:Tb} (h:t∈ts):∃s,s < ts.length/\tbs ts s=t:=by
 obtain⟨p,hp,e⟩:=A0t.mp h
 exact⟨p,hp,by unfold tbs;rw[K3 hp,e];rfl⟩
theorem A2m {ts:List Tb} {s:Nat} (h:s < ts.length):tbs ts s∈ts:=O2 (A6t h)
theorem A75.snoc {m:Nat} {ws:List Wy} {st:Int} {sp:List Sp2} {b:Tb} {ts:List Tb} {c t:Tb} (h:A75 m ws st sp b ts) (B:X0 m st sp ts b ts.length c) (L:U5 m ws st c t):A75 m ws st sp b (ts++[t]):=fun s hs=>by
 rw[M4,B2f] at hs
 rcases A0v s ts.length with z | z
 ·obtain⟨c,B',L'⟩:=h s z
  exact⟨c,B'.cong fun r hr=>(B6o (by omega)).symm,by rw[B6o z];exact L'⟩
 ·have:s=ts.length:=by omega
  subst this
  refine⟨c,B.cong fun r hr=>(B6o hr).symm,?_⟩
  have e:tbs (ts++[t]) ts.length=t:=by unfold tbs;simp
  rw[e]
  exact L
structure A9g (m:Nat) (ws:List Wy) (st:Int) (sp:List Sp2) (b:Tb) (ts:List Tb):Prop where
 len:ts.length=2 ^ sp.length
 tab:∀t∈ts,G7 m st t
 cl:∀t∈ts,A2f ws st t
 b0:leT b (tbs ts 0)
 use:∀s,s < ts.length->∀k q,sp[k]?=some q->sIn s k=true->leO (lvG st ts (s - 2 ^ k) q) (gt (tbs ts s) q.1)
theorem A0q (n:Nat):0 < 2 ^ n:=Nat.pos_of_ne_zero (by simp)
theorem C2a {sp:List Sp2} {k:Nat} {q:Sp2} (h:sp[k]?=some q):k < sp.length:=by
 rcases A0v k sp.length with c | c
 ·exact c
 ·rw[f9 c] at h;cases h
theorem D1f {n s k:Nat} (h:k < n) (h2:sIn s k=true):k∈Y3 n s:=A8b.mpr ⟨l5.mpr h,h2⟩
theorem D1g {s k:Nat} (h:sIn s k=true):0 < s:=S1 (A0q k) (A74 h)
theorem V8.lid {m:Nat} {ws:List Wy} {st:Int} {sp:List Sp2} {b:Tb} {ts:List Tb} (h:V8 m ws st sp b ts):A9g m ws st sp b ts:=by
 refine⟨h.len,fun t ht=>?_,fun t ht=>?_,?_,fun s hs k q hq hk=>?_⟩
 ·obtain⟨s,hs,rfl⟩:=B11 ht
  obtain⟨c,_,L⟩:=h.all s hs
  exact L.tab
 ·obtain⟨s,hs,rfl⟩:=B11 ht
  obtain⟨c,_,L⟩:=h.all s hs
  exact L.cl
 ·obtain⟨c,B,L⟩:=h.all 0 (by rw[h.len];exact A0q _)
  rcases B with ⟨_,rfl⟩ | ⟨z,_⟩
  ·exact L.up
  ·exact absurd z (by decide)
 ·obtain⟨c,B,L⟩:=h.all s hs
  rcases B with ⟨z,_⟩ | ⟨_,B⟩
  ·have:=D1g hk;omega
  ·exact l8 (B.up k (D1f (C2a hq) hk) q hq) (L.up _)
theorem A9g.under {m:Nat} {ws:List Wy} {st:Int} {sp:List Sp2} {b:Tb} {ts:List Tb} {s:Nat} {c:Tb} (h:A9g m ws st sp b ts) (hs:s < ts.length) (B:X0 m st sp ts b s c):leT c (tbs ts s):=by
 rcases B with ⟨rfl,rfl⟩ | ⟨_,B⟩
 ·exact h.b0
 ·exact B.le _ fun k hk q hq=>h.use s hs k q hq (A6s hk).2
theorem D1h {st:Int} {ts us:List Tb} {r:Nat} {q:Sp2} (h:leT (tbs ts r) (tbs us r)):leO (lvG st ts r q) (lvG st us r q):=by
 unfold lvG
 have h:=h q.1
 cases e:gt (tbs ts r) q.1 with
 | none=>exact B4d
 | some x=>
  rw[e] at h
  cases e2:gt (tbs us r) q.1 with
  | none=>rw[e2] at h;exact absurd h A0l
  | some y=>rw[e2] at h;exact B4g (V0.mp h)
theorem V8.under {m:Nat} {ws:List Wy} {st:Int} {sp:List Sp2} {b b':Tb} {ts us:List Tb} (h:V8 m ws st sp b ts) (g:A9g m ws st sp b' us) (hb:leT b b'):∀s,s < ts.length->leT (tbs ts s) (tbs us s):=fun s=>by
 induction s using Nat.strongRecOn with
 | _ s ih=>
  intro hs
  have hs':s < us.length:=by rw[g.len,<-h.len];exact hs
  obtain⟨c,B,L⟩:=h.all s hs
  refine L.le _ (g.tab _ (A2m hs')) ?_ (g.cl _ (A2m hs'))
  rcases B with ⟨rfl,rfl⟩ | ⟨_,B⟩
  ·exact B95 hb g.b0
  ·refine B.le _ fun k hk q hq=>?_
   have h2:=A74 (A6s hk).2
   have h3:=A0q k
   exact l8 (D1h (ih (s - 2 ^ k) (by omega) (by omega))) (g.use s hs' k q hq (A6s hk).2)
theorem D1i:∀k,k < 4->∀s,s < 16->decide (Builtin.bitAnd ((s:Nat):Int) ((2 ^ k:Nat):Int)=0)=!sIn s k:=by decide
def F8 (ts:List Tb):List PyData:=ts.map fun t=>.list (C5 t)
theorem D1j {N k:Nat} {x:PyData} {r:List PyData} (h:x::r=(M9 0 N).drop k):x=.int (k:Nat)/\r=(M9 0 N).drop (k + 1)/\k < N:=by
 have hk:k < (M9 0 N).length:=by
  rcases A0v k (M9 0 N).length with c | c
  ·exact c
  ·rw[C29 c] at h;cases h
 rw[A4o hk] at h
 injection h with h1 h2
 obtain⟨hk',e⟩:=B9r (K3 hk)
 exact⟨by rw[h1,e,B2q],h2,hk'⟩
theorem D1k {N k:Nat} (h:[]=(M9 0 N).drop k):N<=k:=by
 have:=congrArg A2o h
 unfold M9 at this
 simp at this
 omega
theorem A76 (ts:List Tb):(F8 ts).length=ts.length:=D5 _
theorem C2b {ts:List Tb} {r:Nat} (h:r < ts.length):atI (F8 ts) ((r:Nat):Int)=some (.list (C5 (tbs ts r))):=P0 (by unfold F8;rw[M7,A6t h];rfl)
theorem A9h {sp:List Sp2} {k:Nat} {q:Sp2} (h:sp[k]?=some q):atI (sp.map J6) ((k:Nat):Int)=some (J6 q):=P0 (by rw[M7,h];rfl)
theorem C2c {sp:List Sp2} {k:Nat} (h:k < sp.length):∃q,sp[k]?=some q:=⟨_,K3 h⟩
def D1l:DSp:=fun ds Q=>∃k:Nat,ds=[.int (k:Nat)]/\k<=900/\Q (.int ((2 ^ k:Nat):Int))
def D1m:DSp:=fun ds Q=>∃(sp:List Sp2) (s:Nat),ds=[.list (sp.map J6),.int (s:Nat)]/\sp.length<=4/\s < 2 ^ sp.length/\Q (.list (D4 (Y3 sp.length s)))
def D1n:DSp:=fun ds Q=>∃(m:Nat) (st:Int) (sp:List Sp2) (ts:List Tb) (s k:Nat) (q:Sp2),ds=[.int st,.list (sp.map J6),.list (F8 ts),.int (s:Nat),.int (k:Nat)]/\k<=900/\sp[k]?=some q/\2 ^ k<=s/\s - 2 ^ k < ts.length/\q.1 < m/\(∀t∈ts,G7 m st t)/\Q (oD (lvG st ts (s - 2 ^ k) q))
def C2d:DSp:=fun ds Q=>∃(m:Nat) (st:Int) (sp:List Sp2) (ts:List Tb) (b:Tb) (s:Nat),ds=[.int st,.list (sp.map J6),.list (F8 ts),.list (C5 b),.int (s:Nat)]/\k9 m sp/\0<=st/\G7 m st b/\m<=900/\s < 2 ^ sp.length/\s<=ts.length/\(∀t∈ts,G7 m st t)/\∀c,X0 m st sp ts b s c->Q (.list (C5 c))
def C2e:DSp:=fun ds Q=>∃(m:Nat) (ws:List Wy) (st:Int) (sp:List Sp2) (b:Tb),ds=[E8 m ws,.int st,.list (sp.map J6),.list (C5 b)]/\J8 m ws/\0<=st/\st<=1000000000000000000000/\k9 m sp/\G7 m st b/\∀ts,V8 m ws st sp b ts->Q (.list (F8 ts))
theorem pw4:∀n,n < 5->2 ^ n<=16:=by decide
theorem D1o {n s:Nat} (h:n<=4):(Y3 n s).length<=4:=by
 have:=List.length_filter_le (sIn s) (P5 n)
 rw[o7] at this
 unfold Y3
 omega
theorem ixS {ts:List Tb} {s k:Nat} (h:2 ^ k<=s):((s:Nat):Int) - ((2 ^ k:Nat):Int)=((s - 2 ^ k:Nat):Int):=by omega
section
variable {P:Program} {w:World} {K:B3} {mg:Str->Option Value} {base:Heap}
theorem A77 (T:Txt K mg):D0 P w K mg base CX0 1 T.f_alone.a T.f_alone.d ["number"] (spD [.sh] D1l):=by
 refine G1 T.f_alone.F C8i rfl (fun C cdv A outer s H E hr=>⟨_,(B7 (C8 (E2 B20 B4o A6 (A1 (pv 0))))),fun ds Q hl h=>?_⟩)
 obtain⟨k,rfl,hk,q⟩:=h
 left
 refine⟨⟨by omega,by omega,by decide⟩,?_⟩
 rw[show (1:Int) * 2 ^ (((k:Nat):Int)).toNat=((2 ^ k:Nat):Int) by rw[Int.one_mul,A1g,Int.natCast_pow];rfl]
 exact q
theorem C2f (T:Txt K mg):D0 P w K mg base CX0 2 T.f_numbers_in.a T.f_numbers_in.d ["springs", "some"] (spD [.sh,.sh] D1m):=by
 have G_alone:=@A77 P w K mg base T
 have b_alone:=T.f_alone.b
 refine G1 T.f_numbers_in.F C8j rfl (fun C cdv A outer s H E hr=>⟨_,(@B7 _ _ _ _ (@C8 _ _ _ _ _ (@F1 _ _ _ _ (@A0h _ _ _ _ _ _ _ _ rfl (@Y6 _ _ _ _ _ _ _ _ _ _ _ _ _ _ _ (N5.new (N:=["springs", "some"]) (osc:=C2 B1e) (by decide +kernel)) rfl (A3v (p9 rfl T.n_range (A7 (W5 (G4 Q5 rfl T.n_len Q6 (A4 (pv 0) B8 A0) (he:=A0) (hpl:=A3))) C6 E5))) (fun _=>(B3f (E9 (Y7 (K4 hr)) L9 (E2 A7b A7r (A1 (pv 1)) (C4 (B4 G_alone (hr.mono (by decide)) rfl T.f_alone.m T.f_alone.F.kp b_alone .nil B5 (A5 (A1 (pv 2)) C3 A0) (he:=A0) (hpl:=A3)))) A6 (C9 _)))) (fun _=>(A1 (pv 2))) (by rfl) (by rfl) (by intro _;rfl)))))),fun ds Q hl h=>?_⟩)
 obtain⟨sp,s,rfl,few,hs,q⟩:=h
 have s16:=pw4 sp.length (by omega)
 array_mem_dec
 rw[D5]
 refine⟨⟨by omega,by omega⟩,⟨rfl,by unfold M9;rw[D5,o7];omega⟩,?_⟩
 rw[A1g,D1c]
 refine A83 (p:=fun k=>sIn s k) (f:=fun k=>.int ((k:Nat):Int)) (fun k hk Q' q'=>?_) (fun k hk _ Q' q'=>?_) ?_
 ·have hk:=l5.mp hk
  left
  refine⟨k,rfl,by omega,?_⟩
  left
  refine⟨rfl,rfl,M3 _ _,?_⟩
  rw[Q2]
  have e:=D1i k (by omega) s (by omega)
  have e2:(Builtin.bitAnd ((s:Nat):Int) ((2 ^ k:Nat):Int) == 0)=!sIn s k:=e
  rw[e2]
  left
  rw[Bool.not_not]
  exact q'
 ·left
  exact q'
 ·rw[Q9]
  exact q
theorem C2g (T:Txt K mg):D0 P w K mg base CX0 2 T.f_level_by_spring.a T.f_level_by_spring.d ["store", "springs", "tables", "some", "number"] (spD [.sh,.sh,.bo,.sh,.sh] D1n):=by
 have G_alone:=@A77 P w K mg base T
 have b_alone:=T.f_alone.b
 have G_stepped:=@B6e P w K mg base T
 have b_stepped:=T.f_stepped.b
 refine G1 T.f_level_by_spring.F C1c rfl (fun C cdv A outer s H E hr=>⟨_,(@F7 _ _ _ _ _ _ (@E3 _ _ _ _ _ (@B9 _ _ 5 _ _ _ _ C1c.nd rfl (A8 rfl) (L5 (C7 (pv 2) (E2 A1r A29 (A1 (pv 3)) (C4 (B4 G_alone (hr.mono (by decide)) rfl T.f_alone.m T.f_alone.F.kp b_alone .nil B5 (A5 (A1 (pv 4)) C3 A0) (he:=A0) (hpl:=A3)))) (fun _ _=>rfl)) (L5 (C7 (pv 1) (A1 (pv 4)) (fun _ _=>rfl)) (E7 (D6 (v:=V.int 0) rfl T.mg_PLACE_springs ⟨_,rfl⟩)) (fun _ _=>rfl)) (fun _ _=>rfl)) (by rfl) (by first | exact .inl rfl | exact .inr rfl | assumption))) (@B7 _ _ _ _ (@C8 _ _ _ _ _ (@A40 _ _ _ _ _ _ _ _ _ (E9 U8 Y0 (A1 (pv 5)) F6 (C9 _)) F6 (C4 (B4 G_stepped (hr.mono (by decide)) rfl T.f_stepped.m T.f_stepped.F.kp b_stepped .nil B5 (A5 (A1 (pv 0)) (A5 (A1 (pv 5)) (A5 (L5 (C7 (pv 1) (A1 (pv 4)) (fun _ _=>rfl)) (E7 (D6 (v:=V.int 1) rfl T.mg_GIFT ⟨_,rfl⟩)) (fun _ _=>rfl)) C3 B0) A0) A0) (he:=A0) (hpl:=(A2 A0 (A2 B0 A3))))))))),fun ds Q hl h=>?_⟩)
 obtain⟨m,st,sp,ts,s,k,p,rfl,hk,hp,hle,hlt,hm,hT,q⟩:=h
 have tl:=(hT _ (A2m hlt)).len
 left
 refine⟨k,rfl,by omega,?_⟩
 left
 rw[ixS (ts:=ts) hle,C2b hlt]
 left
 rw[A9h hp]
 unfold J6
 left
 rw[j6 (by rw[tl];exact hm)]
 left
 unfold lvG at q
 cases e:gt (tbs ts (s - 2 ^ k)) p.1 with
 | none=>
  rw[e] at q
  right
  exact q
 | some x=>
  rw[e] at q
  right
  exact G6 ⟨st,x,p.2,rfl,q⟩
theorem B12 (T:Txt K mg):D0 P w K mg base CX0 3 T.f_base_by.a T.f_base_by.d ["store", "springs", "tables", "base", "some"] (spD [.sh,.sh,.bo,.sh,.sh] C2d):=by
 have G_numbers_in:=@C2f P w K mg base T
 have b_numbers_in:=T.f_numbers_in.b
 have G_level_by_spring:=@C2g P w K mg base T
 have b_level_by_spring:=T.f_level_by_spring.b
 have G_is_more:=@B1u P w K mg base T
 have b_is_more:=T.f_is_more.b
 refine G1 T.f_base_by.F B1q rfl (fun C cdv A outer s H E hr=>⟨_,(@D3 _ _ _ _ _ _ (T7 (J1 (E9 (P2 (K4 hr)) L9 (A1 (pv 4)) A6 (C9 _))
   (B7 (C8 (A1 (pv 3))))
   J5)) (@D3 _ _ _ _ _ _ (Z0 (B9 (i:=5) B1q.nd rfl (A8 rfl) (B0j (F1 (K0 (A7 F6 C6 F4))) (W5 (G4 Q5 rfl T.n_len Q6 (A4 (pv 3) B8 A0) (he:=A0) (hpl:=A3)))))) (@D3 _ _ _ _ _ _ (@T7 _ _ _ _ (@V4 _ _ _ _ _ _ (@Q4 _ _ _ _ _ _ _ _ O6 rfl (A07 (C4 (B4 G_numbers_in (hr.mono (by decide)) rfl T.f_numbers_in.m T.f_numbers_in.F.kp b_numbers_in .nil B5 (A5 (A1 (pv 1)) (A5 (A1 (pv 4)) C3 A0) A0) (he:=A0) (hpl:=(A2 A0 A3))))) (Z1 (J2 (i:=6) B1q.nd rfl (A8 rfl))) (@D3 _ _ _ _ _ _ (@E3 _ _ _ _ _ (@B9 _ _ 7 _ _ _ _ B1q.nd rfl (A8 rfl) (C4 (B4 G_level_by_spring (hr.mono (by decide)) rfl T.f_level_by_spring.m T.f_level_by_spring.F.kp b_level_by_spring .nil B5 (A5 (A1 (pv 0)) (A5 (A1 (pv 1)) (F9 (pv 2) (A5 (A1 (pv 4)) (A5 (A1 (pv 6)) C3 A0) A0) A0) A0) A0) (he:=A0) (hpl:=(A2 A0 (A2 A0 (A2 A0 (A2 A0 A3))))))) (by rfl) (by first | exact .inl rfl | exact .inr rfl | assumption))) (@B7 _ _ _ _ (@J1 _ _ _ _ _ _ _ _ _ (W3 (C4 (B4 G_is_more (hr.mono (by decide)) rfl T.f_is_more.m T.f_is_more.F.kp b_is_more .nil B5 (A5 (A1 (pv 7)) (A5 (C7 (pv 5) (L5 (C7 (pv 1) (A1 (pv 6)) (fun _ _=>rfl)) (E7 (D6 (v:=V.int 0) rfl T.mg_PLACE_springs ⟨_,rfl⟩)) (fun _ _=>rfl)) (fun _ _=>rfl)) C3 B0) A0) (he:=A0) (hpl:=(A2 B0 A3))))) (B7 (A7m (T9 (A1 (pv 7)) (Z9 (pv 5) (L5 (C7 (pv 1) (A1 (pv 6)) (fun _ _=>rfl)) (E7 (D6 (v:=V.int 0) rfl T.mg_PLACE_springs ⟨_,rfl⟩)) (fun _ _=>rfl)) X9)))) J5))) (by intro _;rfl)))) (B7 (C8 (A1 (pv 5))))))),fun ds Q hl h=>?_⟩)
 obtain⟨m,st,sp,ts,b,s,rfl,ok,s0,hb,m2,hs,hl2,hT,q⟩:=h
 have few:=ok.few
 have bl:=hb.len
 (try unfold P8);(try unfold Y9)
 refine⟨fun ρ'=>0 < s/\ρ'=[Sl.sh (.int st),Sl.sh (.list (sp.map J6)),Sl.bo (F8 ts),Sl.sh (.list (C5 b)),Sl.sh (.int (s:Nat)),.no,.no,.no],?_,?_⟩
 ·left
  refine⟨rfl,rfl,M3 _ _,?_⟩
  rw[Q2]
  by_cases c:s=0
  ·subst c
   refine J0 ?_
   exact q b (.inl ⟨rfl,rfl⟩)
  ·rw[show (((s:Nat):Int) == 0)=false from beq_eq_false_iff_ne.mpr (by omega)]
   exact G6 ⟨by omega,rfl⟩
 rintro ρ ⟨hs0,rfl⟩
 try dsimp only
 refine go ?_;left
 refine⟨by decide,⟨by rw[d7];omega,by rw[d7];omega,by decide⟩,?_⟩
 rw[d7,bl,A1g,C1l]
 refine go ?_
 (try unfold P8);(try unfold Y9)
 refine⟨fun ρ'=>∃(c:Tb) (z6 z7:Sl),Bas m st sp ts s (Y3 sp.length s) c/\ρ'=[Sl.sh (.int st),Sl.sh (.list (sp.map J6)),Sl.bo (F8 ts),Sl.sh (.list (C5 b)),Sl.sh (.int (s:Nat)),Sl.ow (C5 c),z6,z7],?_,?_⟩
 ·array_get_dec
  refine⟨sp,s,rfl,few,hs,?_⟩
  array_get_dec
  refine⟨fun r ρ=>∃(ks R:List Nat) (c:Tb) (z6 z7:Sl),r=D4 R/\ks++R=Y3 sp.length s/\Bas m st sp ts s ks c/\ρ=[Sl.sh (.int st),Sl.sh (.list (sp.map J6)),Sl.bo (F8 ts),Sl.sh (.list (C5 b)),Sl.sh (.int (s:Nat)),Sl.ow (C5 c),z6,z7],⟨[],_,_,_,_,rfl,rfl,Bas.nil,rfl⟩,?_,?_⟩
  ·rintro x r ρ ⟨ks,R,c,z6,z7,h1,h2,B,rfl⟩
   cases R with
   | nil=>cases h1
   | cons k R=>
    cases (show x::r=PyData.int ((k:Nat):Int)::D4 R from h1)
    have hk:=A6s (n:=sp.length) (s:=s) (k:=k) (by rw[<-h2];exact S3 _ C0)
    obtain⟨p,hp⟩:=C2c hk.1
    have hpm:=ok.pl p (O2 hp)
    have hle:=A74 hk.2
    have hpp:=A0q k
    have cl:=B.tab.len
    have h3:(ks++[k])++R=Y3 sp.length s:=by rw[A1h];exact h2
    sizeOf_list_dec
    refine⟨rfl,m,st,sp,ts,s,k,p,rfl,by omega,hp,hle,by omega,hpm,hT,?_⟩
    refine go ?_;left
    rw[A9h hp]
    unfold J6
    left
    rw[j6 (by rw[cl];exact hpm)]
    left
    refine⟨_,_,rfl,?_⟩
    cases e:U4 (lvG st ts (s - 2 ^ k) p) (gt c p.1) with
    | false=>
     left
     exact⟨ks++[k],R,c,_,_,rfl,h3,B.keep hp e,rfl⟩
    | true=>
     left
     rw[A6r (by rw[d7,cl];exact hpm)]
     left
     rw[B1w]
     exact⟨ks++[k],R,_,_,_,rfl,h3,B.put s0 hp hpm e,rfl⟩
  ·rintro ρ ⟨ks,R,c,z6,z7,h1,h2,B,rfl⟩
   cases R with
   | cons k R=>cases h1
   | nil=>
    rw[n6] at h2
    rw[h2] at B
    exact⟨c,z6,z7,B,rfl⟩
 rintro ρ ⟨c,z6,z7,B,rfl⟩
 try dsimp only
 refine go ?_;left
 exact q c (.inr ⟨hs0,B⟩)
theorem C2h (T:Txt K mg):D0 P w K mg base CX0 9 T.f_highest_by.a T.f_highest_by.d ["land", "store", "springs", "base"] (spD [.sh,.sh,.sh,.sh] C2e):=by
 have G_alone:=@A77 P w K mg base T
 have b_alone:=T.f_alone.b
 have G_base_by:=@B12 P w K mg base T
 have b_base_by:=T.f_base_by.b
 have G_highest:=@C10 P w K mg base T
 have b_highest:=T.f_highest.b
 refine G1 T.f_highest_by.F A7y rfl (fun C cdv A outer s H E hr=>⟨_,(@D3 _ _ _ _ _ _ (Z0 (B9 (i:=4) A7y.nd rfl (A8 rfl) (K0 C6))) (@D3 _ _ _ _ _ _ (@V4 _ _ _ _ _ _ (@Q4 _ _ _ _ _ _ _ _ O6 rfl (A3v (p9 rfl T.n_range (A7 (C4 (B4 G_alone (hr.mono (by decide)) rfl T.f_alone.m T.f_alone.F.kp b_alone .nil B5 (A5 (W5 (G4 Q5 rfl T.n_len Q6 (A4 (pv 2) B8 A0) (he:=A0) (hpl:=A3))) C3 E5) (he:=E5) (hpl:=A3))) C6 E5))) (Z1 (J2 (i:=5) A7y.nd rfl (A8 rfl))) (@B7 _ _ _ _ (@A08 _ _ _ _ _ _ (@S8 _ _ _ _ (@Y5 _ _ _ _ _ _ _ _ _ _ _ _ V3 o8 o9 i7 (pv 4) (@A4 _ _ _ _ _ (@C4 _ _ _ _ _ _ _ (@B4 _ _ _ _ _ _ _ _ _ _ _ _ _ _ _ _ G_highest (hr.mono (by decide)) rfl T.f_highest.m T.f_highest.F.kp b_highest .nil B5 (@F9 _ _ _ _ _ _ (pv 0) (@A5 _ _ _ _ _ _ (A1 (pv 1)) (A5 (C4 (B4 G_base_by (hr.mono (by decide)) rfl T.f_base_by.m T.f_base_by.F.kp b_base_by .nil B5 (A5 (A1 (pv 1)) (A5 (A1 (pv 2)) (F9 (pv 4) (A5 (A1 (pv 3)) (A5 (A1 (pv 5)) C3 A0) A0) A0) A0) A0) (he:=A0) (hpl:=(A2 A0 (A2 A0 (A2 A0 (A2 A0 A3))))))) C3 E5) A0) A0) (by decide) A0 ((A2 A0 (A2 E5 A3))))) B8 E5) (by rfl) (by rfl) (by rfl) (by rfl) (by rfl)) (by rfl)))) (by intro _;rfl))) (B7 (C8 (A1 (pv 4)))))),fun ds Q hl h=>?_⟩)
 obtain⟨m,ws,st,sp,b,rfl,ok,s0,s1,so,hb,q⟩:=h
 have m2:=ok.m2
 have few:=so.few
 have p16:=pw4 sp.length (by omega)
 have pp:=A0q sp.length
 left
 refine⟨by decide,?_⟩
 refine go ?_;array_mem_dec
 rw[D5]
 refine⟨sp.length,rfl,by omega,?_⟩
 array_get_dec
 refine⟨⟨by omega,by omega⟩,?_⟩
 rw[A1g]
 refine⟨fun r ρ=>∃(ts:List Tb) (z5:Sl),r=(M9 0 (2 ^ sp.length)).drop ts.length/\ρ=[Sl.sh (E8 m ws),Sl.sh (.int st),Sl.sh (.list (sp.map J6)),Sl.sh (.list (C5 b)),Sl.ow (F8 ts),z5]/\A75 m ws st sp b ts/\ts.length<=2 ^ sp.length,⟨[],_,rfl,rfl,fun s hs=>absurd hs (Nat.not_lt_zero _),M6 _⟩,?_,?_⟩
 ·rintro x r ρ ⟨ts,z5,h1,rfl,hP,hle⟩
  obtain⟨rfl,rfl,hk⟩:=D1j h1
  have hT:∀t∈ts,G7 m st t:=fun t ht=>by
   obtain⟨s,hs,rfl⟩:=B11 ht
   obtain⟨c,_,L⟩:=hP s hs
   exact L.tab
  sizeOf_list_dec
  refine⟨rfl,rfl,m,st,sp,ts,b,ts.length,rfl,so,s0,hb,by omega,hk,F3 _,hT,fun c B=>?_⟩
  left
  refine⟨m,ws,st,c,rfl,ok,s0,s1,B.tab hb,fun t L _=>?_⟩
  left
  refine⟨by rw[A76];omega,ts++[t],Sl.sh (.int (ts.length:Nat)),?_,?_,hP.snoc B L,?_⟩
  ·rw[M4,B2f]
  ·unfold F8;rw[O5];rfl
  ·rw[M4,B2f];omega
 ·rintro ρ ⟨ts,z5,h1,rfl,hP,hle⟩
  have:=D1k h1
  refine go ?_;left
  exact q ts ⟨by omega,hP⟩
end
def D1p:DSp:=fun ds Q=>∃(d:PyData) (m:Nat) (st:Int) (mo:Nat),ds=[d,.int (m:Nat),.int st,.int (mo:Nat)]/\1<=m/\m<=12/\0<=st/\st<=100000000000000000000/\mo<=4/\∀sp,k9 m sp->Q (.list (sp.map J6))
section
variable {P:Program} {w:World} {K:B3} {mg:Str->Option Value} {base:Heap}
theorem D1q (T:Txt K mg):D0 P w K mg base CX0 4 T.f_springs.a T.f_springs.d ["_law_hand_here", "_law_many", "_law_store_here", "_law_most"] (spD [.hd,.sh,.sh,.sh] D1p):=by
 have G_draw:=@A1c P w K mg base T
 have b_draw:=T.f_draw.b
 refine G1 T.f_springs.F B1s rfl (fun C cdv A outer s H E hr=>⟨_,(@D3 _ _ _ _ _ _ (Z0 (B9 (i:=4) B1s.nd rfl (A8 rfl) (K0 C6))) (@D3 _ _ _ _ _ _ (@V4 _ _ _ _ _ _ (@Q4 _ _ _ _ _ _ _ _ O6 rfl (A3v (p9 rfl T.n_range (A7 (C4 (B4 G_draw (hr.mono (by decide)) rfl T.f_draw.m T.f_draw.F.kp b_draw .nil B5 (F9 (pv 0) (A5 (E2 L3 N6 (A1 (pv 3)) A6) C3 F5) A0) (he:=A0) (hpl:=(A2 F5 A3)))) C6 E5))) (Z1 (J2 (i:=5) B1s.nd rfl (A8 rfl))) (@D3 _ _ _ _ _ _ (@E3 _ _ _ _ _ (@B9 _ _ 6 _ _ _ _ B1s.nd rfl (A8 rfl) (@E2 _ _ _ _ _ _ _ _ _ _ L3 N6 A6 (@C4 _ _ _ _ _ _ _ (@B4 _ _ _ _ _ _ _ _ _ _ _ _ _ _ _ _ G_draw (hr.mono (by decide)) rfl T.f_draw.m T.f_draw.F.kp b_draw .nil B5 (@F9 _ _ _ _ _ _ (pv 0) (@A5 _ _ _ _ _ _ (L5 (F1 (K0 (A7 A6 (A7 (E2 L3 N6 (A1 (pv 2)) A6) (A7 (E2 v5 A02 A6 A6) C6 F5) F5) F4))) (C4 (B4 G_draw (hr.mono (by decide)) rfl T.f_draw.m T.f_draw.F.kp b_draw .nil B5 (F9 (pv 0) (A5 A6 C3 F4) A0) (he:=A0) (hpl:=(A2 F4 A3)))) (fun _ _=>rfl)) C3 B0) A0) (by decide) A0 ((A2 B0 A3))))) (by rfl) (by first | exact .inl rfl | exact .inr rfl | assumption))) (@B7 _ _ _ _ (@A08 _ _ _ _ _ _ (@S8 _ _ _ _ (@Y5 _ _ _ _ _ _ _ _ _ _ _ _ V3 o8 o9 i7 (pv 4) (@A4 _ _ _ _ _ (@P4 _ _ _ _ _ _ (@A7 _ _ _ _ _ _ (C4 (B4 G_draw (hr.mono (by decide)) rfl T.f_draw.m T.f_draw.F.kp b_draw .nil B5 (F9 (pv 0) (A5 (A1 (pv 1)) C3 A0) A0) (he:=A0) (hpl:=(A2 A0 A3)))) (A7 (N9 j3 (G4 (g7 rfl) rfl T.n_min j0 (A7 (E2 v5 A02 A6 A6) (A7 (A1 (pv 6)) C6 A0) F5) (he:=F5) (hpl:=(A2 A0 A3)))) C6 E5) E5)) B8 A1u) (by rfl) (by rfl) (by rfl) (by rfl) (by rfl)) (by rfl))))) (by intro _;rfl))) (B7 (C8 (A1 (pv 4)))))),fun ds Q hl h=>?_⟩)
 obtain⟨d,m,st,mo,rfl,m1,m2,s0,s1,h4,q⟩:=h
 left
 refine⟨by decide,?_⟩
 refine go ?_;array_mem_dec
 refine⟨rfl,_,rfl,by omega,by omega,fun c c0 c1=>?_⟩
 array_mem_dec
 refine⟨⟨by omega,by omega⟩,fun r ρ=>∃(sp:List Sp2) (z5 z6:Sl),ρ=[Sl.hd,Sl.sh (.int (m:Nat)),Sl.sh (.int st),Sl.sh (.int (mo:Nat)),Sl.ow (sp.map J6),z5,z6]/\r.length + sp.length<=4/\∀p∈sp,p.1 < m/\0<=p.2,⟨[],_,_,rfl,by unfold M9;simp;omega,fun w hw=>nomatch hw⟩,?_,?_⟩
 ·rintro x r ρ ⟨sp,z5,z6,rfl,hl2,hw⟩
  sizeOf_list_dec
  refine⟨rfl,⟨by decide,by decide,by decide⟩,by show 3<=1000;decide,rfl,_,rfl,by decide,by decide,fun u u0 u1=>?_⟩
  left
  obtain⟨g,hg,hg0,hg1⟩:∃g:Int,atI [PyData.int 3,.int (st + 1),.int 1000000000000000000] u=some (.int g)/\0 < g/\g<=100000000000000000001:=by
   have hu:u=0\/u=1\/u=2:=by omega
   rcases hu with rfl | rfl | rfl
   ·exact⟨3,rfl,by decide,by decide⟩
   ·exact⟨st + 1,rfl,by omega,by omega⟩
   ·exact⟨1000000000000000000,rfl,by decide,by decide⟩
  rw[show ((10:Int) ^ (18:Int).toNat)=1000000000000000000 from rfl,hg]
  left
  refine⟨g,rfl,hg0,by omega,fun v v0 v1=>?_⟩
  refine go ?_;left
  refine⟨rfl,_,rfl,by omega,by omega,fun a a0 a1=>?_⟩
  left
  obtain⟨a',rfl,ha⟩:=A73 a0 a1
  refine⟨⟨by decide,by decide,by decide⟩,by decide,by rw[D5];simp at hl2;omega,sp++[(a',if 1 + v < 10 ^ A9u 18 then 1 + v else 10 ^ A9u 18)],_,_,by rw[O5];rfl,by simp at hl2 ⊢;omega,fun p hp=>?_⟩
  rcases O9.mp hp with z | z
  ·exact hw p z
  ·have z:=p6.mp z
   subst z
   refine⟨ha,?_⟩
   show (0:Int)<=if 1 + v < 10 ^ A9u 18 then 1 + v else 10 ^ A9u 18
   split
   ·omega
   ·decide
 ·rintro ρ ⟨sp,z5,z6,rfl,hl2,hw⟩
  refine go ?_;left
  exact q sp ⟨by simp at hl2;omega,fun p h=>(hw p h).1,fun p h=>(hw p h).2⟩
end
inductive Th where
 | pt (p:Pt)
 | us (k:Nat)
def thD:Th->PyData
 | .pt p=>G8 p
 | .us k=>.tuple [.str "use",.int ((k:Nat):Int)]
inductive TrB (ws:List Wy) (st:Int) (sp:List Sp2):Nat->Int->Nat->List Th->Nat->Int->Nat->Prop
 | nil {p x s}:TrB ws st sp p x s [] p x s
 | pt {p q x y s pt ths p' x' s'}:Trp ws p [pt] q->V6 ws st (some x) [pt]=some y->(0<=x/\x<=st)->pt.1.length<=12->TrB ws st sp q y s ths p' x' s'->TrB ws st sp p x s (.pt pt::ths) p' x' s'
 | us {p k g x y s ths p' x' s'}:sp[k]?=some (p,g)->sIn s k=false->K6 st x g=some y->TrB ws st sp p y (s + 2 ^ k) ths p' x' s'->TrB ws st sp p x s (.us k::ths) p' x' s'
theorem TrB.app {ws:List Wy} {st:Int} {sp:List Sp2} {p q r:Nat} {x y z:Int} {s t u:Nat} {as bs:List Th} (h:TrB ws st sp p x s as q y t) (k:TrB ws st sp q y t bs r z u):TrB ws st sp p x s (as++bs) r z u:=by
 induction h with
 | nil=>exact k
 | pt a b c d _ ih=>exact .pt a b c d (ih k)
 | us a b c _ ih=>exact .us a b c (ih k)
theorem C2i {ws:List Wy} {st:Int} {sp:List Sp2} (h0:0<=st):∀{ps:List Pt} {p q:Nat} {x y:Int} {s:Nat},Trp ws p ps q->V6 ws st (some x) ps=some y->0<=x->x<=st->(∀pt∈ps,pt.1.length<=12)->TrB ws st sp p x s (ps.map .pt) q y s:=fun {ps}=>by
 induction ps with
 | nil=>
  intro p q x y s h ha x0 x1 _
  cases h
  cases ha
  exact .nil
 | cons pt ps ih=>
  intro p q x y s h ha x0 x1 ht
  cases h with
  | @cons _ q1 _ _ _ hp hne h1 h24 hor htr=>
   have ha':V6 ws st (itF st (chs ws pt.1) pt.2.toNat (some x)) ps=some y:=ha
   cases e:itF st (chs ws pt.1) pt.2.toNat (some x) with
   | none=>rw[e,B6m] at ha';cases ha'
   | some z=>
    rw[e] at ha'
    obtain⟨_,z0,z1⟩:=C0u x0 x1 h1 (by rw[<-B10];exact e)
    exact .pt (.cons hp hne h1 h24 hor .nil) (show itF st (chs ws pt.1) pt.2.toNat (some x)=some z from e) ⟨x0,x1⟩ (ht pt C0) (ih htr ha' z0 z1 fun pt h=>ht pt (B6 _ h))
theorem D1r:∀k,k < 4->∀s,s < 16->sIn s k=true->sIn (s - 2 ^ k) k=false:=by decide
theorem Bas.last {m:Nat} {st:Int} {sp:List Sp2} {ts:List Tb} {s:Nat} {ks:List Nat} {c:Tb} {p:Nat} {y:Int} (B:Bas m st sp ts s ks c) (h:gt c p=some y):∃k∈ks,∃g,sp[k]?=some (p,g)/\lvG st ts (s - 2 ^ k) (p,g)=some y:=by
 have hpl:p < c.length:=by
  rcases A0v p c.length with z | z
  ·exact z
  ·rw[A35 z] at h;cases h
 by_cases z:∃k∈ks,∃g,sp[k]?=some (p,g)/\lvG st ts (s - 2 ^ k) (p,g)=some y
 ·exact z
 ·exfalso
  have:=B.le (c.set p (if y=0 then none else some (y - 1))) (fun k hk q hq=>?_) p
  ·rw[j5 hpl,if_pos rfl,h] at this
   split at this
   ·exact A0l this
   ·have:=V0.mp this;omega
  ·have h1:=B.up k hk q hq
   rw[j5 hpl]
   split
   ·rename_i e
    have e:q.1=p:=e.symm
    rw[e,h] at h1
    cases el:lvG st ts (s - 2 ^ k) q with
    | none=>exact B4d
    | some v=>
     rw[el] at h1
     have h1:=V0.mp h1
     have hne:v≠y:=fun ev=>z ⟨k,hk,q.2,by rw[hq,<-e],by rw[<-e,el,ev]⟩
     have hv0:0<=v:=by
      unfold lvG at el
      cases e3:gt (tbs ts (s - 2 ^ k)) q.1 with
      | none=>rw[e3] at el;cases el
      | some l=>
       rw[e3] at el
       have el:K6 st l q.2=some v:=el
       unfold K6 at el
       split at el
       ·cases el
       ·rename_i c0
        have:=(B.tab.bd p y h)
        cases el
        split <;> omega
     split
     ·omega
     ·exact V0.mpr (by omega)
   ·exact h1
def A6u (st:Int) (sp:List Sp2) (ts:List Tb) (s p:Nat) (y:Int):List Nat:=(Y3 sp.length s).filter fun k=>match sp[k]? with
 | some q=>decide (q.1=p)&&decide (lvG st ts (s - 2 ^ k) q=some y)
 | none=>false
theorem C2j {st:Int} {sp:List Sp2} {ts:List Tb} {s p k:Nat} {y:Int}:k∈A6u st sp ts s p y↔k∈Y3 sp.length s/\∃g,sp[k]?=some (p,g)/\lvG st ts (s - 2 ^ k) (p,g)=some y:=by
 unfold A6u
 rw[A8b]
 refine and_congr_right fun _=>?_
 cases e:sp[k]? with
 | none=>exact⟨fun z=>(nomatch z),fun ⟨g,z,_⟩=>nomatch z⟩
 | some q=>
  rw[U7,decide_eq_true_eq,decide_eq_true_eq]
  constructor
  ·rintro ⟨rfl,h⟩
   exact⟨q.2,rfl,h⟩
  ·rintro ⟨g,z,h⟩
   cases z
   exact⟨rfl,h⟩
def D1s:DSp:=fun ds Q=>∃(m:Nat) (st:Int) (sp:List Sp2) (ts:List Tb) (s p:Nat) (y:Int),ds=[.int st,.list (sp.map J6),.list (F8 ts),.int (s:Nat),.int (p:Nat),.int y]/\k9 m sp/\s < 2 ^ sp.length/\s<=ts.length/\(∀t∈ts,G7 m st t)/\(∃k,k∈A6u st sp ts s p y)/\∀k,k∈A6u st sp ts s p y->Q (.int ((k:Nat):Int))
section
variable {P:Program} {w:World} {K:B3} {mg:Str->Option Value} {base:Heap}
theorem D1t (T:Txt K mg):D0 P w K mg base CX0 3 T.f_last_spring.a T.f_last_spring.d ["store", "springs", "tables", "some", "place", "level"] (spD [.sh,.sh,.sh,.sh,.sh,.sh] D1s):=by
 have G_numbers_in:=@C2f P w K mg base T
 have b_numbers_in:=T.f_numbers_in.b
 have G_level_by_spring:=@C2g P w K mg base T
 have b_level_by_spring:=T.f_level_by_spring.b
 refine G1 T.f_last_spring.F C8k rfl (fun C cdv A outer s H E hr=>⟨_,(@B7 _ _ _ _ (@C8 _ _ _ _ _ (@L5 _ _ _ _ _ _ _ (@F1 _ _ _ _ (@A0h _ _ _ _ _ _ _ _ rfl (@Y6 _ _ _ _ _ _ _ _ _ _ _ _ _ _ _ (N5.new (N:=["store", "springs", "tables", "some", "place", "level"]) (osc:=C2 B1f) (by decide +kernel)) rfl (A07 (C4 (B4 G_numbers_in (hr.mono (by decide)) rfl T.f_numbers_in.m T.f_numbers_in.F.kp b_numbers_in .nil B5 (A5 (A1 (pv 1)) (A5 (A1 (pv 3)) C3 A0) A0) (he:=A0) (hpl:=(A2 A0 A3))))) (fun _=>(B3f (PW.pt (@A1w _ _ _ _ _ _ _ _ (E9 (P2 (K4 hr)) L9 (L5 (C7 (pv 1) (A1 (pv 6)) (fun _ _=>rfl)) (E7 (D6 (v:=V.int 0) rfl T.mg_PLACE_springs ⟨_,rfl⟩)) (fun _ _=>rfl)) (A1 (pv 4)) (C9 _)) (@A4z _ _ _ _ _ (@E9 _ _ _ _ _ _ _ _ _ _ (P2 (K4 hr)) L9 (C4 (B4 G_level_by_spring (hr.mono (by decide)) rfl T.f_level_by_spring.m T.f_level_by_spring.F.kp b_level_by_spring .nil B5 (A5 (A1 (pv 0)) (A5 (A1 (pv 1)) (F9 (pv 2) (A5 (A1 (pv 3)) (A5 (A1 (pv 6)) C3 A0) A0) A0) A0) A0) (he:=A0) (hpl:=(A2 A0 (A2 A0 (A2 A0 (A2 A0 A3))))))) (A1 (pv 5)) (C9 _))))))) (fun _=>(A1 (pv 6))) (by rfl) (by rfl) (by intro _;rfl)))) A6 (fun _ _=>rfl)))),fun ds Q hl h=>?_⟩)
 obtain⟨m,st,sp,ts,s,p,y,rfl,so,hs,hle,hT,⟨k0,hk0⟩,q⟩:=h
 have few:=so.few
 array_mem_dec
 refine⟨sp,s,rfl,few,hs,?_⟩
 array_mem_dec
 refine⟨⟨rfl,by rw[d8];have:=D1o (n:=sp.length) (s:=s) few;omega⟩,?_⟩
 unfold D4
 refine A83 (p:=fun k=>match sp[k]? with
  | some q=>decide (q.1=p)&&decide (lvG st ts (s - 2 ^ k) q=some y)
  | none=>false) (f:=fun k=>.int ((k:Nat):Int)) (fun k hk Q' q'=>?_) (fun k hk _ Q' q'=>?_) ?_
 ·have hk:=A6s hk
  obtain⟨r,hr⟩:=C2c hk.1
  have hle2:=A74 hk.2
  have hpp:=A0q k
  rw[hr] at q'
  dsimp only at q'
  left
  rw[A9h hr]
  unfold J6
  left
  refine⟨rfl,rfl,M3 _ _,?_⟩
  rw[Q2]
  by_cases c:r.1=p
  ·rw[show (((r.1:Nat):Int) == ((p:Nat):Int))=true from by rw[c];exact beq_self_eq_true _]
   rw[decide_eq_true c,Bool.true_and] at q'
   refine J0 ⟨rfl,m,st,sp,ts,s,k,r,rfl,by omega,hr,hle2,by omega,so.pl r (O2 hr),hT,?_⟩
   cases el:lvG st ts (s - 2 ^ k) r with
   | none=>
    rw[el] at q'
    refine⟨rfl,rfl,by show min 0 0<=64;decide,?_⟩
    exact q'
   | some v=>
    rw[el] at q'
    refine⟨rfl,rfl,M3 _ _,?_⟩
    rw[show (oD (some v)).eqv (.int y)=(v == y) from Q2 v y]
    by_cases c2:v=y
    ·rw[decide_eq_true (by rw[c2])] at q'
     rw[c2,beq_self_eq_true]
     exact q'
    ·rw[decide_eq_false (fun z=>c2 (Option.some.inj z))] at q'
     rw[beq_eq_false_iff_ne.mpr c2]
     exact q'
  ·rw[show (((r.1:Nat):Int) == ((p:Nat):Int))=false from beq_eq_false_iff_ne.mpr (by omega)]
   rw[decide_eq_false c,Bool.false_and] at q'
   exact G6 q'
 ·exact q'
 ·rw[Q9]
  have hf:((Y3 sp.length s).filter fun k=>match sp[k]? with
   | some q=>decide (q.1=p)&&decide (lvG st ts (s - 2 ^ k) q=some y)
   | none=>false)=A6u st sp ts s p y:=rfl
  rw[hf]
  cases e:A6u st sp ts s p y with
  | nil=>rw[e] at hk0;cases hk0
  | cons k1 r1=>
   rw[n8,A82]
   exact q k1 (by rw[e];exact C0)
end
abbrev TT0:Addr->Prop:=fun _=>True
def C2k (ths:List Th):PyData:=.list (ths.map thD)
def D1u (m:Nat) (ws:List Wy) (st:Int) (sp:List Sp2) (b:Tb) (p:Nat) (x:Int) (s:Nat) (f:Nat) (ths:List Th):Prop:=∃y,gt b f=some y/\TrB ws st sp f y 0 ths p x s/\ths.length<=700
def A78:Option (Nat×List Th)->PyData
 | none=>.none
 | some r=>.tuple [.int ((r.1:Nat):Int),C2k r.2]
def C2l:DSp:=fun ds Q=>∃(m:Nat) (ws:List Wy) (st:Int) (sp:List Sp2) (b:Tb) (s p:Nat),ds=[E8 m ws,.int st,.list (sp.map J6),.list (C5 b),.int (s:Nat),.int (p:Nat)]/\J8 m ws/\0<=st/\st<=1000000000000000000000/\k9 m sp/\G7 m st b/\s < 2 ^ sp.length/\p < m/\∀ts o,V8 m ws st sp b ts->(gt (tbs ts s) p=none->o=none)->(∀x,gt (tbs ts s) p=some x->∃f ths,o=some (f,ths)/\D1u m ws st sp b p x s f ths)->Q (A78 o)
theorem X0.uniq {m:Nat} {st:Int} {sp:List Sp2} {ts:List Tb} {b c d:Tb} {s:Nat} (h:X0 m st sp ts b s c) (k:X0 m st sp ts b s d):c=d:=by
 rcases h with ⟨z,rfl⟩ | ⟨z,B⟩
 ·rcases k with ⟨_,rfl⟩ | ⟨y,_⟩
  ·rfl
  ·omega
 ·rcases k with ⟨y,_⟩ | ⟨_,B'⟩
  ·omega
  ·exact B4h (B.tab.len.trans B'.tab.len.symm) fun p=>B93 (B.le d B'.up p) (B'.le c B.up p)
theorem C2m (ps:List Pt):(ps.map Th.pt).map thD=ps.map G8:=by rw[p5];rfl
theorem C2n {G:Addr->Prop} {H:Hp} {v:V} {trs:List (Option Rd)} {fp:List Addr} {p:Nat} {r:Rd} (T:FpV G H v (.list (trs.map trO)) fp) (nd:fp.Nodup) (hr:trs[p]?=some (some r)):∃a us tf lt uss fpp,v=.ref a/\H a=some (.lst us)/\us[p]?=some (.ref tf)/\H tf=some (.tup [.int ((r.1:Nat):Int),.ref lt])/\(G lt/\H lt=some (.lst uss))/\G0 G H uss (r.2.map G8) fpp/\(lt::fpp).Nodup/\∀b∈lt::fpp,b∈fp:=by
 obtain⟨a,us,fq,rfl,rfl,_,ea,T2⟩:=B02 T
 have nd1:=A0s.mp nd
 obtain⟨v2,fp2,hv,tv,n2,hm,_⟩:=T2.put nd1.2 (show (trs.map trO)[p]?=some (j8 r) by rw[M7,hr];rfl)
 obtain⟨tu,ws,rfl,wu,eu,T3⟩:=C7w tv
 obtain⟨w,w2,f1,f2,rfl,rfl,T4,T5⟩:=C7x T3
 cases T4
 obtain⟨t,uss,fpp,rfl,rfl,wt,et,T6⟩:=B02 T5
 exact⟨a,us,tu,t,uss,fpp,rfl,ea,hv,eu,⟨wt,et⟩,T6,n2,fun b hb=>B6 _ (hm b hb)⟩
abbrev D1v:Sp:=A7v [.bd,.sh,.bd,.bd,.sh,.sh] C2l
section
variable {P:Program} {w:World} {K:B3} {mg:Str->Option Value} {base:Heap}
theorem D1w (T:Txt K mg):D0 P w K mg base CX0 11 T.f_trip_by.a T.f_trip_by.d ["land", "store", "springs", "base", "some", "place"] D1v:=by
 have G_highest_by:=@C2h P w K mg base T
 have b_highest_by:=T.f_highest_by.b
 have G_base_by:=@B12 P w K mg base T
 have b_base_by:=T.f_base_by.b
 have G_trips_to:=@D0p P w K mg base T
 have b_trips_to:=T.f_trips_to.b
 have G_last_spring:=@D1t P w K mg base T
 have b_last_spring:=T.f_last_spring.b
 have G_alone:=@A77 P w K mg base T
 have b_alone:=T.f_alone.b
 refine T.f_trip_by.F.ok A1b (fun vs H Q E h=>?_) (fun cdv A outer s H vs Q E hr h=>?_)
 ·obtain⟨_,_,_,_,_,_,_,a,_⟩:=h
  rw[a.len.1];rfl
 ·obtain⟨F0,hand,ds,Qd,_,_,hq,ar,hsp,toldQ⟩:=h
  obtain⟨m,ws,st,sp,b,so,p,rfl,ok,h0,hst,hspr,hb,hso,hp,q⟩:=hsp
  cases ar with
  | @cons _ vl _ _ _ _ tl ar=>
  cases ar with
  | @cons _ vst _ _ _ _ tst ar=>
  cases ar with
  | @cons _ vsp _ _ _ _ tsp ar=>
  cases ar with
  | @cons _ vb _ _ _ _ tb ar=>
  cases ar with
  | @cons _ vso _ _ _ _ tso ar=>
  cases ar with
  | @cons _ vp _ _ _ _ tp ar=>
  cases ar
  cases (show ThV F0 H vst (.int st) from tst)
  cases (show ThV F0 H vso (.int ((so:Nat):Int)) from tso)
  cases (show ThV F0 H vp (.int ((p:Nat):Int)) from tp)
  refine⟨_,(E6 (B9 (i:=6) A1b.nd rfl (A8 rfl) (B4 G_highest_by (hr.mono (by decide)) rfl T.f_highest_by.m T.f_highest_by.F.kp b_highest_by .nil B5 (A4 (pv 0) (A4 (pv 1) (A4 (pv 2) (A4 (pv 3) B8 A0) A0) A0) A0) (he:=A0) (hpl:=(A2 A0 (A2 A0 (A2 A0 A3))))))
   (E6 (i9 (Z8 (U1 U8 (D9 J3 (D9 J3 (pv 6) (pv 4) (fun _ _=>rfl)) (pv 5) (fun _ _=>rfl)) A2q (C9 _))
   (M2 (Q3 A2q))
   g5))
   (E6 (B9 (i:=7) A1b.nd rfl (A8 rfl) (pv 4))
   (E6 (B9 (i:=8) A1b.nd rfl (A8 rfl) (D9 J3 (B4 G_trips_to (hr.mono (by decide)) rfl T.f_trips_to.m T.f_trips_to.F.kp b_trips_to .nil B5 (A4 (pv 0) (A4 (pv 1) (A4 (B4 G_base_by (hr.mono (by decide)) rfl T.f_base_by.m T.f_base_by.F.kp b_base_by .nil B5 (A4 (pv 1) (A4 (pv 2) (A4 (pv 6) (A4 (pv 3) (A4 (pv 7) B8 A0) A0) A0) A0) A0) (he:=A0) (hpl:=(A2 A0 (A2 A0 (A2 A0 (A2 A0 A3)))))) B8 E5) A0) A0) (he:=A0) (hpl:=(A2 A0 (A2 E5 A3)))) (pv 5) (fun _ _=>rfl)))
   (E6 (B9 (i:=9) A1b.nd rfl (A8 rfl) (D9 J3 (pv 8) D1 (fun _ _=>rfl)))
   (E6 (A8p O6 (U1 v7 (pv 7) D1 (C9 _))
   (E6 (B9 (i:=10) A1b.nd rfl (A8 rfl) (D9 J3 (B4 G_base_by (hr.mono (by decide)) rfl T.f_base_by.m T.f_base_by.F.kp b_base_by .nil B5 (A4 (pv 1) (A4 (pv 2) (A4 (pv 6) (A4 (pv 3) (A4 (pv 7) B8 A0) A0) A0) A0) A0) (he:=A0) (hpl:=(A2 A0 (A2 A0 (A2 A0 (A2 A0 A3)))))) (D9 J3 (pv 8) D1 (fun _ _=>rfl)) (fun _ _=>rfl)))
   (E6 (B9 (i:=11) A1b.nd rfl (A8 rfl) (B4 G_last_spring (hr.mono (by decide)) rfl T.f_last_spring.m T.f_last_spring.F.kp b_last_spring .nil B5 (A4 (pv 1) (A4 (pv 2) (A4 (pv 6) (A4 (pv 7) (A4 (D9 J3 (pv 8) D1 (fun _ _=>rfl)) (A4 (pv 10) B8 A0) B0) A0) A0) A0) A0) (he:=A0) (hpl:=(A2 A0 (A2 A0 (A2 A0 (A2 B0 (A2 A0 A3))))))))
   (E6 (B9 (i:=7) A1b.nd rfl (A8 rfl) (N8 A1r (pv 7) (B4 G_alone (hr.mono (by decide)) rfl T.f_alone.m T.f_alone.F.kp b_alone .nil B5 (A4 (pv 11) B8 A0) (he:=A0) (hpl:=A3))))
   (E6 (B9 (i:=8) A1b.nd rfl (A8 rfl) (D9 J3 (B4 G_trips_to (hr.mono (by decide)) rfl T.f_trips_to.m T.f_trips_to.F.kp b_trips_to .nil B5 (A4 (pv 0) (A4 (pv 1) (A4 (B4 G_base_by (hr.mono (by decide)) rfl T.f_base_by.m T.f_base_by.F.kp b_base_by .nil B5 (A4 (pv 1) (A4 (pv 2) (A4 (pv 6) (A4 (pv 3) (A4 (pv 7) B8 A0) A0) A0) A0) A0) (he:=A0) (hpl:=(A2 A0 (A2 A0 (A2 A0 (A2 A0 A3)))))) B8 E5) A0) A0) (he:=A0) (hpl:=(A2 A0 (A2 E5 A3)))) (D9 J3 (pv 8) D1 (fun _ _=>rfl)) (fun _ _=>rfl)))
   (M2 (B9 (i:=9) A1b.nd rfl (A8 rfl) (N8 A97 (N8 A97 (D9 J3 (pv 8) D1 (fun _ _=>rfl)) (A93 (A4 (l7 (A4 (D6 (v:=V.str "use") rfl T.mg_USE ⟨_,rfl⟩) (A4 (pv 11) B8 A0) A0)) B8 A1u))) (pv 9)))))))))
   (M2 (Q3 (l7 (A4 (D9 J3 (pv 8) D1 (fun _ _=>rfl)) (A4 (pv 9) B8 A0) B0)))))))))),?_⟩
  try dsimp only[X8,Cx.nox]
  have few:=hspr.few
  have p16:=pw4 sp.length (by omega)
  have m2:=ok.m2
  have tl0:ThV TT0 H vl (E8 m ws):=ThV.mv (fun b o _ e=>⟨trivial,e⟩) tl
  have tsp0:ThV TT0 H vsp (.list (sp.map J6)):=ThV.mv (fun b o _ e=>⟨trivial,e⟩) tsp
  have tb0:ThV TT0 H vb (.list (C5 b)):=ThV.mv (fun b o _ e=>⟨trivial,e⟩) tb
  let G:Addr->Prop:=fun b=>H b=none\/∃xs,H b=some (.tup xs)
  have GT:(∀b:Addr,H b=none->TT0 b)/\∀(b:Addr) (xs:List V),H b=some (.tup xs)->TT0 b:=⟨fun _ _=>trivial,fun _ _ _=>trivial⟩
  refine⟨vl,rfl,.int st,rfl,vsp,rfl,vb,rfl,?_⟩
  refine⟨TT0,none,[E8 m ws,.int st,.list (sp.map J6),.list (C5 b)],fun d=>∃ts,d=.list (F8 ts)/\V8 m ws st sp b ts,GT,fun q hq=>(nomatch hq),fun q hq=>(nomatch hq),.cons tl0 (.cons (.int _) (.cons tsp0 (.cons tb0 .nil))),⟨m,ws,st,sp,b,rfl,ok,h0,hst,hspr,hb,fun ts hT=>⟨ts,rfl,hT⟩⟩,fun d6 v6 H1 hd6 t6 k1 _=>?_⟩
  obtain⟨ts,rfl,hT⟩:=hd6
  have s1:=j9 k1
  have hlid:=hT.lid
  have tlen:=hT.len
  obtain⟨a6,us6,rfl,_,e6,t6'⟩:=K1 t6
  have so2:so < ts.length:=by rw[tlen];exact hso
  have tab:∀s,s < ts.length->G7 m st (tbs ts s):=fun s hs=>hlid.tab _ (A2m hs)
  have baseC:∀(s:Nat) (H':Hp) (Q':VK),s < 2 ^ sp.length->Same H1 H'->(∀c v' H'',X0 m st sp ts b s c->ThV TT0 H'' v' (.list (C5 c))->Same H' H''->Q' v' H'')->spD [.sh,.sh,.bo,.sh,.sh] C2d [.int st,vsp,.ref a6,vb,.int ((s:Nat):Int)] H' Q' E0:=fun s H' Q' hs sm kk=>⟨TT0,none,[.int st,.list (sp.map J6),.list (F8 ts),.list (C5 b),.int ((s:Nat):Int)],fun d=>∃c,d=.list (C5 c)/\X0 m st sp ts b s c,⟨fun _ _=>trivial,fun _ _ _=>trivial⟩,fun q hq=>(nomatch hq),fun q hq=>(nomatch hq),.cons (.int _) (.cons (ThV.mv (fun b o _ e=>⟨trivial,sm _ _ (s1 _ _ e)⟩) tsp0) (.cons ⟨a6,us6,F8 ts,rfl,rfl,fun q hq=>(nomatch hq),sm _ _ e6,t6'.mv fun b o _ e=>⟨trivial,sm _ _ e⟩⟩ (.cons (ThV.mv (fun b o _ e=>⟨trivial,sm _ _ (s1 _ _ e)⟩) tb0) (.cons (.int _) .nil)))),⟨m,st,sp,ts,b,s,rfl,hspr,h0,hb,by omega,hs,by rw[tlen];omega,fun t ht=>hlid.tab t ht,fun c B=>⟨c,rfl,B⟩⟩,fun d v' H'' hd t k _=>by obtain⟨c,rfl,B⟩:=hd;exact kk c v' H'' B t (j9 k)⟩
  have tripsC:∀(c:Tb) (v':V) (H':Hp) (Q':VK),G7 m st c->Same H H'->ThV TT0 H' v' (.list (C5 c))->(∀t trs v'' H'' fp,U5 m ws st c t->B6l m ws st c t trs->FpV (fun b=>H' b=none\/∃xs,H' b=some (.tup xs)) H'' v'' (.list (trs.map trO)) fp->fp.Nodup->Same H' H''->Q' v'' H'')->C14 [vl,.int st,v'] H' Q' E0:=fun c v' H' Q' hc sm tv kk=>⟨TT0,none,[E8 m ws,.int st,.list (C5 c)],fun d=>∃t trs,d=.list (trs.map trO)/\U5 m ws st c t/\B6l m ws st c t trs,⟨fun _ _=>trivial,fun _ _ _=>trivial⟩,fun q hq=>(nomatch hq),fun q hq=>(nomatch hq),.cons (ThV.mv (fun b o _ e=>⟨fun q hq=>(nomatch hq),sm _ _ e⟩) tl0) (.cons (.int _) (.cons (ThV.mv (fun b o _ e=>⟨fun q hq=>(nomatch hq),e⟩) tv) .nil)),⟨m,ws,st,c,rfl,ok,h0,hst,hc,fun t trs hL _ hR=>⟨t,trs,rfl,hL,hR⟩⟩,fun d v'' H'' fp hd t nd k _=>by obtain⟨t',trs,rfl,hL,hR⟩:=hd;exact kk t' trs v'' H'' fp hL hR t nd (j9 k)⟩
  have tabL0:∀(s:Nat) (c t:Tb),s < ts.length->X0 m st sp ts b s c->U5 m ws st c t->t=tbs ts s:=fun s c t hs B L=>by
   obtain⟨c',B',L'⟩:=hT.all s hs
   cases B.uniq B'
   exact L.uniq L'
  obtain⟨vrow,hvr,tvr⟩:=A10 t6' (C2b so2)
  obtain⟨arow,usr,rfl,_,erow,trow⟩:=K1 tvr
  obtain⟨vlev,hvl,tvl⟩:=A10 trow (show atI (C5 (tbs ts so)) ((p:Nat):Int)=some (oD (gt (tbs ts so) p)) from j6 (by rw[(tab so so2).len];exact hp))
  obtain⟨σ6,hσ6⟩:∃σ6:L2.St,σ6=[some vl,some (.int st),some vsp,some vb,some (.int ((so:Nat):Int)),some (.int ((p:Nat):Int)),some (.ref a6),none,none,none,none,none]:=⟨_,rfl⟩
  refine⟨fun σ' H'=>σ'=σ6/\H'=H1/\∃x,gt (tbs ts so) p=some x,?_,?_⟩
  ·refine⟨_,rfl,_,rfl,.inl ⟨a6,us6,_,_,rfl,rfl,SqL.of e6,hvr,_,rfl,.inl ⟨arow,usr,_,_,rfl,rfl,SqL.of erow,hvl,rfl,_,rfl,?_⟩⟩⟩
   rw[B0g tvl]
   cases e:gt (tbs ts so) p with
   | none=>
    refine J0 ?_
    exact toldQ _ .non H1 [] (q ts none hT (fun _=>rfl) (fun x z=>by rw[e] at z;cases z)) .non B2p (Kq.same s1) (hq.same s1)
   | some x=>exact G6 ⟨hσ6.symm,rfl,x,rfl⟩
  rintro σ' H' ⟨rfl,rfl,x,hx⟩
  rw[hσ6]
  refine⟨_,rfl,?_⟩
  refine⟨_,rfl,_,rfl,_,rfl,_,rfl,_,rfl,_,rfl,_,rfl,?_⟩
  refine baseC so H' _ hso (Same.refl _) fun c v' H2 B tc s2=>?_
  have s02:Same H H2:=fun b o e=>s2 _ _ (s1 _ _ e)
  refine tripsC c v' H2 _ (B.tab hb) s02 tc fun t trs v3 H3 fp3 hL hR t3 nd3 s3=>?_
  have et:=tabL0 so c t so2 B hL
  subst et
  obtain⟨r,hr,hTr⟩:=hR.yes p x hx
  obtain⟨y0,hy0,har⟩:=hTr.arr
  have hy1:=(B.tab hb).bd _ _ hy0
  obtain⟨t3',nw3⟩:=t3.early s02 s3
  obtain⟨a3,us3,tf,lt,uss,fpp,rfl,ea3,hv3,etf,⟨glt,elt⟩,Tp,ndl,inl⟩:=C2n t3' nd3 hr
  have s13:Same H' H3:=fun b o e=>s3 _ _ (s2 _ _ e)
  refine⟨_,rfl,.inl ⟨a3,us3,_,_,rfl,rfl,SqL.of ea3,P0 hv3,?_⟩⟩
  refine⟨_,rfl,.inr (.inl ⟨tf,_,1,_,rfl,rfl,SqT.of etf,rfl,?_⟩)⟩
  refine⟨fun n σ Hn=>∃(left f:Nat) (y:Int) (c:Tb) (ths:List Th) (tf lt tr:Addr) (us:List V) (fp:List Addr) (z10 z11:Option V),left=n/\σ=[some vl,some (.int st),some vsp,some vb,some (.int ((so:Nat):Int)),some (.int ((p:Nat):Int)),some (.ref a6),some (.int ((left:Nat):Int)),some (.ref tf),some (.ref tr),z10,z11]/\Same H' Hn/\left < 2 ^ sp.length/\Hn tf=some (.tup [.int ((f:Nat):Int),.ref lt])/\(G tr/\Hn tr=some (.lst us))/\G0 G Hn us (ths.map thD) fp/\(tr::fp).Nodup/\X0 m st sp ts b left c/\gt c f=some y/\TrB ws st sp f y left ths p x so/\ths.length + 41 * left<=40 + 41 * so,⟨so,so,r.1,y0,c,r.2.map Th.pt,tf,lt,lt,uss,fpp,none,none,rfl,rfl,s13,hso,etf,⟨glt,elt⟩,by rw[C2m];exact Tp,ndl,B,hy0,C2i h0 hTr.trp har hy1.1 hy1.2 hTr.thin,by rw[D5];have:=hTr.few;omega⟩,?_⟩
  rintro n σ Hn ⟨left,f,y,c,ths,tf,lt,tr,us,fp,z10,z11,rfl,rfl,sm,hleft,etf,⟨gtr,etr⟩,Tt,ndt,B,hy,hTB,hlen⟩
  have hfm:f < m:=by
   rcases A0v f m with z | z
   ·exact z
   ·rw[A35 (by rw[(B.tab hb).len];exact z)] at hy;cases hy
  refine⟨_,rfl,_,_,rfl,rfl,_,rfl,?_⟩
  by_cases hl0:left=0
  ·-- all are used
   subst hl0
   refine G6 ?_
   rcases B with ⟨_,rfl⟩ | ⟨z,_⟩
   ·refine⟨_,rfl,.inr (.inl ⟨tf,_,0,_,rfl,rfl,SqT.of etf,rfl,_,rfl,by show 2<=sizeLine;decide,fun u hu=>?_⟩)⟩
    have k5:∀b o,Hn b=some o->upd Hn u (.tup [.int ((f:Nat):Int),.ref tr]) b=some o:=fun b o e=>by rw[C1 (N7 e hu)];exact e
    have S:Same H (upd Hn u (.tup [.int ((f:Nat):Int),.ref tr])):=fun b o e=>k5 _ _ (sm _ _ (s1 _ _ e))
    have un:H u=none:=by
     cases z:H u with
     | none=>rfl
     | some o=>rw[sm _ _ (s1 _ _ z)] at hu;cases hu
    refine toldQ (A78 (some (f,ths))) (.ref u) _ ([]++((tr::fp)++[])) (q ts _ hT (fun z=>by rw[hx] at z;cases z) (fun x' z=>?_)) (.tup (.inl un) E4 (.cons (.int _) (.cons (.lst gtr (k5 _ _ etr) (Tt.mvm fun b o g e _=>⟨g,k5 _ _ e⟩)) .nil))) (by simpa using ndt) (Kq.same S) (hq.same S)
    rw[hx] at z
    cases z
    exact⟨f,ths,rfl,y,hy,hTB,by omega⟩
   ·exact absurd z (V9 _)
  ·rw[decide_eq_true (show (0:Int) < ((left:Nat):Int) by omega)]
   refine J0 ?_
   obtain⟨B1⟩:Nonempty (Bas m st sp ts left (Y3 sp.length left) c):=by
    rcases B with ⟨z,_⟩ | ⟨_,B1⟩
    ·exact absurd z hl0
    ·exact⟨B1⟩
   obtain⟨k0,hk0,g0,hg0,hlv0⟩:=B1.last hy
   refine⟨_,fun σ' H2 h=>h,?_⟩
   refine⟨_,rfl,_,rfl,_,rfl,_,rfl,_,rfl,?_⟩
   refine baseC left Hn _ hleft sm fun c' v' Hb B' tc sb=>?_
   cases B.uniq B'
   obtain⟨abv,ubs,rfl,_,eab,tab'⟩:=K1 tc
   obtain⟨vlv,hvlv,tvlv⟩:=A10 tab' (show atI (C5 c) ((f:Nat):Int)=some (oD (gt c f)) from j6 (by rw[(B.tab hb).len];exact hfm))
   rw[hy] at tvlv
   cases (show ThV TT0 Hb vlv (.int y) from tvlv)
   refine⟨_,rfl,.inr (.inl ⟨tf,_,0,_,rfl,rfl,SqT.of (sb _ _ etf),rfl,.inl ⟨abv,ubs,_,_,rfl,rfl,SqL.of eab,hvlv,?_⟩⟩)⟩
   have smb:Same H' Hb:=fun b o e=>sb _ _ (sm _ _ e)
   refine⟨_,rfl,_,rfl,_,rfl,_,rfl,_,rfl,.inr (.inl ⟨tf,_,0,_,rfl,rfl,SqT.of (sb _ _ etf),rfl,_,rfl,?_⟩)⟩
   refine⟨TT0,none,[.int st,.list (sp.map J6),.list (F8 ts),.int ((left:Nat):Int),.int ((f:Nat):Int),.int y],fun d=>∃k,d=.int ((k:Nat):Int)/\k∈A6u st sp ts left f y,⟨fun _ _=>trivial,fun _ _ _=>trivial⟩,fun q hq=>(nomatch hq),fun q hq=>(nomatch hq),.cons (.int _) (.cons (ThV.mv (fun b o _ e=>⟨trivial,smb _ _ (s1 _ _ e)⟩) tsp0) (.cons (.lst trivial (smb _ _ e6) (t6'.mv fun b o _ e=>⟨trivial,smb _ _ e⟩)) (.cons (.int _) (.cons (.int _) (.cons (.int _) .nil))))),⟨m,st,sp,ts,left,f,y,rfl,hspr,hleft,by rw[tlen];omega,fun t ht=>hlid.tab t ht,⟨k0,C2j.mpr ⟨hk0,g0,hg0,hlv0⟩⟩,fun k hk=>⟨k,rfl,hk⟩⟩,fun dk vk Hc hdk tk kc _=>?_⟩
   obtain⟨k,rfl,hk⟩:=hdk
   cases (show ThV TT0 Hc vk (.int ((k:Nat):Int)) from tk)
   have sc:=j9 kc
   obtain⟨hkn,g,hg,hlv⟩:=C2j.mp hk
   have hkk:=A6s hkn
   have hle:=A74 hkk.2
   have hpp:=A0q k
   refine⟨_,rfl,_,rfl,?_⟩
   refine⟨TT0,none,[.int ((k:Nat):Int)],fun d=>d=.int ((2 ^ k:Nat):Int),⟨fun _ _=>trivial,fun _ _ _=>trivial⟩,fun q hq=>(nomatch hq),fun q hq=>(nomatch hq),.cons (.int _) .nil,⟨k,rfl,by omega,rfl⟩,fun dp vp Hd hdp tp' kd _=>?_⟩
   subst hdp
   cases (show ThV TT0 Hd vp (.int ((2 ^ k:Nat):Int)) from tp')
   have sd:=j9 kd
   refine⟨_,_,rfl,rfl,?_⟩
   dsimp only
   rw[ixS (ts:=ts) hle]
   have smd:Same H' Hd:=fun b o e=>sd _ _ (sc _ _ (smb _ _ e))
   have hl2:left - 2 ^ k < 2 ^ sp.length:=by omega
   have hl3:left - 2 ^ k < ts.length:=by rw[tlen];exact hl2
   refine⟨_,rfl,_,rfl,_,rfl,_,rfl,_,rfl,_,rfl,_,rfl,?_⟩
   refine baseC (left - 2 ^ k) Hd _ hl2 smd fun c2 v2 He B2 tc2 se=>?_
   have sme:Same H' He:=fun b o e=>se _ _ (smd _ _ e)
   refine tripsC c2 v2 He _ (B2.tab hb) (fun b o e=>sme _ _ (s1 _ _ e)) tc2 fun t2 trs2 v3 Hf fp3 hL2 hR2 t3 nd3 sf=>?_
   have et2:=tabL0 (left - 2 ^ k) c2 t2 hl3 B2 hL2
   subst et2
   have hlv':((gt (tbs ts (left - 2 ^ k)) f).bind fun x=>K6 st x g)=some y:=hlv
   obtain⟨x2,hx2,hst2⟩:=Option.bind_eq_some_iff.mp hlv'
   obtain⟨r2,hr2,hTr2⟩:=hR2.yes f x2 hx2
   obtain⟨y2,hy2,har2⟩:=hTr2.arr
   have hyb:=(B2.tab hb).bd _ _ hy2
   obtain⟨t3',nw3⟩:=t3.early (fun b o e=>sme _ _ (s1 _ _ e)) sf
   obtain⟨a3,us3,tf2,lt2,uss2,fpp2,rfl,ea3,hv3,etf2,⟨glt2,elt2⟩,Tp2,ndl2,inl2⟩:=C2n t3' nd3 hr2
   have snf:Same Hn Hf:=fun b o e=>sf _ _ (se _ _ (sd _ _ (sc _ _ (sb _ _ e))))
   refine⟨_,rfl,.inr (.inl ⟨tf,_,0,_,rfl,rfl,SqT.of (snf _ _ etf),rfl,.inl ⟨a3,us3,_,_,rfl,rfl,SqL.of ea3,P0 hv3,?_⟩⟩)⟩
   refine⟨_,rfl,.inr (.inl ⟨tf2,_,1,_,rfl,rfl,SqT.of etf2,rfl,_,rfl,by show 2<=sizeLine;decide,fun u hu=>⟨by show 1<=sizeLine;decide,fun l1 hl1=>?_⟩⟩)⟩
   obtain⟨H5,hH5⟩:∃H5,H5=upd (upd Hf u (.tup [.str "use",.int ((k:Nat):Int)])) l1 (.lst [.ref u]):=⟨_,rfl⟩
   have k5:∀b o,Hf b=some o->H5 b=some o:=fun b o e=>by
    have e1:upd Hf u (.tup [.str "use",.int ((k:Nat):Int)]) b=some o:=by rw[C1 (N7 e hu)];exact e
    rw[hH5,C1 (N7 e1 hl1)];exact e1
   have eu5:H5 u=some (.tup [.str "use",.int ((k:Nat):Int)]):=by rw[hH5,C1 (N7 E4 hl1)];exact E4
   have el5:H5 l1=some (.lst [.ref u]):=by rw[hH5];exact E4
   have fl2:=Tp2.len
   rw[D5] at fl2
   have ft:=Tt.len
   rw[D5] at ft
   have fw2:=hTr2.few
   rw[<-hH5]
   refine⟨lt2,l1,uss2,[.ref u],rfl,rfl,k5 _ _ elt2,el5,by rw[fl2,sizeLine_eq];show r2.2.length + 1<=_;omega,fun c6 hc6=>?_⟩
   have k6:∀b o,H5 b=some o->upd H5 c6 (.lst (uss2++[.ref u])) b=some o:=fun b o e=>by rw[C1 (N7 e hc6)];exact e
   refine⟨_,rfl,c6,tr,uss2++[.ref u],us,rfl,rfl,E4,k6 _ _ (k5 _ _ (snf _ _ etr)),by rw[M4,fl2,ft,sizeLine_eq];show r2.2.length + 1 + ths.length<=_;omega,fun c7 hc7=>?_⟩
   obtain⟨H7,hH7⟩:∃H7,H7=upd (upd H5 c6 (.lst (uss2++[.ref u]))) c7 (.lst (uss2++[.ref u]++us)):=⟨_,rfl⟩
   rw[<-hH7]
   have k8:∀b o,H5 b=some o->H7 b=some o:=fun b o e=>by
    have e1:=k6 _ _ e
    rw[hH7,C1 (N7 e1 hc7)];exact e1
   have k7:∀b o,Hf b=some o->H7 b=some o:=fun b o e=>k8 _ _ (k5 _ _ e)
   have c7n:Hf c7=none:=by
    cases z:Hf c7 with
    | none=>rfl
    | some o=>rw[k6 _ _ (k5 _ _ z)] at hc7;cases hc7
   have toH:∀b,Hf b=none->H b=none:=fun b hb'=>by
    cases z:H b with
    | none=>rfl
    | some o=>rw[sf _ _ (sme _ _ (s1 _ _ z))] at hb';cases hb'
   refine⟨left - 2 ^ k,by omega,left - 2 ^ k,r2.1,y2,c2,r2.2.map Th.pt++(.us k::ths),tf2,lt2,c7,uss2++[.ref u]++us,fpp2++fp,_,_,rfl,rfl,fun b o e=>k7 _ _ (sf _ _ (sme _ _ e)),hl2,k7 _ _ etf2,⟨.inl (toH _ c7n),by rw[hH7];exact E4⟩,?_,?_,B2,hy2,?_,?_⟩
   ·rw[O5,C2m,n8,A1h]
    refine (Tp2.mvm fun b o g' e _=>⟨g',k7 _ _ e⟩).append ?_
    refine G0.cons (fp:=[]) (fps:=fp) (.tup (.inl (toH _ hu)) (k8 _ _ eu5) (G0.cons (fp:=[]) (fps:=[]) (.str _) (G0.cons (fp:=[]) (fps:=[]) (.int _) .nil))) (Tt.mvm fun b o g' e _=>⟨g',k7 _ _ (snf _ _ e)⟩)
   ·have nf2:=A0s.mp ndl2
    have nft:=A0s.mp ndt
    refine A0s.mpr ⟨fun hb'=>?_,A65.mpr ⟨nf2.2,nft.2,fun b1 hb1 b2 hb2 z=>?_⟩⟩
    ·rcases O9.mp hb' with h | h
     ·obtain⟨_,xs,ex⟩:=Tp2.mem c7 h
      rw[c7n] at ex;cases ex
     ·obtain⟨_,xs,ex⟩:=Tt.mem c7 h
      rw[snf _ _ ex] at c7n;cases c7n
    ·subst z
     obtain⟨_,xs,ex⟩:=Tt.mem b1 hb2
     have:=nw3 b1 (inl2 b1 (B6 _ hb1))
     rw[se _ _ (sd _ _ (sc _ _ (sb _ _ ex)))] at this;cases this
   ·refine (C2i h0 hTr2.trp har2 hyb.1 hyb.2 hTr2.thin).app (.us hg (D1r k (by omega) left (by omega) hkk.2) hst2 ?_)
    rw[Nat.sub_add_cancel hle]
    exact hTB
   ·rw[M4,D5,K8]
    omega
end
def B13 (K:B3):Sp:=fun vs H Q _=>∃(a:Addr) (ns:List Int),vs=[.ref a]/\SqL K H a (ns.map V.int)/\ns.length<=63/\∀H',Q (.bl true) H'
def D1x:DSp:=fun ds Q=>∃d,ds=[d]/\∀m ws st sp b,J8 m ws->0<=st->st<=100000000000000000000->k9 m sp->G7 m st b->Q (.tuple [E8 m ws,.int st,.list (sp.map J6),.list (C5 b)])
def Z6 (m:Nat) (ws:List Wy) (st:Int) (sp:List Sp2) (b:Tb):PyData:=.tuple [E8 m ws,.int st,.list (sp.map J6),.list (C5 b)]
def D1y:DSp:=fun ds Q=>∃(m:Nat) (ws:List Wy) (st:Int) (sp:List Sp2) (p p' s':Nat) (x x':Int) (ths:List Th),ds=[E8 m ws,.int st,.list (sp.map J6),.int ((p:Nat):Int),.int x,.list (ths.map thD)]/\J8 m ws/\k9 m sp/\TrB ws st sp p x 0 ths p' x' s'/\Q (.list [.int ((p':Nat):Int),.int x',.int ((s':Nat):Int)])
theorem B6p:(PyData.str (Str.ofString "use")).canLay0=true:=by decide +kernel
theorem D1z (s k:Nat):(((s:Nat):Int) / ((2 ^ k:Nat):Int) % 2 == 1)=sIn s k:=by
 rw[show ((s:Nat):Int) / ((2 ^ k:Nat):Int) % 2=((s / 2 ^ k % 2:Nat):Int) by omega]
 unfold sIn
 rcases Nat.mod_two_eq_zero_or_one (s / 2 ^ k) with h | h <;> rw[h] <;> rfl
theorem C2o (k:Nat):(1:Int) * 2 ^ (((k:Nat):Int)).toNat=((2 ^ k:Nat):Int):=by rw[Int.one_mul,A1g,Int.natCast_pow];rfl
section
variable {P:Program} {w:World} {K:B3} {mg:Str->Option Value} {base:Heap}
theorem C2p (T:Txt K mg):D0 P w K mg base CX0 6 T.f_spring_case.a T.f_spring_case.d ["_law_hand_here"] (spD [.hd] D1x):=by
 have G_draw:=@A1c P w K mg base T
 have b_draw:=T.f_draw.b
 have G_scale:=@D07 P w K mg base T
 have b_scale:=T.f_scale.b
 have G_store:=@D09 P w K mg base T
 have b_store:=T.f_store.b
 have G_land:=@D1a P w K mg base T
 have b_land:=T.f_land.b
 have G_springs:=@D1q P w K mg base T
 have b_springs:=T.f_springs.b
 have G_table:=@D1b P w K mg base T
 have b_table:=T.f_table.b
 refine G1 T.f_spring_case.F A6o rfl (fun C cdv A outer s H E hr=>⟨_,(@D3 _ _ _ _ _ _ (E3 (B9 (i:=1) A6o.nd rfl (A8 rfl) (C4 (B4 G_scale (hr.mono (by decide)) rfl T.f_scale.m T.f_scale.F.kp b_scale .nil B5 (F9 (pv 0) C3 A0) (he:=A0) (hpl:=A3))))) (@D3 _ _ _ _ _ _ (E3 (B9 (i:=2) A6o.nd rfl (A8 rfl) (C4 (B4 G_store (hr.mono (by decide)) rfl T.f_store.m T.f_store.F.kp b_store .nil B5 (F9 (pv 0) (A5 (A1 (pv 1)) C3 A0) A0) (he:=A0) (hpl:=(A2 A0 A3)))))) (@D3 _ _ _ _ _ _ (@A81 _ _ _ _ _ (@T9 _ _ _ _ _ _ (@L5 _ _ _ _ _ _ _ (F1 (K0 (A7 (P4 (A7 A6 (A7 A6 C6 F4) F4)) (A7 (P4 (A7 A6 (A7 A6 C6 F4) F4)) C6 A1u) A1u))) (N9 B3y (b7 B26 rfl T.n_int A8t (A7 (b8 (P2 (K4 hr)) L9 (C4 (B4 G_draw (hr.mono (by decide)) rfl T.f_draw.m T.f_draw.F.kp b_draw .nil B5 (F9 (pv 0) (A5 A6 C3 F4) A0) (he:=A0) (hpl:=(A2 F4 A3)))) A6 (C9 _)) C6 A7h) (he:=A7h) (hpl:=A3))) (fun _ _=>rfl)) (B0o (A0w (n:=2) rfl (N2 (J2 (i:=3) A6o.nd rfl (A8 rfl)) (N2 (J2 (i:=4) A6o.nd rfl (A8 rfl)) p8)))) (by rfl) (by rfl) (by rfl))) (@D3 _ _ _ _ _ _ (E3 (B9 (i:=5) A6o.nd rfl (A8 rfl) (C4 (B4 G_land (hr.mono (by decide)) rfl T.f_land.m T.f_land.F.kp b_land .nil B5 (F9 (pv 0) (A5 (A1 (pv 3)) (A5 (A1 (pv 4)) (A5 (A1 (pv 1)) C3 A0) A0) A0) A0) (he:=A0) (hpl:=(A2 A0 (A2 A0 (A2 A0 A3)))))))) (@D3 _ _ _ _ _ _ (@E3 _ _ _ _ _ (@B9 _ _ 6 _ _ _ _ A6o.nd rfl (A8 rfl) (@C4 _ _ _ _ _ _ _ (@B4 _ _ _ _ _ _ _ _ _ _ _ _ _ _ _ _ G_springs (hr.mono (by decide)) rfl T.f_springs.m T.f_springs.F.kp b_springs .nil B5 (@F9 _ _ _ _ _ _ (pv 0) (@A5 _ _ _ _ _ _ (C7 (pv 5) A6 (fun _ _=>rfl)) (A5 (A1 (pv 2)) (A5 (L5 (F1 (K0 (A7 A6 (A7 A6 C6 F4) F4))) (N9 B3y (b7 B26 rfl T.n_int A8t (A7 (b8 (P2 (K4 hr)) L9 (A1 (pv 3)) A6 (C9 _)) C6 A7h) (he:=A7h) (hpl:=A3))) (fun _ _=>rfl)) C3 B0) A0) B0) A0) (by decide) A0 ((A2 B0 (A2 A0 (A2 B0 A3)))))) (by rfl) (by first | exact .inl rfl | exact .inr rfl | assumption))) (@B7 _ _ _ _ (@C8 _ _ _ _ _ (@P4 _ _ _ _ _ _ (@A7 _ _ _ _ _ _ (A1 (pv 5)) (A7 (A1 (pv 2)) (A7 (A1 (pv 6)) (A7 (C4 (B4 G_table (hr.mono (by decide)) rfl T.f_table.m T.f_table.F.kp b_table .nil B5 (F9 (pv 0) (A5 (C7 (pv 5) A6 (fun _ _=>rfl)) (A5 (A1 (pv 2)) C3 A0) B0) A0) (he:=A0) (hpl:=(A2 B0 (A2 A0 A3))))) C6 E5) A0) A0) A0))))))))),fun ds Q hl h=>?_⟩)
 obtain⟨d,rfl,q⟩:=h
 left
 refine⟨rfl,_,rfl,fun sc c0 c1=>?_⟩
 refine go ?_;left
 refine⟨rfl,_,_,rfl,by omega,c1,fun st s0 s1=>?_⟩
 refine go ?_;left
 refine⟨by decide,by decide,by decide,rfl,12,rfl,by decide,by decide,fun r r0 r1=>?_⟩
 left
 refine⟨rfl,rfl,M3 _ _,?_⟩
 left
 obtain⟨pl,wn,p1,p2,w2,hat⟩:∃pl wn:Nat,1<=pl/\pl<=12/\wn<=40/\atI [PyData.tuple [.int 5,.int 10],.tuple [.int 8,.int 16]] (if PyData.eqv (.int r) (.int 0)=true then (1:Int) else 0)=some (.tuple [.int (pl:Nat),.int (wn:Nat)]):=by
  cases PyData.eqv (.int r) (.int 0) with
  | true=>exact⟨8,16,by decide,by decide,by decide,rfl⟩
  | false=>exact⟨5,10,by decide,by decide,by decide,rfl⟩
 rw[hat]
 left
 refine go ?_;left
 refine⟨rfl,_,pl,wn,sc,rfl,p1,p2,w2,c0,c1,fun m ws ok=>?_⟩
 refine go ?_;right
 refine⟨rfl,by show 2<=1000;decide,rfl,rfl,M3 _ _,?_⟩
 left
 obtain⟨mo,h4,hat⟩:∃mo:Nat,mo<=4/\atI [PyData.int 4,.int 2] (if PyData.eqv (.int (pl:Nat)) (.int 8)=true then (1:Int) else 0)=some (.int (mo:Nat)):=by
  cases PyData.eqv (.int (pl:Nat)) (.int 8) with
  | true=>exact⟨2,by decide,rfl⟩
  | false=>exact⟨4,by decide,rfl⟩
 rw[hat]
 left
 refine⟨_,m,st,mo,rfl,ok.m1,ok.m2,s0,s1,h4,fun sp so=>?_⟩
 refine go ?_;right
 refine⟨rfl,_,m,st,rfl,ok.m2,s0,by omega,fun g hg=>?_⟩
 left
 exact⟨by show 4<=1000;decide,q m ws st sp g ok s0 s1 so hg⟩
theorem D10 (T:Txt K mg):D0 P w K mg base CX0 4 T.f_arrive_by.a T.f_arrive_by.d ["_law_land_here", "_law_store_here", "_law_springs_here", "_law_place", "_law_level", "_law_trip"] (spD [.sh,.sh,.sh,.sh,.sh,.sh] D1y):=by
 have G_law_is_whole:=@C17 P w K mg base T
 have b_law_is_whole:=T.f_law_is_whole.b
 have G_arrive:=@D0z P w K mg base T
 have b_arrive:=T.f_arrive.b
 refine G1 T.f_arrive_by.F A2l rfl (fun C cdv A outer s H E hr=>⟨_,(@D3 _ _ _ _ _ _ (T7 (J1 (Y8 (W3 (A04 A8y (G4 A0b rfl T.n_isinstance A0a (A4 (pv 5) (A4 (p7 (v:=V.ty "list") rfl T.n_list W1 rfl) B8 A0) A0) (he:=A0) (hpl:=(A2 A0 A3))))))
   (B7 (C8 F6))
   J5)) (@D3 _ _ _ _ _ _ (E3 (B9 (i:=6) A2l.nd rfl (A8 rfl) A6)) (@D3 _ _ _ _ _ _ (@T7 _ _ _ _ (@V4 _ _ _ _ _ _ (@Q4 _ _ _ _ _ _ _ _ O6 rfl (b9 (pv 5)) (Z1 (J2 (i:=7) A2l.nd rfl (A8 rfl))) (@B7 _ _ _ _ (@J1 _ _ _ _ _ _ _ _ _ (PW.pt (@A1w _ _ _ _ _ _ _ _ (W3 (A04 B9p (G4 A0b rfl T.n_isinstance A0a (A4 (pv 7) (A4 (p7 (v:=V.ty "tuple") rfl T.n_tuple B8u rfl) B8 A0) A0) (he:=A0) (hpl:=(A2 A0 A3))))) (A1w (E9 (P2 (K4 hr)) L9 (W5 (G4 Q5 rfl T.n_len Q6 (A4 (pv 7) B8 A0) (he:=A0) (hpl:=A3))) A6 (C9 _)) (A4z (E9 (P2 (K4 hr)) L9 (C7 (pv 7) A6 (fun _ _=>rfl)) C55 (C9 _)))))) (@D3 _ _ _ _ _ _ (E3 (B9 (i:=8) A2l.nd rfl (A8 rfl) (C7 (pv 7) A6 (fun _ _=>rfl)))) (@D3 _ _ _ _ _ _ (@T7 _ _ _ _ (@J1 _ _ _ _ _ _ _ _ _ (PW.pt (@W4 _ _ _ _ _ _ _ _ (Y8 (W3 (C4 (B4 G_law_is_whole (hr.mono (by decide)) rfl T.f_law_is_whole.m T.f_law_is_whole.F.kp b_law_is_whole .nil B5 (A5 (A1 (pv 8)) C3 A0) (he:=A0) (hpl:=A3))))) (W4 (Y8 (B3w A4u X6 A6 (A1 (pv 8)) (W5 (G4 Q5 rfl T.n_len Q6 (A4 (pv 2) B8 A0) (he:=A0) (hpl:=A3))))) (j2 (E9 (P2 (K4 hr)) L9 (E2 u8 B3v (E2 B3h B88 (A1 (pv 6)) (E2 B20 B4o A6 (A1 (pv 8)))) A6) A6 (C9 _)))))) (B7 (C8 F6)) J5)) (@D3 _ _ _ _ _ _ (T7 (J1 (PW.pt (W4 (E9 (Y7 (K4 hr)) L9 (L5 (C7 (pv 2) (A1 (pv 8)) (fun _ _=>rfl)) A6 (fun _ _=>rfl)) (A1 (pv 3)) (C9 _)) (j2 (E9 U8 Y0 (A1 (pv 4)) F6 (C9 _)))))
   (B7 (C8 F6))
   J5)) (@D3 _ _ _ _ _ _ (E3 (B9 (i:=4) A2l.nd rfl (A8 rfl) (N9 j3 (G4 (g7 rfl) rfl T.n_min j0 (A7 (A1 (pv 1)) (A7 (E2 L3 N6 (A1 (pv 4)) (L5 (C7 (pv 2) (A1 (pv 8)) (fun _ _=>rfl)) A6 (fun _ _=>rfl))) C6 F5) A0) (he:=A0) (hpl:=(A2 F5 A3)))))) (B7 (C7h (C30 (i:=6) A2l.nd rfl (A8 rfl) (E2 B20 B4o A6 (A1 (pv 8))) B7z))))))) (@D3 _ _ _ _ _ _ (@E3 _ _ _ _ _ (@B9 _ _ 9 _ _ _ _ A2l.nd rfl (A8 rfl) (C4 (B4 G_arrive (hr.mono (by decide)) rfl T.f_arrive.m T.f_arrive.F.kp b_arrive .nil B5 (A5 (A1 (pv 0)) (A5 (A1 (pv 1)) (A5 (A1 (pv 3)) (A5 (A1 (pv 4)) (A5 (F1 (K0 (A7 (A1 (pv 7)) C6 A0))) C3 B3m) A0) A0) A0) A0) (he:=A0) (hpl:=(A2 A0 (A2 A0 (A2 A0 (A2 B3m A3))))))) (by rfl) (by first | exact .inl rfl | exact .inr rfl | assumption))) (D3 (T7 (J1 (E9 U8 Y0 (A1 (pv 9)) F6 (C9 _))
   (B7 (C8 F6))
   J5))
   (B7 (A81 (T9 (A1 (pv 9)) (C70 (C7z (n:=2) rfl (N2 (J2 (i:=3) A2l.nd rfl (A8 rfl)) (N2 (J2 (i:=4) A2l.nd rfl (A8 rfl)) p8))))))))))) (by intro _;rfl)))) (B7 (C8 (F1 (K0 (A7 (A1 (pv 3)) (A7 (A1 (pv 4)) (A7 (A1 (pv 6)) C6 A0) A0) A0)))))))),fun ds Q hl h=>?_⟩)
 obtain⟨m,ws,st,sp,p,p',s',x,x',ths,rfl,ok,so,hT,q⟩:=h
 have few:=so.few
 refine A4i (fun ρ'=>ρ'=[Sl.sh (E8 m ws),Sl.sh (.int st),Sl.sh (.list (sp.map J6)),Sl.sh (.int ((p:Nat):Int)),Sl.sh (.int x),Sl.sh (.list (ths.map thD)),.no,.no,.no,.no]) ?_ ?_
 ·left
  exact G6 rfl
 rintro ρ rfl
 refine go ?_
 left
 refine go (A4i (fun ρ'=>∃z7 z8 z9:Sl,ρ'=[Sl.sh (E8 m ws),Sl.sh (.int st),Sl.sh (.list (sp.map J6)),Sl.sh (.int ((p':Nat):Int)),Sl.sh (.int x'),Sl.sh (.list (ths.map thD)),Sl.sh (.int ((s':Nat):Int)),z7,z8,z9]) ?_ ?_)
 ·refine D00 ?_
  try dsimp only[dIl,dIv,dIt,B0m,B33,B0n,B39,dIL,B0z,B01,B00,B4u,A3w,P8,A15,A16,dOp,A1v,A3z,dT,A3y,A47,dCb,A3c,A3b,dC,dF,A3e,A3d,A1x,A2x,A2y,dOr,A2z,A20,A21,dBV,dIf,A01,dIx,A3f,A3g,A3l,A44,A3m,dSl,A3n,A3p,A3q,A3r,A3u,A3t,aV,aS,P7,arD,A05,P3,A5k,ixD,lenD,M8,A0e,gI,gI0,A23,A24,A25,A26,A27,A28,gLt,gLe,gGt,gGe,gEq,A0d,isN,A12,A3h,A3i,gI2,A43,A13,A3j,A3k,A3x,A33,A17,A30,A31,gN,gT2,gT3,gT5,A5m,A2a,A5n,A5o,A5p,A34,A2c,j4,A5l,A32,gIn,gB2,oN,oS,c5,Z2,A48,A49,A5a,A5b,A5c,A5d,Y1,tyD,A8f,A8g,A8h,A62,A8i,A8j,K8,A66,A8k,A8l,A61,Q9,A5e,A5f,A5g,A5h,A5i,A5j,A8m,A8n,A6b,A6c,A6d,A2j,arF,A6e,A6g,A6h,A6f,A6i,A6j,A6k,A6l,A6m,gL2,A4a,A06,A4b,A4c,O8,A4d,A50,A51,A52,A53,A59,Q1,A54,m6,A55,A56,A57,aW,A58,A6a,A2i,arS,A5t,A5u,A5v,A5w,A5x,A5y,A5z,roN,A2d,gOr,A38,A39,A2h]
  refine D01 (fun r ρ=>∃(R:List Th) (p x s:_) (z7 z8 z9:Sl),r=R.map thD/\ρ=[Sl.sh (E8 m ws),Sl.sh (.int st),Sl.sh (.list (sp.map J6)),Sl.sh (.int ((p:Nat):Int)),Sl.sh (.int x),Sl.sh (.list (ths.map thD)),Sl.sh (.int ((s:Nat):Int)),z7,z8,z9]/\TrB ws st sp p x s R p' x' s') ⟨ths,p,x,0,_,_,_,rfl,rfl,hT⟩ ?_ ?_
  ·rintro u r ρ ⟨R,p,x,s,z7,z8,z9,h1,rfl,hT⟩
   cases hT with
   | nil=>cases h1
   | @pt _ q1 _ y _ pt R _ _ _ h2 h3 h4 h5 hT=>
    cases (show u::r=G8 pt::R.map thD from h1)
    unfold G8
    sizeOf_list_dec
    refine J0 ⟨rfl,rfl,M3 _ _,?_⟩
    rw[show PyData.eqv (.int (((0 + 1 + 1:Nat)):Int)) (.int 2)=true from rfl]
    refine J0 ⟨by rw[PyData.canLay0];exact B6n _,B6p,by show min _ 0<=64;omega,?_⟩
    rw[show PyData.eqv (.list (D4 pt.1)) (.str (Str.ofString "use"))=false from rfl]
    refine G6 ⟨by decide,m,ws,st,x,y,p,q1,[pt],rfl,ok,h4.1,h4.2,h2,fun pt' hp=>by rw[p6.mp hp];omega,h3,?_⟩
    refine go (A4i (fun ρ'=>ρ'=[Sl.sh (E8 m ws),Sl.sh (.int st),Sl.sh (.list (sp.map J6)),Sl.sh (.int ((p:Nat):Int)),Sl.sh (.int x),Sl.sh (.list (ths.map thD)),Sl.sh (.int ((s:Nat):Int)),Sl.sh (.tuple [.list (D4 pt.1),.int pt.2]),z8,Sl.sh (.list [.int ((q1:Nat):Int),.int y])]) ?_ ?_)
    ·left
     try exact G6 rfl
    rintro ρ rfl
    refine go ?_
    left
    exact⟨R,q1,y,s,_,_,_,rfl,rfl,hT⟩
   | @us _ k g _ y _ R _ _ _ h2 h3 h4 hT=>
    cases (show u::r=.tuple [.str "use",.int ((k:Nat):Int)]::R.map thD from h1)
    have hk:=C2a h2
    have hp16:=pw4 k (by omega)
    have hpp:=A0q k
    sizeOf_list_dec
    refine J0 ⟨rfl,rfl,M3 _ _,?_⟩
    rw[show PyData.eqv (.int (((0 + 1 + 1:Nat)):Int)) (.int 2)=true from rfl]
    refine J0 ⟨B6p,B6p,by decide,?_⟩
    rw[show PyData.eqv (.str (Str.ofString "use")) (.str (Str.ofString "use"))=true from rfl]
    refine J0 (go (A4i (fun ρ'=>ρ'=[Sl.sh (E8 m ws),Sl.sh (.int st),Sl.sh (.list (sp.map J6)),Sl.sh (.int ((p:Nat):Int)),Sl.sh (.int x),Sl.sh (.list (ths.map thD)),Sl.sh (.int ((s:Nat):Int)),Sl.sh (.tuple [.str "use",.int ((k:Nat):Int)]),Sl.sh (.int ((k:Nat):Int)),z9]) ?_ ?_))
    ·left
     refine⟨_,rfl,?_⟩
     rw[show A1d (.int ((k:Nat):Int))=true from rfl]
     left
     rw[D5,decide_eq_true (show (0:Int)<=((k:Nat):Int) by omega),decide_eq_true (show ((k:Nat):Int) < ((sp.length:Nat):Int) by omega)]
     left
     rw[C2o]
     refine⟨⟨by omega,by omega,by decide⟩,⟨by omega,by omega⟩,by decide,rfl,rfl,M3 _ _,?_⟩
     rw[Q2,D1z,h3]
     exact G6 rfl
    rintro ρ rfl
    refine go (A4i (fun ρ'=>ρ'=[Sl.sh (E8 m ws),Sl.sh (.int st),Sl.sh (.list (sp.map J6)),Sl.sh (.int ((p:Nat):Int)),Sl.sh (.int x),Sl.sh (.list (ths.map thD)),Sl.sh (.int ((s:Nat):Int)),Sl.sh (.tuple [.str "use",.int ((k:Nat):Int)]),Sl.sh (.int ((k:Nat):Int)),z9]) ?_ ?_)
    ·left
     rw[A9h h2]
     unfold J6
     left
     refine⟨rfl,rfl,M3 _ _,?_⟩
     rw[Q2,beq_self_eq_true]
     exact G6 rfl
    rintro ρ rfl
    refine go ?_
    left
    rw[A9h h2]
    unfold J6
    left
    refine go ?_
    left
    have hy:(if x + g < st then x + g else st)=y:=by
     unfold K6 at h4
     split at h4
     ·cases h4
     ·have h4:=Option.some.inj h4
      rw[<-h4]
      split <;> split <;> omega
    rw[hy,C2o,show ((s:Nat):Int) + ((2 ^ k:Nat):Int)=((s + 2 ^ k:Nat):Int) by omega]
    exact⟨⟨by omega,by omega,by decide⟩,R,p,y,s + 2 ^ k,_,_,_,rfl,rfl,hT⟩
  ·rintro ρ ⟨R,p,x,s,z7,z8,z9,h1,rfl,hT⟩
   cases R with
   | cons t R=>cases h1
   | nil=>
    cases hT
    exact⟨_,_,_,rfl⟩
 rintro ρ ⟨z7,z8,z9,rfl⟩
 refine go ?_
 left
 exact⟨by decide,q⟩
end
def D11:DSp:=fun ds Q=>∃(t:Tb) (m:Nat) (st:Int),ds=[.int (m:Nat),.int st,.list (C5 t)]/\m<=900/\G7 m st t/\Q (.bool true)
def D12:DSp:=fun ds Q=>∃st x:Int,ds=[.int st,.int x]/\0<=x/\x<=st/\Q (.bool true)
def D13:DSp:=fun ds Q=>∃(t b:Tb),ds=[.list (C5 t),.list (C5 b)]/\t.length=b.length/\t.length<=900/\leT b t/\Q (.bool true)
def D14:DSp:=fun ds Q=>∃(m:Nat) (ws:List Wy) (st:Int) (t l:Tb),ds=[E8 m ws,.int st,.list (C5 t),.list (C5 l)]/\J8 m ws/\t.length=m/\l.length=m/\(∀w∈ws,leO (N0 st t w) (gt l w.2.1))/\Q (.bool true)
def D15:DSp:=fun ds Q=>∃(m:Nat) (ws:List Wy) (st:Int) (t:Tb),ds=[E8 m ws,.int st,.list (C5 t)]/\J8 m ws/\t.length=m/\A2f ws st t/\Q (.bool true)
theorem A6v {α:Type} (b:Bool):∀xs:List α,A14 (xs.map fun _=>PyData.bool b)=some (xs.map fun _=>b)
 | []=>rfl
 | x::xs=>by
  show (A14 (xs.map fun _=>PyData.bool b)).map (b::·)=_
  rw[A6v b xs];rfl
theorem A9i {α:Type}:∀xs:List α,(xs.map fun _=>true).all id=true
 | []=>rfl
 | x::xs=>by
  show (true&&(xs.map fun _=>true).all id)=true
  rw[A9i xs];rfl
theorem B6q {α:Type}:∀xs:List α,(xs.map fun _=>false).any id=false
 | []=>rfl
 | x::xs=>by
  show (false||(xs.map fun _=>false).any id)=false
  rw[B6q xs];rfl
theorem D16 {t:Tb} {o:Option Int} (h:o∈t):∃p,gt t p=o:=by
 obtain⟨p,hp,e⟩:=A0t.mp h
 exact⟨p,by unfold gt;rw[K3 hp,e];rfl⟩
theorem D17 {b t:Tb} {q:Option Int×Option Int} (h:q∈b.zip t):∃p,gt b p=q.1/\gt t p=q.2:=by
 obtain⟨p,hp,e⟩:=A0t.mp h
 rw[B7g] at hp
 rw[List.getElem_zip] at e
 subst e
 exact⟨p,by unfold gt;rw[K3 (by omega)];rfl,by unfold gt;rw[K3 (by omega)];rfl⟩
theorem D18 (b t:Tb):A2b (C5 b) (C5 t)=(b.zip t).map fun p=>PyData.tuple [oD p.1,oD p.2]:=by
 unfold A2b C5
 rw[List.zip_map,p5];rfl
section
variable {P:Program} {w:World} {K:B3} {mg:Str->Option Value} {base:Heap}
theorem D19 (T:Txt K mg):D0 P w K mg base CX0 2 T.f_is_level.a T.f_is_level.d ["store", "thing"] (spD [.sh,.sh] D12):=by
 have G_is_whole:=@C1h P w K mg base T
 have b_is_whole:=T.f_is_whole.b
 refine G1 T.f_is_level.F C72 rfl (fun C cdv A outer s H E hr=>⟨_,(B7 (C8 (A22 (C4 (B4 G_is_whole (hr.mono (by decide)) rfl T.f_is_whole.m T.f_is_whole.F.kp b_is_whole .nil B5 (A5 (A1 (pv 1)) C3 A0) (he:=A0) (hpl:=A3))) (A0z (B9b A4u A4u A6 (A1 (pv 1)) (A1 (pv 0))))))),fun ds Q hl h=>?_⟩)
 obtain⟨st,x,rfl,x0,x1,q⟩:=h
 left
 refine⟨_,rfl,?_⟩
 rw[show A1d (.int x)=true from rfl]
 left
 rw[decide_eq_true x0]
 left
 rw[decide_eq_true x1]
 exact q
theorem D2a (T:Txt K mg):D0 P w K mg base CX0 3 T.f_is_table.a T.f_is_table.d ["many", "store", "thing"] (spD [.sh,.sh,.sh] D11):=by
 have G_is_level:=@D19 P w K mg base T
 have b_is_level:=T.f_is_level.b
 refine G1 T.f_is_table.F C78 rfl (fun C cdv A outer s H E hr=>⟨_,(@F7 _ _ _ _ _ _ (@J1 _ _ _ _ _ _ _ _ _ (PW.pt (@W4 _ _ _ _ _ _ _ _ (Y8 (W3 (A04 A8y (G4 A0b rfl T.n_isinstance A0a (A4 (pv 2) (A4 (p7 (v:=V.ty "list") rfl T.n_list W1 rfl) B8 A0) A0) (he:=A0) (hpl:=(A2 A0 A3)))))) (j2 (E9 (Y7 (K4 hr)) L9 (W5 (G4 Q5 rfl T.n_len Q6 (A4 (pv 2) B8 A0) (he:=A0) (hpl:=A3))) (A1 (pv 0)) (C9 _))))) (B7 (C8 B3r)) J5) (@B7 _ _ _ _ (@C8 _ _ _ _ _ (@N9 _ _ _ _ _ _ B0i (@G4 _ _ _ _ _ _ _ _ _ (B0b rfl) rfl T.n_all B0c (@A7 _ _ _ _ _ _ (@F1 _ _ _ _ (@A0h _ _ _ _ _ _ _ _ rfl (@Y6 _ _ _ _ _ _ _ _ _ _ _ _ _ _ _ (N5.new (N:=["many", "store", "thing"]) (osc:=C2 B05) (by decide +kernel)) rfl (b9 (pv 2)) (fun _=>Y2) (fun _=>(B87 (b8 U8 Y0 (A1 (pv 3)) F6 (C9 _)) (A0z (C4 (B4 G_is_level (hr.mono (by decide)) rfl T.f_is_level.m T.f_is_level.F.kp b_is_level .nil B5 (A5 (A1 (pv 1)) (A5 (A1 (pv 3)) C3 A0) A0) (he:=A0) (hpl:=(A2 A0 A3))))))) (by rfl) (by rfl) (by intro _;rfl)))) C6 W2) (by decide) (by decide) W2 A3))))),fun ds Q hl h=>?_⟩)
 obtain⟨t,m,st,rfl,hm,ht,q⟩:=h
 have hl:=ht.len
 array_mem_dec
 refine⟨rfl,rfl,M3 _ _,?_⟩
 rw[Q2,d7,hl,beq_self_eq_true]
 array_mem_dec
 refine⟨⟨rfl,by omega⟩,?_⟩
 unfold C5
 refine A0i (f:=fun _=>.bool true) (fun o ho Q' q'=>?_) ?_
 ·cases o with
  | none=>
   right
   exact q'
  | some x=>
   obtain⟨p,hp⟩:=D16 ho
   obtain⟨b0,b1⟩:=ht.bd p x hp
   right
   exact⟨st,x,rfl,b0,b1,q'⟩
 ·rw[Q9]
  unfold gBs
  left
  rw[A6v]
  left
  rw[A9i]
  exact q
theorem D2b (T:Txt K mg):D0 P w K mg base CX0 2 T.f_covers.a T.f_covers.d ["table", "base"] (spD [.sh,.sh] D13):=by
 have G_is_more:=@B1u P w K mg base T
 have b_is_more:=T.f_is_more.b
 refine G1 T.f_covers.F C8f rfl (fun C cdv A outer s H E hr=>⟨_,(@B7 _ _ _ _ (@C8 _ _ _ _ _ (@B0f _ _ _ _ _ (@N9 _ _ _ _ _ _ B3z (@G4 _ _ _ _ _ _ _ _ _ (B3q rfl) rfl T.n_any B3l (@A7 _ _ _ _ _ _ (@F1 _ _ _ _ (@B4c _ _ _ _ _ _ _ (@B3p _ _ _ _ _ _ _ _ _ _ _ _ _ _ _ _ _ _ (A2w.new (N:=["table", "base"]) (osc:=C2 B1c) (by decide +kernel)) rfl (C6s (B85 rfl T.n_zip (A4 (A1 (pv 1)) (A4 (A1 (pv 0)) B8 A0) A0))) (fun _=>Y2) (fun _=>(C4 (B4 G_is_more (hr.mono (by decide)) rfl T.f_is_more.m T.f_is_more.F.kp b_is_more .nil B5 (A5 (A1 (pv 2)) (A5 (A1 (pv 3)) C3 A0) A0) (he:=A0) (hpl:=(A2 A0 A3))))) (by rfl) (by rfl) (by intro _;rfl)))) C6 W2) (by decide) (by decide) W2 A3))))),fun ds Q hl h=>?_⟩)
 obtain⟨t,b,rfl,hl2,hm,hle,q⟩:=h
 array_get_dec
 refine⟨by unfold A2b;rw[D5,B7g,d7,d7];omega,?_⟩
 rw[D18]
 refine B0s (g1:=fun p:Option Int×Option Int=>oD p.1) (g2:=fun p=>oD p.2) (f:=fun _=>.bool false) (fun p hp Q' q'=>?_) ?_
 ·obtain⟨i,e1,e2⟩:=D17 hp
  have:=hle i
  rw[e1,e2] at this
  left
  refine⟨p.1,p.2,rfl,?_⟩
  rw[show U4 p.1 p.2=false from this]
  exact q'
 ·rw[Q9]
  unfold gBs
  left
  rw[A6v]
  left
  rw[B6q]
  exact q
theorem D2c (T:Txt K mg):D0 P w K mg base CX0 3 T.f_leads_within.a T.f_leads_within.d ["land", "store", "table", "lid"] (spD [.sh,.sh,.sh,.sh] D14):=by
 have G_is_more:=@B1u P w K mg base T
 have b_is_more:=T.f_is_more.b
 have G_behind_way:=@C1i P w K mg base T
 have b_behind_way:=T.f_behind_way.b
 refine G1 T.f_leads_within.F C8g rfl (fun C cdv A outer s H E hr=>⟨_,(@B7 _ _ _ _ (@C8 _ _ _ _ _ (@B0f _ _ _ _ _ (@N9 _ _ _ _ _ _ B3z (@G4 _ _ _ _ _ _ _ _ _ (B3q rfl) rfl T.n_any B3l (@A7 _ _ _ _ _ _ (@F1 _ _ _ _ (@A0h _ _ _ _ _ _ _ _ rfl (@Y6 _ _ _ _ _ _ _ _ _ _ _ _ _ _ _ (N5.new (N:=["land", "store", "table", "lid"]) (osc:=C2 B1d) (by decide +kernel)) rfl (A07 (C7 (pv 0) (E7 (D6 (v:=V.int 1) rfl T.mg_WAYS ⟨_,rfl⟩)) (fun _ _=>rfl))) (fun _=>Y2) (fun _=>(@C4 _ _ _ _ _ _ _ (@B4 _ _ _ _ _ _ _ _ _ _ _ _ _ _ _ _ G_is_more (hr.mono (by decide)) rfl T.f_is_more.m T.f_is_more.F.kp b_is_more .nil B5 (@A5 _ _ _ _ _ _ (C4 (B4 G_behind_way (hr.mono (by decide)) rfl T.f_behind_way.m T.f_behind_way.F.kp b_behind_way .nil B5 (A5 (A1 (pv 1)) (A5 (A1 (pv 2)) (A5 (A1 (pv 4)) C3 A0) A0) A0) (he:=A0) (hpl:=(A2 A0 (A2 A0 A3))))) (A5 (C7 (pv 3) (C7 (pv 4) (E7 (D6 (v:=V.int 1) rfl T.mg_END ⟨_,rfl⟩)) (fun _ _=>rfl)) (fun _ _=>rfl)) C3 B0) E5) (by decide) E5 ((A2 B0 A3))))) (by rfl) (by rfl) (by intro _;rfl)))) C6 W2) (by decide) (by decide) W2 A3))))),fun ds Q hl h=>?_⟩)
 obtain⟨m,ws,st,t,l,rfl,ok,ht,hl2,hc,q⟩:=h
 have few:=ok.few
 array_mem_dec
 refine⟨⟨rfl,by rw[D5];omega⟩,?_⟩
 refine A0i (f:=fun _=>.bool false) (fun w hw Q' q'=>?_) ?_
 ·left
  refine⟨st,t,w,rfl,by rw[ht];exact ok.st w hw,?_⟩
  unfold R9
  left
  rw[j6 (by rw[hl2];exact ok.en w hw)]
  left
  refine⟨_,_,rfl,?_⟩
  rw[show U4 (N0 st t w) (gt l w.2.1)=false from hc w hw]
  exact q'
 ·rw[Q9]
  unfold gBs
  left
  rw[A6v]
  left
  rw[B6q]
  exact q
theorem D2d (T:Txt K mg):D0 P w K mg base CX0 4 T.f_is_closed.a T.f_is_closed.d ["land", "store", "table"] (spD [.sh,.sh,.sh] D15):=by
 have G_leads_within:=@D2c P w K mg base T
 have b_leads_within:=T.f_leads_within.b
 refine G1 T.f_is_closed.F C8h rfl (fun C cdv A outer s H E hr=>⟨_,(B7 (C8 (C4 (B4 G_leads_within (hr.mono (by decide)) rfl T.f_leads_within.m T.f_leads_within.F.kp b_leads_within .nil B5 (A5 (A1 (pv 0)) (A5 (A1 (pv 1)) (A5 (A1 (pv 2)) (A5 (A1 (pv 2)) C3 A0) A0) A0) A0) (he:=A0) (hpl:=(A2 A0 (A2 A0 (A2 A0 A3)))))))),fun ds Q hl h=>?_⟩)
 obtain⟨m,ws,st,t,rfl,ok,ht,hc,q⟩:=h
 left
 exact⟨m,ws,st,t,t,rfl,ok,ht,ht,hc,q⟩
end
def D2e:DSp:=fun ds Q=>∃(ts:List Tb) (m:Nat) (st:Int),ds=[.int (m:Nat),.int st,.list (F8 ts)]/\m<=900/\ts.length<=900/\(∀t∈ts,G7 m st t)/\Q (.bool true)
def D2f:DSp:=fun ds Q=>∃(m:Nat) (ws:List Wy) (st:Int) (sp:List Sp2) (b:Tb) (ts:List Tb),ds=[E8 m ws,.int st,.list (sp.map J6),.list (C5 b),.list (F8 ts)]/\J8 m ws/\0<=st/\k9 m sp/\G7 m st b/\A9g m ws st sp b ts/\Q (.bool true)
theorem D2g {ts:List Tb}:T1 (F8 ts)=ts.zipIdx.map fun p=>.tuple [.int ((p.2:Nat):Int),.list (C5 p.1)]:=by
 unfold T1 F8
 rw[List.zipIdx_map,p5]
 rfl
theorem D2h {ts:List Tb} {p:Tb×Nat} (h:p∈ts.zipIdx):p.2 < ts.length/\p.1=tbs ts p.2:=by
 have e:=B7h.mp h
 have hl:p.2 < ts.length:=by
  rcases A0v p.2 ts.length with c | c
  ·exact c
  ·rw[f9 c] at e;cases e
 refine⟨hl,?_⟩
 rw[A6t hl] at e
 exact (Option.some.inj e).symm
section
variable {P:Program} {w:World} {K:B3} {mg:Str->Option Value} {base:Heap}
theorem D2i (T:Txt K mg):D0 P w K mg base CX0 4 T.f_are_tables.a T.f_are_tables.d ["many", "store", "thing"] (spD [.sh,.sh,.sh] D2e):=by
 have G_is_table:=@D2a P w K mg base T
 have b_is_table:=T.f_is_table.b
 refine G1 T.f_are_tables.F C79 rfl (fun C cdv A outer s H E hr=>⟨_,(@B7 _ _ _ _ (@C8 _ _ _ _ _ (@A22 _ _ _ _ _ _ _ _ (A04 A8y (G4 A0b rfl T.n_isinstance A0a (A4 (pv 2) (A4 (p7 (v:=V.ty "list") rfl T.n_list W1 rfl) B8 A0) A0) (he:=A0) (hpl:=(A2 A0 A3)))) (@A0z _ _ _ _ _ _ (@N9 _ _ _ _ _ _ B0i (@G4 _ _ _ _ _ _ _ _ _ (B0b rfl) rfl T.n_all B0c (@A7 _ _ _ _ _ _ (@F1 _ _ _ _ (@A0h _ _ _ _ _ _ _ _ rfl (@Y6 _ _ _ _ _ _ _ _ _ _ _ _ _ _ _ (N5.new (N:=["many", "store", "thing"]) (osc:=C2 B06) (by decide +kernel)) rfl (b9 (pv 2)) (fun _=>Y2) (fun _=>(C4 (B4 G_is_table (hr.mono (by decide)) rfl T.f_is_table.m T.f_is_table.F.kp b_is_table .nil B5 (A5 (A1 (pv 0)) (A5 (A1 (pv 1)) (A5 (A1 (pv 3)) C3 A0) A0) A0) (he:=A0) (hpl:=(A2 A0 (A2 A0 A3)))))) (by rfl) (by rfl) (by intro _;rfl)))) C6 W2) (by decide) (by decide) W2 A3)))))),fun ds Q hl h=>?_⟩)
 obtain⟨ts,m,st,rfl,hm,hn,hT,q⟩:=h
 array_mem_dec
 refine⟨⟨rfl,by rw[A76];omega⟩,?_⟩
 unfold F8
 refine A0i (f:=fun _=>.bool true) (fun t ht Q' q'=>?_) ?_
 ·left
  exact⟨t,m,st,rfl,hm,hT t ht,q'⟩
 ·rw[Q9]
  unfold gBs
  left
  rw[A6v]
  left
  rw[A9i]
  exact q
theorem D2j (T:Txt K mg):D0 P w K mg base CX0 5 T.f_is_spring_lid.a T.f_is_spring_lid.d ["land", "store", "springs", "base", "tables"] (spD [.sh,.sh,.sh,.sh,.sh] D2f):=by
 have G_are_tables:=@D2i P w K mg base T
 have b_are_tables:=T.f_are_tables.b
 have G_alone:=@A77 P w K mg base T
 have b_alone:=T.f_alone.b
 have G_is_closed:=@D2d P w K mg base T
 have b_is_closed:=T.f_is_closed.b
 have G_covers:=@D2b P w K mg base T
 have b_covers:=T.f_covers.b
 have G_base_by:=@B12 P w K mg base T
 have b_base_by:=T.f_base_by.b
 refine G1 T.f_is_spring_lid.F C8l rfl (fun C cdv A outer s H E hr=>⟨_,(@F7 _ _ _ _ _ _ (@J1 _ _ _ _ _ _ _ _ _ (PW.pt (@W4 _ _ _ _ _ _ _ _ (Y8 (W3 (C4 (B4 G_are_tables (hr.mono (by decide)) rfl T.f_are_tables.m T.f_are_tables.F.kp b_are_tables .nil B5 (A5 (C7 (pv 0) (E7 (D6 (v:=V.int 0) rfl T.mg_MANY ⟨_,rfl⟩)) (fun _ _=>rfl)) (A5 (A1 (pv 1)) (A5 (A1 (pv 4)) C3 A0) A0) B0) (he:=B0) (hpl:=(A2 A0 (A2 A0 A3))))))) (@j2 _ _ _ _ _ (@E9 _ _ _ _ _ _ _ _ _ _ (Y7 (K4 hr)) L9 (W5 (G4 Q5 rfl T.n_len Q6 (A4 (pv 4) B8 A0) (he:=A0) (hpl:=A3))) (C4 (B4 G_alone (hr.mono (by decide)) rfl T.f_alone.m T.f_alone.F.kp b_alone .nil B5 (A5 (W5 (G4 Q5 rfl T.n_len Q6 (A4 (pv 2) B8 A0) (he:=A0) (hpl:=A3))) C3 E5) (he:=E5) (hpl:=A3))) (C9 _))))) (B7 (C8 B3r)) J5) (@F7 _ _ _ _ _ _ (@J1 _ _ _ _ _ _ _ _ _ (@Y8 _ _ _ _ _ (@W3 _ _ _ _ (@N9 _ _ _ _ _ _ B0i (@G4 _ _ _ _ _ _ _ _ _ (B0b rfl) rfl T.n_all B0c (@A7 _ _ _ _ _ _ (@F1 _ _ _ _ (@A0h _ _ _ _ _ _ _ _ rfl (@Y6 _ _ _ _ _ _ _ _ _ _ _ _ _ _ _ (N5.new (N:=["land", "store", "springs", "base", "tables"]) (osc:=C2 A88) (by decide +kernel)) rfl (b9 (pv 4)) (fun _=>Y2) (fun _=>(C4 (B4 G_is_closed (hr.mono (by decide)) rfl T.f_is_closed.m T.f_is_closed.F.kp b_is_closed .nil B5 (A5 (A1 (pv 0)) (A5 (A1 (pv 1)) (A5 (A1 (pv 5)) C3 A0) A0) A0) (he:=A0) (hpl:=(A2 A0 (A2 A0 A3)))))) (by rfl) (by rfl) (by intro _;rfl)))) C6 W2) (by decide) (by decide) W2 A3)) (by intro _;rfl))) (B7 (C8 B3r)) J5) (@B7 _ _ _ _ (@C8 _ _ _ _ _ (@N9 _ _ _ _ _ _ B0i (@G4 _ _ _ _ _ _ _ _ _ (B0b rfl) rfl T.n_all B0c (@A7 _ _ _ _ _ _ (@F1 _ _ _ _ (@B4c _ _ _ _ _ _ _ (@B3p _ _ _ _ _ _ _ _ _ _ _ _ _ _ _ _ _ _ (A2w.new (N:=["land", "store", "springs", "base", "tables"]) (osc:=C2 A88) (by decide +kernel)) rfl (B34 (B0d rfl T.n_enumerate (A4 (A1 (pv 4)) B8 A0))) (fun _=>Y2) (fun _=>(@C4 _ _ _ _ _ _ _ (@B4 _ _ _ _ _ _ _ _ _ _ _ _ _ _ _ _ G_covers (hr.mono (by decide)) rfl T.f_covers.m T.f_covers.F.kp b_covers .nil B5 (@A5 _ _ _ _ _ _ (A1 (pv 6)) (A5 (C4 (B4 G_base_by (hr.mono (by decide)) rfl T.f_base_by.m T.f_base_by.F.kp b_base_by .nil B5 (A5 (A1 (pv 1)) (A5 (A1 (pv 2)) (F9 (pv 4) (A5 (A1 (pv 3)) (A5 (A1 (pv 5)) C3 A0) A0) A0) A0) A0) (he:=A0) (hpl:=(A2 A0 (A2 A0 (A2 A0 (A2 A0 A3))))))) C3 E5) A0) (by decide) A0 ((A2 E5 A3))))) (by rfl) (by rfl) (by intro _;rfl)))) C6 W2) (by decide) (by decide) W2 A3)))))),fun ds Q hl h=>?_⟩)
 obtain⟨m,ws,st,sp,b,ts,rfl,ok,s0,so,hb,hL,q⟩:=h
 have m2:=ok.m2
 have few:=so.few
 have p16:=pw4 sp.length (by omega)
 have pp:=A0q sp.length
 have tl:=hL.len
 right
 refine⟨ts,m,st,rfl,by omega,by omega,hL.tab,?_⟩
 left
 rw[D5]
 refine⟨sp.length,rfl,by omega,?_⟩
 left
 refine⟨rfl,rfl,M3 _ _,?_⟩
 rw[Q2,A76,tl,beq_self_eq_true]
 array_mem_dec
 refine⟨⟨rfl,by rw[A76];omega⟩,?_⟩
 rw[show F8 ts=ts.map fun t=>PyData.list (C5 t) from rfl]
 refine A0i (f:=fun _=>.bool true) (fun t ht Q' q'=>?_) ?_
 ·left
  exact⟨m,ws,st,t,rfl,ok,(hL.tab t ht).len,hL.cl t ht,q'⟩
 rw[Q9]
 unfold gBs
 left
 rw[A6v]
 left
 rw[A9i]
 array_mem_dec
 rw[show (ts.map fun t=>PyData.list (C5 t))=F8 ts from rfl,D2g]
 refine⟨by rw[D5,B2k];omega,?_⟩
 refine B0s (g1:=fun p:Tb×Nat=>.int ((p.2:Nat):Int)) (g2:=fun p=>.list (C5 p.1)) (f:=fun _=>.bool true) (fun p hp Q' q'=>?_) ?_
 ·obtain⟨h1,h2⟩:=D2h hp
  have tp:=(hL.tab _ (A2m h1)).len
  left
  refine⟨rfl,m,st,sp,ts,b,p.2,rfl,so,s0,hb,by omega,by rw[<-tl];exact h1,A4l h1,hL.tab,fun c B=>?_⟩
  left
  have cl:=(B.tab hb).len
  exact⟨p.1,c,rfl,by rw[h2,tp,cl],by rw[h2,tp];omega,by rw[h2];exact hL.under h1 B,q'⟩
 rw[Q9]
 try unfold gBs
 left
 rw[A6v]
 left
 rw[A9i]
 exact q
end
theorem V8.uniq {m:Nat} {ws:List Wy} {st:Int} {sp:List Sp2} {b:Tb} {ts us:List Tb} (h:V8 m ws st sp b ts) (g:V8 m ws st sp b us):ts=us:=by
 have hl:ts.length=us.length:=by rw[h.len,g.len]
 refine B7e fun s=>?_
 rcases A0v s ts.length with z | z
 ·rw[A6t z,A6t (by omega)]
  have l1:=(h.lid.tab _ (A2m z)).len
  have l2:=(g.lid.tab _ (A2m (show s < us.length by omega))).len
  rw[B96 (by omega) (h.under g.lid (B0u _) s z) (g.under h.lid (B0u _) s (by omega))]
 ·rw[f9 z,f9 (by omega)]
def A2n (a b:Nat):Bool:=decide (a &&&b=a)
def djN (a b:Nat):Bool:=decide (a &&&b=0)
theorem B14 (a b:Nat):Builtin.bitAnd ((a:Nat):Int) ((b:Nat):Int)=((a &&&b:Nat):Int):=by
 unfold Builtin.bitAnd
 rw[decide_eq_true (Int.natCast_nonneg a),decide_eq_true (Int.natCast_nonneg b)]
 rfl
theorem B6r (a b:Nat):Builtin.bitOr ((a:Nat):Int) ((b:Nat):Int)=((a |||b:Nat):Int):=by
 unfold Builtin.bitOr Builtin.bitAnd Builtin.bitNot
 rw[decide_eq_false (by omega),decide_eq_false (by omega)]
 show -(-(((-(-((a:Nat):Int) - 1) - 1).toNat |||(-(-((b:Nat):Int) - 1) - 1).toNat:Nat):Int) - 1) - 1=_
 rw[show -(-((a:Nat):Int) - 1) - 1=((a:Nat):Int) by omega,show -(-((b:Nat):Int) - 1) - 1=((b:Nat):Int) by omega,A1g,A1g]
 omega
def d9 (g:Sp2):Nat->List Nat->List Tb->List Nat
 | _,acc,[]=>acc
 | s,acc,t::ts=>d9 g (s + 1) (if enF t g=true/\(acc.any fun n=>A2n n s)=false then acc++[s] else acc) ts
structure NdO (s:Nat) (acc:List Nat):Prop where
 lt:∀n∈acc,n < s
 pw:acc.Pairwise fun a b=>a < b/\A2n a b=false
theorem NdO.put {s:Nat} {acc:List Nat} (h:NdO s acc) (hn:(acc.any fun n=>A2n n s)=false):NdO (s + 1) (acc++[s]):=by
 refine⟨fun n hn=>?_,?_⟩
 ·rcases O9.mp hn with z | z
  ·exact A9r (h.lt n z)
  ·rw[p6.mp z];exact B2h _
 ·refine List.pairwise_append.mpr ⟨h.pw,List.pairwise_singleton _ _,fun a ha b hb=>?_⟩
  rw[p6.mp hb]
  refine⟨h.lt a ha,?_⟩
  have:=List.any_eq_false.mp hn a ha
  simpa using this
theorem NdO.keep {s:Nat} {acc:List Nat} (h:NdO s acc):NdO (s + 1) acc:=⟨fun n hn=>A9r (h.lt n hn),h.pw⟩
theorem C2q (g:Sp2):∀(ts:List Tb) (s:Nat) (acc:List Nat),NdO s acc->NdO (s + ts.length) (d9 g s acc ts)
 | [],s,acc,h=>h
 | t::ts,s,acc,h=>by
  unfold d9
  rw[show s + (t::ts).length=(s + 1) + ts.length by rw[K8];omega]
  refine C2q g ts _ _ ?_
  split
  ·rename_i c;exact h.put c.2
  ·exact h.keep
def chN (a:Nat):Nat:=[0,0,1,0,2,4,1,0,3,3,5,3,2,2,1,0].getD a 0
theorem D2k:∀a,a < 16->∀b,b < 16->a < b->chN a=chN b->A2n a b=true:=by decide
theorem D2l (a:Nat) (h:a < 16):chN a < 6:=by
 have:∀a,a < 16->chN a < 6:=by decide
 exact this a h
theorem D2m {acc:List Nat} (h:NdO 16 acc):acc.length<=6:=by
 have nd:(acc.map chN).Nodup:=by
  refine List.pairwise_map.mpr ?_
  have hp:acc.Pairwise fun a b=>a < 16/\b < 16/\a < b/\A2n a b=false:=by
   refine B2g.imp_of_mem ?_ h.pw
   intro a b ha hb hab
   exact⟨h.lt a ha,h.lt b hb,hab⟩
  refine hp.imp ?_
  rintro a b ⟨h1,h2,h3,h4⟩ e
  rw[D2k a h1 b h2 h3 e] at h4
  cases h4
 have:=B0w 6 _ nd fun x hx=>by
  obtain⟨a,ha,rfl⟩:=S5.mp hx
  exact D2l a (h.lt a ha)
 rw[D5] at this
 exact this
def fsF:List (List Nat)->Nat->Option (List Nat)
 | [],_=>some []
 | n::ns,u=>n.findSome? fun s=>if djN s u=true then (fsF ns (u |||s)).map (s::·) else none
def J7 (ns:List (List Nat)):List PyData:=ns.map fun n=>.list (D4 n)
def D2n:DSp:=fun ds Q=>∃(m:Nat) (b:Sp2),ds=[.int (m:Nat),A0j b]/\b.1 < m/\m<=900/\Q (.list (C5 (A09 m b)))
def D2o:DSp:=fun ds Q=>∃(t:Tb) (g:Sp2),ds=[.list (C5 t),A0j g]/\g.1 < t.length/\Q (.bool (enF t g))
def D2p:DSp:=fun ds Q=>∃a b:Nat,ds=[.int (a:Nat),.int (b:Nat)]/\Q (.bool (A2n a b))
def D2q:A7s:=fun ds Q=>∃(m:Nat) (ws:List Wy) (st:Int) (sp:List Sp2) (b g:Sp2),ds=[E8 m ws,.int st,.list (sp.map J6),.tuple [A0j b,A0j g]]/\J8 m ws/\0<=st/\st<=1000000000000000000000/\k9 m sp/\b.1 < m/\g.1 < m/\0<=b.2/\b.2<=st/\∀ts,V8 m ws st sp (A09 m b) ts->Q (.ow (D4 (d9 g 0 [] ts)))
def rsO:Option (List Nat)->PyData
 | none=>.none
 | some r=>.list (D4 r)
def A9j (d:Nat):DSp:=fun ds Q=>∃(ns:List (List Nat)) (u:Nat),ds=[.list (J7 ns),.int (u:Nat)]/\ns.length<=d/\(∀n∈ns,n.length<=16)/\Q (rsO (fsF ns u))
theorem C2r (a b:Nat):((((a:Nat):Int)) == ((b:Nat):Int))=decide (a=b):=by
 by_cases h:a=b
 ·subst h;simp
 ·rw[decide_eq_false h];exact beq_eq_false_iff_ne.mpr (by omega)
theorem B6s {x:PyData} {xs:List PyData}:W6 (x::xs) (some 1) none=xs:=by
 unfold W6
 rw[show (some (1:Int))=some (((1:Nat):Int)) from rfl,HT.sIx_nat,HT.sIx_none,K8,A9t (by omega),List.drop_succ_cons,B7f,A9s (by omega)]
theorem B6t (a:Nat):(((a:Nat):Int) == 0)=decide (a=0):=C2r a 0
abbrev D2r:DSp:=A9j 3
def wkD (x:Sp2×Sp2):PyData:=.tuple [A0j x.1,A0j x.2]
def A4j (m:Nat) (ws:List Wy) (st:Int) (sp:List Sp2) (x:Sp2×Sp2) (n:List Nat):Prop:=∃ts,V8 m ws st sp (A09 m x.1) ts/\n=d9 x.2 0 [] ts
def B6u (m:Nat) (st:Int) (x:Sp2×Sp2):Prop:=x.1.1 < m/\x.2.1 < m/\0<=x.1.2/\x.1.2<=st
def A1f (nss:List (List Nat)):PyData:=match fsF nss 0 with
 | none=>.tuple [.str "not",.list (J7 nss)]
 | some r=>.tuple [.str "all",.list (D4 r)]
def D2s:DSp:=fun ds Q=>∃(m:Nat) (ws:List Wy) (st:Int) (sp:List Sp2) (wk:List (Sp2×Sp2)),ds=[E8 m ws,.int st,.list (sp.map J6),.list (wk.map wkD)]/\J8 m ws/\0<=st/\st<=1000000000000000000000/\k9 m sp/\(∀x∈wk,B6u m st x)/\wk.length<=3/\∀nss,Z3 (A4j m ws st sp) wk nss->Q (A1f nss)
theorem C2s {α β:Type} {te:DE} {ρ:List Sl} {Q:List PyData->Prop} {g:α->PyData} {f:β->PyData} {R:α->β->Prop}:∀{xs:List α} {acc:List PyData},(∀x∈xs,∀Q':PyData->List Sl->Prop,(∀y,R x y->Q' (f y) (ρ++[.sh (g x)]))->te (ρ++[.sh (g x)]) Q')->(∀ys:List β,Z3 R xs ys->Q (acc++ys.map f))->A0g A80 te ρ Q (xs.map g) acc
 | [],acc,_,q=>by
  have q':=q [] .nil
  rw[List.map_nil,n6] at q'
  exact q'
 | x::r,acc,h,q=>by
  refine⟨rfl,?_⟩
  rw[if_pos rfl]
  refine h x C0 _ fun y hy=>⟨rfl,C2s (fun z hz=>h z (B6 _ hz)) fun ys hR=>?_⟩
  rw[A1h]
  exact q (y::ys) (.cons hy hR)
theorem A9k {α β:Type} {R:α->β->Prop}:∀{as:List α} {bs:List β},Z3 R as bs->bs.length=as.length
 | _,_,.nil=>rfl
 | _,_,.cons _ t=>by rw[K8,K8,A9k t]
theorem B6v {m:Nat} {ws:List Wy} {st:Int} {sp:List Sp2} (so:k9 m sp):∀{wk:List (Sp2×Sp2)} {nss:List (List Nat)},Z3 (A4j m ws st sp) wk nss->∀n∈nss,n.length<=6
 | _,_,.nil,n,h=>nomatch h
 | x::_,_::_,.cons r t,n,h=>by
  rcases N1.mp h with e | e
  ·obtain⟨ts,hT,hn⟩:=r
   have hO:=C2q x.2 ts 0 [] ⟨fun n hn=>(nomatch hn),B2g.nil⟩
   rw[e,hn]
   have:=pw4 sp.length (by have:=so.few;omega)
   have:=hT.len
   exact D2m ⟨fun n hn=>S1 (hO.lt n hn) (by omega),hO.pw⟩
  ·exact B6v so t n e
theorem A9l:∀(ns:List (List Nat)) (u:Nat) (r:List Nat),fsF ns u=some r->r.length=ns.length
 | [],u,r,e=>by cases e;rfl
 | n::ns,u,r,e=>by
  obtain⟨a,_,h⟩:=List.exists_of_findSome?_eq_some (show (n.findSome? fun s=>if djN s u=true then (fsF ns (u |||s)).map (s::·) else none)=some r from e)
  split at h
  ·cases ef:fsF ns (u |||a) with
   | none=>rw[ef] at h;cases h
   | some rs=>rw[ef] at h;cases h;rw[K8,K8,A9l ns _ _ ef]
  ·cases h
theorem D2t {m:Nat} {b:Sp2} {st:Int} (hb:b.1 < m) (h0:0<=b.2) (h1:b.2<=st):G7 m st (A09 m b):=⟨C7c,fun p x e=>by
 unfold A09 at e
 rw[j5 (by rw[A4m];exact hb),A36] at e
 split at e
 ·cases e;exact⟨h0,h1⟩
 ·cases e⟩
theorem D2u {ts:List Tb} {k:Nat} {x:PyData} {r:List PyData} (h:x::r=(T1 (F8 ts)).drop k):k < ts.length/\x=.tuple [.int ((k:Nat):Int),.list (C5 (tbs ts k))]/\r=(T1 (F8 ts)).drop (k + 1):=by
 have hl:(T1 (F8 ts)).length=ts.length:=by unfold T1;rw[D5,B2k,A76]
 have hk:k < (T1 (F8 ts)).length:=by
  rcases A0v k (T1 (F8 ts)).length with c | c
  ·exact c
  ·rw[C29 c] at h;cases h
 rw[A4o hk] at h
 injection h with h1 h2
 refine⟨by omega,?_,h2⟩
 obtain⟨y,e1,e2⟩:=B9s (K3 hk)
 unfold F8 at e1
 rw[M7,A6t (by omega)] at e1
 cases e1
 rw[h1,e2]
theorem C2t {α:Type} (f:α->Bool):∀xs:List α,A14 (xs.map fun x=>PyData.bool (f x))=some (xs.map f)
 | []=>rfl
 | x::xs=>by
  show (A14 (xs.map fun x=>PyData.bool (f x))).map (f x::·)=_
  rw[C2t f xs];rfl
theorem any_map {α:Type} (f:α->Bool) (xs:List α):(xs.map f).any id=xs.any f:=by rw[List.any_map];rfl
theorem D2v (ns:List Nat) (k:Nat):D4 (ns++[k])=D4 ns++[.int ((k:Nat):Int)]:=by unfold D4;rw[O5];rfl
theorem D2w {ts:List Tb} {k:Nat} (h:k < ts.length):ts.drop k=tbs ts k::ts.drop (k + 1):=by
 rw[A4o h]
 unfold tbs
 rw[K3 h]
 rfl
theorem D2x {g:Sp2} {ts:List Tb} {k:Nat} {acc:List Nat} (h:k < ts.length):d9 g k acc (ts.drop k)=d9 g (k + 1) (if enF (tbs ts k) g=true/\(acc.any fun n=>A2n n k)=false then acc++[k] else acc) (ts.drop (k + 1)):=by
 rw[D2w h];rfl
section
variable {P:Program} {w:World} {K:B3} {mg:Str->Option Value} {base:Heap}
theorem D2y {a:Addr} {d:FuncData} {lev:Nat} {ps:List Str} {ms:List Md}:D0 P w K mg base CX0 lev a d ps (spD ms fun _ _=>False):=by
 exact⟨fun vs H Q E h=>by obtain⟨F,hand,ds,Qd,_,_,_,_,z,_⟩:=h;exact z.elim,fun A outer s H args us vs Q E hr _ _ _ h=>by obtain⟨F,hand,ds,Qd,_,_,_,_,z,_⟩:=h;exact z.elim⟩
theorem D2z (T:Txt K mg):D0 P w K mg base CX0 1 T.f_base_at.a T.f_base_at.d ["many", "spot"] (spD [.sh,.sh] D2n):=by
 refine G1 T.f_base_at.F C06 rfl (fun C cdv A outer s H E hr=>⟨_,(@F7 _ _ _ _ _ _ (Z0 (B9 (i:=2) C06.nd rfl (A8 rfl) (B0j (F1 (K0 (A7 F6 C6 F4))) (A1 (pv 0))))) (F7 (A7m (T9 (C7 (pv 1) (E7 (D6 (v:=V.int 1) rfl T.mg_LEVEL ⟨_,rfl⟩)) (fun _ _=>rfl)) (Z9 (pv 2) (C7 (pv 1) (E7 (D6 (v:=V.int 0) rfl T.mg_PLACE_spots ⟨_,rfl⟩)) (fun _ _=>rfl)) X9)))
   (B7 (C8 (A1 (pv 2)))))),fun ds Q hl h=>?_⟩)
 obtain⟨m,b,rfl,hb,hm,q⟩:=h
 right
 refine⟨by decide,⟨by omega,by omega,by decide⟩,?_⟩
 rw[show ((m:Nat):Int).toNat=m by simp,C1l]
 right
 rw[A6r (by rw[d7,A4m];exact hb)]
 right
 rw[show PyData.int b.2=oD (some b.2) from rfl,B1w]
 exact q
theorem D20 (T:Txt K mg):D0 P w K mg base CX0 1 T.f_has_enough.a T.f_has_enough.d ["table", "goal"] (spD [.sh,.sh] D2o):=by
 refine G1 T.f_has_enough.F C07 rfl (fun C cdv A outer s H E hr=>⟨_,(@F7 _ _ _ _ _ _ (E3 (B9 (i:=2) C07.nd rfl (A8 rfl) (C7 (pv 0) (C7 (pv 1) (E7 (D6 (v:=V.int 0) rfl T.mg_PLACE_spots ⟨_,rfl⟩)) (fun _ _=>rfl)) (fun _ _=>rfl)))) (B7 (C8 (A22 (b8 A0x A1z (A1 (pv 2)) F6 (C9 _)) (A0z (b8 B22 B89 (A1 (pv 2)) (C7 (pv 1) (E7 (D6 (v:=V.int 1) rfl T.mg_LEVEL ⟨_,rfl⟩)) (fun _ _=>rfl)) (C9 _))))))),fun ds Q hl h=>?_⟩)
 obtain⟨t,g,rfl,hg,q⟩:=h
 unfold enF at q
 right
 rw[j6 hg]
 cases e:gt t g.1 with
 | none=>
  rw[e] at q
  right
  exact q
 | some l=>
  rw[e] at q
  right
  exact q
theorem D21 (T:Txt K mg):D0 P w K mg base CX0 1 T.f_is_part.a T.f_is_part.d ["one", "other"] (spD [.sh,.sh] D2p):=by
 refine G1 T.f_is_part.F C8m rfl (fun C cdv A outer s H E hr=>⟨_,(B7 (C8 (b8 (P2 (K4 hr)) L9 (E2 A7b A7r (A1 (pv 0)) (A1 (pv 1))) (A1 (pv 0)) (C9 _)))),fun ds Q hl h=>?_⟩)
 obtain⟨a,b,rfl,q⟩:=h
 left
 refine⟨rfl,rfl,M3 _ _,?_⟩
 rw[B14,Q2,C2r]
 exact q
theorem C2u (T:Txt K mg):D0 P w K mg base CX0 10 T.f_needs_of.a T.f_needs_of.d ["land", "store", "springs", "walker"] (B4q [.sh,.sh,.sh,.sh] D2q):=by
 have G_base_at:=@D2z P w K mg base T
 have b_base_at:=T.f_base_at.b
 have G_highest_by:=@C2h P w K mg base T
 have b_highest_by:=T.f_highest_by.b
 have G_has_enough:=@D20 P w K mg base T
 have b_has_enough:=T.f_has_enough.b
 have G_is_part:=@D21 P w K mg base T
 have b_is_part:=T.f_is_part.b
 refine C7k T.f_needs_of.F B1r rfl (fun C cdv A outer s H E hr=>⟨_,(@D3 _ _ _ _ _ _ (Z0 (B9 (i:=4) B1r.nd rfl (A8 rfl) (K0 C6))) (@D3 _ _ _ _ _ _ (@V4 _ _ _ _ _ _ (@Q4 _ _ _ _ _ _ _ _ O6 rfl (@B34 _ _ _ _ _ _ (@B0d _ _ _ _ _ _ _ _ rfl T.n_enumerate (@A4 _ _ _ _ _ (@C4 _ _ _ _ _ _ _ (@B4 _ _ _ _ _ _ _ _ _ _ _ _ _ _ _ _ G_highest_by (hr.mono (by decide)) rfl T.f_highest_by.m T.f_highest_by.F.kp b_highest_by .nil B5 (@A5 _ _ _ _ _ _ (A1 (pv 0)) (@A5 _ _ _ _ _ _ (A1 (pv 1)) (@A5 _ _ _ _ _ _ (A1 (pv 2)) (@A5 _ _ _ _ _ _ (C4 (B4 G_base_at (hr.mono (by decide)) rfl T.f_base_at.m T.f_base_at.F.kp b_base_at .nil B5 (A5 (C7 (pv 0) (E7 (D6 (v:=V.int 0) rfl T.mg_MANY ⟨_,rfl⟩)) (fun _ _=>rfl)) (A5 (C7 (pv 3) (E7 (D6 (v:=V.int 0) rfl T.mg_BEGIN ⟨_,rfl⟩)) (fun _ _=>rfl)) C3 B0) B0) (he:=B0) (hpl:=(A2 B0 A3)))) C3 E5) A0) A0) A0) (by decide) A0 ((A2 A0 (A2 A0 (A2 E5 A3)))))) B8 E5) (by rfl))) (B0o (A0w (n:=2) rfl (N2 (J2 (i:=5) B1r.nd rfl (f8 rfl)) (N2 (J2 (i:=6) B1r.nd rfl (A8 rfl)) p8)))) (@B7 _ _ _ _ (@J1 _ _ _ _ _ _ _ _ _ (PW.pt (@A1w _ _ _ _ _ _ _ _ (W3 (C4 (B4 G_has_enough (hr.mono (by decide)) rfl T.f_has_enough.m T.f_has_enough.F.kp b_has_enough .nil B5 (A5 (A1 (pv 6)) (A5 (C7 (pv 3) (E7 (D6 (v:=V.int 1) rfl T.mg_GOAL ⟨_,rfl⟩)) (fun _ _=>rfl)) C3 B0) A0) (he:=A0) (hpl:=(A2 B0 A3))))) (@A4z _ _ _ _ _ (@Y8 _ _ _ _ _ (@W3 _ _ _ _ (@N9 _ _ _ _ _ _ B3z (@G4 _ _ _ _ _ _ _ _ _ (B3q rfl) rfl T.n_any B3l (@A7 _ _ _ _ _ _ (@F1 _ _ _ _ (@C7i _ _ _ _ _ _ _ (fun C=>(@A0h _ _ _ _ _ _ _ _ rfl (@Y6 _ _ _ _ _ _ _ _ _ _ _ _ _ _ _ (N5.new (N:=["land", "store", "springs", "walker", "needs", "some", "table"]) (osc:=C2 B1g) (by decide +kernel)) rfl (b9 (pv 4)) (fun _=>Y2) (fun _=>(C4 (B4 G_is_part (hr.mono (by decide)) rfl T.f_is_part.m T.f_is_part.F.kp b_is_part .nil B5 (A5 (A1 (pv 7)) (A5 (A1 (pv 5)) C3 A0) A0) (he:=A0) (hpl:=(A2 A0 A3))))) (by rfl) (by rfl) (by intro _;rfl)))))) C6 W2) (by decide) (by decide) W2 A3)) (by intro _;rfl)))))) (B7 (A08 (S8 (Y5 V3 o8 o9 i7 (pv 4) (A4 (A1 (pv 5)) B8 A0))))) J5)) (by intro _;rfl))) (B7 (C6v (pv 4))))),fun ds Q hl h=>?_⟩)
 obtain⟨m,ws,st,sp,b,g,rfl,ok,s0,s1,so,hb,hg,b0,b1,q⟩:=h
 have m2:=ok.m2
 have sf:=so.few
 have p16:=pw4 sp.length (by omega)
 left
 refine⟨by decide,?_⟩
 refine go ?_;array_mem_dec
 refine⟨m,b,rfl,hb,by omega,?_⟩
 array_get_dec
 refine⟨m,ws,st,sp,A09 m b,rfl,ok,s0,s1,so,D2t hb b0 b1,fun ts hT=>?_⟩
 have tl:=hT.len
 array_get_dec
 refine⟨fun r ρ=>∃(k:Nat) (acc:List Nat) (z5 z6:Sl),r=(T1 (F8 ts)).drop k/\ρ=[Sl.sh (E8 m ws),Sl.sh (.int st),Sl.sh (.list (sp.map J6)),Sl.sh (.tuple [A0j b,A0j g]),Sl.ow (D4 acc),z5,z6]/\d9 g k acc (ts.drop k)=d9 g 0 [] ts/\NdO k acc/\k<=ts.length/\acc.length<=k,⟨0,[],_,_,rfl,rfl,rfl,⟨fun n hn=>(nomatch hn),B2g.nil⟩,M6 _,F3 _⟩,?_,?_⟩
 ·rintro x r ρ ⟨k,acc,z5,z6,h1,rfl,hN,hO,hk,hal⟩
  obtain⟨hk',rfl,rfl⟩:=D2u h1
  rw[D2x hk'] at hN
  have tlen:=(hT.lid.tab _ (A2m hk')).len
  sizeOf_list_dec
  refine⟨tbs ts k,g,rfl,by rw[tlen];exact hg,?_⟩
  cases e1:enF (tbs ts k) g with
  | false=>
   rw[e1,if_neg (fun z=>by cases z.1)] at hN
   left
   exact⟨k + 1,acc,_,_,rfl,rfl,hN,hO.keep,hk',by omega⟩
  | true=>
   left
   unfold B4p
   left
   refine⟨⟨rfl,rfl,by rw[d8];omega⟩,?_⟩
   rw[show D4 acc=acc.map fun n=>PyData.int ((n:Nat):Int) from rfl]
   refine A0i (f:=fun n=>.bool (A2n n k)) (fun n hn Q' q'=>?_) ?_
   ·left
    exact⟨n,k,rfl,q'⟩
   rw[Q9]
   try unfold gBs
   left
   rw[C2t]
   left
   rw[any_map]
   cases e2:acc.any (fun n=>A2n n k) with
   | true=>
    rw[e2,if_neg (fun z=>by cases z.2)] at hN
    exact G6 ⟨k + 1,acc,_,_,rfl,rfl,hN,hO.keep,hk',by omega⟩
   | false=>
    rw[e1,e2,if_pos ⟨rfl,rfl⟩] at hN
    refine J0 ?_
    left
    refine⟨by rw[D5];omega,k + 1,acc++[k],Sl.sh (.int ((k:Nat):Int)),Sl.sh (.list (C5 (tbs ts k))),rfl,?_,hN,hO.put e2,hk',by rw[M4,B2f];omega⟩
    rw[D2v]
    rfl
 ·rintro ρ ⟨k,acc,z5,z6,h1,rfl,hN,hO,hk,hal⟩
  have:k=ts.length:=by
   have:=congrArg A2o h1
   unfold T1 at this
   rw[B67,D5,B2k,A76] at this
   have this:0=ts.length - k:=this
   omega
  subst this
  rw[C29 (F3 _)] at hN
  have hN:acc=d9 g 0 [] ts:=hN
  refine go ?_;left
  rw[hN]
  exact q ts hT
theorem D22 (T:Txt K mg):D0 P w K mg base CX0 1 T.f_first_shares.a T.f_first_shares.d ["needs", "used"] (spD [.sh,.sh] (A9j 0)):=by
 have G_first_shares:D0 P w K mg base CX0 0 T.f_first_shares.a T.f_first_shares.d ["needs", "used"] (spD [.sh,.sh] fun _ _=>False):=D2y
 have b_first_shares:=T.f_first_shares.b
 refine G1 T.f_first_shares.F m7 rfl (fun C cdv A outer s H E hr=>⟨_,(@D3 _ _ _ _ _ _ (J1 (E9 (P2 (K4 hr)) L9 (W5 (G4 Q5 rfl T.n_len Q6 (A4 (pv 0) B8 A0) (he:=A0) (hpl:=A3))) A6 (C9 _))
   (B7 (C8 (F1 (K0 C6))))
   J5) (@D3 _ _ _ _ _ _ (@V4 _ _ _ _ _ _ (@Q4 _ _ _ _ _ _ _ _ O6 rfl (A07 (C7 (pv 0) A6 (fun _ _=>rfl))) (Z1 (J2 (i:=2) m7.nd rfl (A8 rfl))) (@D3 _ _ _ _ _ _ (@E3 _ _ _ _ _ (@B9 _ _ 3 _ _ _ _ m7.nd rfl (A8 rfl) (@A40 _ _ _ _ _ _ _ _ _ (E9 (P2 (K4 hr)) L9 (E2 A7b A7r (A1 (pv 2)) (A1 (pv 1))) A6 (C9 _)) (C4 (B4 G_first_shares (hr.mono (by decide)) rfl T.f_first_shares.m T.f_first_shares.F.kp b_first_shares .nil B5 (A5 (F1 (A7k (pv 0) (A03 A6) A45)) (A5 (E2 A92 B0x (A1 (pv 1)) (A1 (pv 2))) C3 F5) B0) (he:=B0) (hpl:=(A2 F5 A3)))) F6) (by rfl) (by first | exact .inl rfl | exact .inr rfl | assumption))) (B7 (J1 (E9 A0x A1z (A1 (pv 3)) F6 (C9 _))
   (B7 (C8 (F1 (A3o (F1 (K0 (A7 (A1 (pv 2)) C6 A0))) (A1 (pv 3))))))
   J5))) (by intro _;rfl))) (B7 (C8 F6)))),fun ds Q hl h=>?_⟩)
 obtain⟨ns,u,rfl,hd,hb,q⟩:=h
 cases ns with
 | cons n ns=>rw[K8] at hd;omega
 | nil=>
  left
  refine⟨rfl,rfl,M3 _ _,?_⟩
  refine J0 ?_
  left
  exact⟨by decide,q⟩
theorem D23 (T:Txt K mg):D0 P w K mg base CX0 2 T.f_first_shares.a T.f_first_shares.d ["needs", "used"] (spD [.sh,.sh] (A9j 1)):=by
 have G_first_shares:=@D22 P w K mg base T
 have b_first_shares:=T.f_first_shares.b
 refine G1 T.f_first_shares.F m7 rfl (fun C cdv A outer s H E hr=>⟨_,(@D3 _ _ _ _ _ _ (J1 (E9 (P2 (K4 hr)) L9 (W5 (G4 Q5 rfl T.n_len Q6 (A4 (pv 0) B8 A0) (he:=A0) (hpl:=A3))) A6 (C9 _))
   (B7 (C8 (F1 (K0 C6))))
   J5) (@D3 _ _ _ _ _ _ (@V4 _ _ _ _ _ _ (@Q4 _ _ _ _ _ _ _ _ O6 rfl (A07 (C7 (pv 0) A6 (fun _ _=>rfl))) (Z1 (J2 (i:=2) m7.nd rfl (A8 rfl))) (@D3 _ _ _ _ _ _ (@E3 _ _ _ _ _ (@B9 _ _ 3 _ _ _ _ m7.nd rfl (A8 rfl) (@A40 _ _ _ _ _ _ _ _ _ (E9 (P2 (K4 hr)) L9 (E2 A7b A7r (A1 (pv 2)) (A1 (pv 1))) A6 (C9 _)) (C4 (B4 G_first_shares (hr.mono (by decide)) rfl T.f_first_shares.m T.f_first_shares.F.kp b_first_shares .nil B5 (A5 (F1 (A7k (pv 0) (A03 A6) A45)) (A5 (E2 A92 B0x (A1 (pv 1)) (A1 (pv 2))) C3 F5) B0) (he:=B0) (hpl:=(A2 F5 A3)))) F6) (by rfl) (by first | exact .inl rfl | exact .inr rfl | assumption))) (B7 (J1 (E9 A0x A1z (A1 (pv 3)) F6 (C9 _))
   (B7 (C8 (F1 (A3o (F1 (K0 (A7 (A1 (pv 2)) C6 A0))) (A1 (pv 3))))))
   J5))) (by intro _;rfl))) (B7 (C8 F6)))),fun ds Q hl h=>?_⟩)
 obtain⟨ns,u,rfl,hd,hb,q⟩:=h
 cases ns with
 | nil=>
  left
  refine⟨rfl,rfl,M3 _ _,?_⟩
  refine J0 ?_
  left
  exact⟨by decide,q⟩
 | cons n ns=>
  left
  refine⟨rfl,rfl,M3 _ _,?_⟩
  rw[Q2,show ((((J7 (n::ns)).length:Nat):Int) == 0)=false from rfl]
  refine G6 ?_
  refine go ?_
  array_get_dec
  rw[show atI (J7 (n::ns)) 0=some (.list (D4 n)) from A82]
  array_get_dec
  have hn16:=hb n C0
  rw[K8] at hd
  have q:Q (rsO (n.findSome? fun s=>if djN s u=true then (fsF ns (u |||s)).map (s::·) else none)):=q
  refine⟨fun r ρ=>∃(R:List Nat) (z2 z3:Sl),r=D4 R/\ρ=[Sl.sh (.list (J7 (n::ns))),Sl.sh (.int (u:Nat)),z2,z3]/\(n.findSome? fun s=>if djN s u=true then (fsF ns (u |||s)).map (s::·) else none)=R.findSome? fun s=>if djN s u=true then (fsF ns (u |||s)).map (s::·) else none,⟨n,_,_,rfl,rfl,rfl⟩,?_,?_⟩
  ·rintro x r ρ ⟨R,z2,z3,h1,rfl,hR⟩
   cases R with
   | nil=>cases h1
   | cons k R=>
    cases (show x::r=PyData.int ((k:Nat):Int)::D4 R from h1)
    rw[C3a] at hR
    sizeOf_list_dec
    refine⟨rfl,rfl,M3 _ _,?_⟩
    rw[B14,Q2,B6t]
    cases ed:djN k u with
    | false=>
     rw[show decide (k &&&u=0)=false from ed]
     rw[ed,if_neg Q8] at hR
     left
     refine go ?_;left
     exact⟨R,_,_,rfl,rfl,hR⟩
    | true=>
     rw[show decide (k &&&u=0)=true from ed]
     rw[ed,if_pos rfl] at hR
     left
     rw[show W6 (J7 (n::ns)) (some 1) none=J7 ns from B6s,B6r]
     refine⟨ns,u |||k,rfl,by omega,fun n' h=>hb n' (B6 _ h),?_⟩
     cases ef:fsF ns (u |||k) with
     | none=>
      rw[ef] at hR
      refine go ?_;right
      exact⟨R,_,_,rfl,rfl,hR⟩
     | some rs=>
      rw[ef] at hR
      have hR:_=some (k::rs):=hR
      rw[hR] at q
      refine go ?_;right
      refine J0 ⟨by decide,?_⟩
      have hl2:=A9l ns _ _ ef
      exact⟨by rw[d8];omega,q⟩
  ·rintro ρ ⟨R,z2,z3,h1,rfl,hR⟩
   cases R with
   | cons k R=>cases h1
   | nil=>
    rw[hR] at q
    refine go ?_;left
    exact q
theorem D24 (T:Txt K mg):D0 P w K mg base CX0 3 T.f_first_shares.a T.f_first_shares.d ["needs", "used"] (spD [.sh,.sh] (A9j 2)):=by
 have G_first_shares:=@D23 P w K mg base T
 have b_first_shares:=T.f_first_shares.b
 refine G1 T.f_first_shares.F m7 rfl (fun C cdv A outer s H E hr=>⟨_,(@D3 _ _ _ _ _ _ (J1 (E9 (P2 (K4 hr)) L9 (W5 (G4 Q5 rfl T.n_len Q6 (A4 (pv 0) B8 A0) (he:=A0) (hpl:=A3))) A6 (C9 _))
   (B7 (C8 (F1 (K0 C6))))
   J5) (@D3 _ _ _ _ _ _ (@V4 _ _ _ _ _ _ (@Q4 _ _ _ _ _ _ _ _ O6 rfl (A07 (C7 (pv 0) A6 (fun _ _=>rfl))) (Z1 (J2 (i:=2) m7.nd rfl (A8 rfl))) (@D3 _ _ _ _ _ _ (@E3 _ _ _ _ _ (@B9 _ _ 3 _ _ _ _ m7.nd rfl (A8 rfl) (@A40 _ _ _ _ _ _ _ _ _ (E9 (P2 (K4 hr)) L9 (E2 A7b A7r (A1 (pv 2)) (A1 (pv 1))) A6 (C9 _)) (C4 (B4 G_first_shares (hr.mono (by decide)) rfl T.f_first_shares.m T.f_first_shares.F.kp b_first_shares .nil B5 (A5 (F1 (A7k (pv 0) (A03 A6) A45)) (A5 (E2 A92 B0x (A1 (pv 1)) (A1 (pv 2))) C3 F5) B0) (he:=B0) (hpl:=(A2 F5 A3)))) F6) (by rfl) (by first | exact .inl rfl | exact .inr rfl | assumption))) (B7 (J1 (E9 A0x A1z (A1 (pv 3)) F6 (C9 _))
   (B7 (C8 (F1 (A3o (F1 (K0 (A7 (A1 (pv 2)) C6 A0))) (A1 (pv 3))))))
   J5))) (by intro _;rfl))) (B7 (C8 F6)))),fun ds Q hl h=>?_⟩)
 obtain⟨ns,u,rfl,hd,hb,q⟩:=h
 cases ns with
 | nil=>
  left
  refine⟨rfl,rfl,M3 _ _,?_⟩
  refine J0 ?_
  left
  exact⟨by decide,q⟩
 | cons n ns=>
  left
  refine⟨rfl,rfl,M3 _ _,?_⟩
  rw[Q2,show ((((J7 (n::ns)).length:Nat):Int) == 0)=false from rfl]
  refine G6 ?_
  refine go ?_
  array_get_dec
  rw[show atI (J7 (n::ns)) 0=some (.list (D4 n)) from A82]
  array_get_dec
  have hn16:=hb n C0
  rw[K8] at hd
  have q:Q (rsO (n.findSome? fun s=>if djN s u=true then (fsF ns (u |||s)).map (s::·) else none)):=q
  refine⟨fun r ρ=>∃(R:List Nat) (z2 z3:Sl),r=D4 R/\ρ=[Sl.sh (.list (J7 (n::ns))),Sl.sh (.int (u:Nat)),z2,z3]/\(n.findSome? fun s=>if djN s u=true then (fsF ns (u |||s)).map (s::·) else none)=R.findSome? fun s=>if djN s u=true then (fsF ns (u |||s)).map (s::·) else none,⟨n,_,_,rfl,rfl,rfl⟩,?_,?_⟩
  ·rintro x r ρ ⟨R,z2,z3,h1,rfl,hR⟩
   cases R with
   | nil=>cases h1
   | cons k R=>
    cases (show x::r=PyData.int ((k:Nat):Int)::D4 R from h1)
    rw[C3a] at hR
    sizeOf_list_dec
    refine⟨rfl,rfl,M3 _ _,?_⟩
    rw[B14,Q2,B6t]
    cases ed:djN k u with
    | false=>
     rw[show decide (k &&&u=0)=false from ed]
     rw[ed,if_neg Q8] at hR
     left
     refine go ?_;left
     exact⟨R,_,_,rfl,rfl,hR⟩
    | true=>
     rw[show decide (k &&&u=0)=true from ed]
     rw[ed,if_pos rfl] at hR
     left
     rw[show W6 (J7 (n::ns)) (some 1) none=J7 ns from B6s,B6r]
     refine⟨ns,u |||k,rfl,by omega,fun n' h=>hb n' (B6 _ h),?_⟩
     cases ef:fsF ns (u |||k) with
     | none=>
      rw[ef] at hR
      refine go ?_;right
      exact⟨R,_,_,rfl,rfl,hR⟩
     | some rs=>
      rw[ef] at hR
      have hR:_=some (k::rs):=hR
      rw[hR] at q
      refine go ?_;right
      refine J0 ⟨by decide,?_⟩
      have hl2:=A9l ns _ _ ef
      exact⟨by rw[d8];omega,q⟩
  ·rintro ρ ⟨R,z2,z3,h1,rfl,hR⟩
   cases R with
   | cons k R=>cases h1
   | nil=>
    rw[hR] at q
    refine go ?_;left
    exact q
theorem D25 (T:Txt K mg):D0 P w K mg base CX0 4 T.f_first_shares.a T.f_first_shares.d ["needs", "used"] (spD [.sh,.sh] (A9j 3)):=by
 have G_first_shares:=@D24 P w K mg base T
 have b_first_shares:=T.f_first_shares.b
 refine G1 T.f_first_shares.F m7 rfl (fun C cdv A outer s H E hr=>⟨_,(@D3 _ _ _ _ _ _ (J1 (E9 (P2 (K4 hr)) L9 (W5 (G4 Q5 rfl T.n_len Q6 (A4 (pv 0) B8 A0) (he:=A0) (hpl:=A3))) A6 (C9 _))
   (B7 (C8 (F1 (K0 C6))))
   J5) (@D3 _ _ _ _ _ _ (@V4 _ _ _ _ _ _ (@Q4 _ _ _ _ _ _ _ _ O6 rfl (A07 (C7 (pv 0) A6 (fun _ _=>rfl))) (Z1 (J2 (i:=2) m7.nd rfl (A8 rfl))) (@D3 _ _ _ _ _ _ (@E3 _ _ _ _ _ (@B9 _ _ 3 _ _ _ _ m7.nd rfl (A8 rfl) (@A40 _ _ _ _ _ _ _ _ _ (E9 (P2 (K4 hr)) L9 (E2 A7b A7r (A1 (pv 2)) (A1 (pv 1))) A6 (C9 _)) (C4 (B4 G_first_shares (hr.mono (by decide)) rfl T.f_first_shares.m T.f_first_shares.F.kp b_first_shares .nil B5 (A5 (F1 (A7k (pv 0) (A03 A6) A45)) (A5 (E2 A92 B0x (A1 (pv 1)) (A1 (pv 2))) C3 F5) B0) (he:=B0) (hpl:=(A2 F5 A3)))) F6) (by rfl) (by first | exact .inl rfl | exact .inr rfl | assumption))) (B7 (J1 (E9 A0x A1z (A1 (pv 3)) F6 (C9 _))
   (B7 (C8 (F1 (A3o (F1 (K0 (A7 (A1 (pv 2)) C6 A0))) (A1 (pv 3))))))
   J5))) (by intro _;rfl))) (B7 (C8 F6)))),fun ds Q hl h=>?_⟩)
 obtain⟨ns,u,rfl,hd,hb,q⟩:=h
 cases ns with
 | nil=>
  left
  refine⟨rfl,rfl,M3 _ _,?_⟩
  refine J0 ?_
  left
  exact⟨by decide,q⟩
 | cons n ns=>
  left
  refine⟨rfl,rfl,M3 _ _,?_⟩
  rw[Q2,show ((((J7 (n::ns)).length:Nat):Int) == 0)=false from rfl]
  refine G6 ?_
  refine go ?_
  array_get_dec
  rw[show atI (J7 (n::ns)) 0=some (.list (D4 n)) from A82]
  array_get_dec
  have hn16:=hb n C0
  rw[K8] at hd
  have q:Q (rsO (n.findSome? fun s=>if djN s u=true then (fsF ns (u |||s)).map (s::·) else none)):=q
  refine⟨fun r ρ=>∃(R:List Nat) (z2 z3:Sl),r=D4 R/\ρ=[Sl.sh (.list (J7 (n::ns))),Sl.sh (.int (u:Nat)),z2,z3]/\(n.findSome? fun s=>if djN s u=true then (fsF ns (u |||s)).map (s::·) else none)=R.findSome? fun s=>if djN s u=true then (fsF ns (u |||s)).map (s::·) else none,⟨n,_,_,rfl,rfl,rfl⟩,?_,?_⟩
  ·rintro x r ρ ⟨R,z2,z3,h1,rfl,hR⟩
   cases R with
   | nil=>cases h1
   | cons k R=>
    cases (show x::r=PyData.int ((k:Nat):Int)::D4 R from h1)
    rw[C3a] at hR
    sizeOf_list_dec
    refine⟨rfl,rfl,M3 _ _,?_⟩
    rw[B14,Q2,B6t]
    cases ed:djN k u with
    | false=>
     rw[show decide (k &&&u=0)=false from ed]
     rw[ed,if_neg Q8] at hR
     left
     refine go ?_;left
     exact⟨R,_,_,rfl,rfl,hR⟩
    | true=>
     rw[show decide (k &&&u=0)=true from ed]
     rw[ed,if_pos rfl] at hR
     left
     rw[show W6 (J7 (n::ns)) (some 1) none=J7 ns from B6s,B6r]
     refine⟨ns,u |||k,rfl,by omega,fun n' h=>hb n' (B6 _ h),?_⟩
     cases ef:fsF ns (u |||k) with
     | none=>
      rw[ef] at hR
      refine go ?_;right
      exact⟨R,_,_,rfl,rfl,hR⟩
     | some rs=>
      rw[ef] at hR
      have hR:_=some (k::rs):=hR
      rw[hR] at q
      refine go ?_;right
      refine J0 ⟨by decide,?_⟩
      have hl2:=A9l ns _ _ ef
      exact⟨by rw[d8];omega,q⟩
  ·rintro ρ ⟨R,z2,z3,h1,rfl,hR⟩
   cases R with
   | cons k R=>cases h1
   | nil=>
    rw[hR] at q
    refine go ?_;left
    exact q
theorem D26 (T:Txt K mg):D0 P w K mg base CX0 4 T.f_first_shares.a T.f_first_shares.d ["needs", "used"] (spD [.sh,.sh] D2r):=D25 T
end
abbrev S0 (H:Hp):Addr->Prop:=fun b=>H b=none\/∃xs,H b=some (.tup xs)
theorem B15 {ms:List Md} {sp:DSp} {vs:List V} {ds:List PyData} {H:Hp} {Q:VK} {E:XK} (Qd:PyData->Prop) (ar:U3 TT0 none H ms vs ds) (h:sp ds Qd) (k:∀d v H',Qd d->ThV TT0 H' v d->Same H H'->Q v H'):spD ms sp vs H Q E:=
 ⟨TT0,none,ds,Qd,⟨fun _ _=>trivial,fun _ _ _=>trivial⟩,fun q hq=>(nomatch hq),fun q hq=>(nomatch hq),ar,h,fun d v H' a b c _=>k d v H' a b (j9 c)⟩
theorem D27 {ms:List Md} {sp:DSp} {vs:List V} {ds:List PyData} {H:Hp} {Q:VK} {E:XK} (Qd:PyData->Prop) (ar:U3 (S0 H) none H ms vs ds) (h:sp ds Qd) (k:∀d v H',Qd d->ThV (S0 H) H' v d->Same H H'->Q v H'):spD ms sp vs H Q E:=
 ⟨S0 H,none,ds,Qd,⟨fun _ h=>.inl h,fun _ xs h=>.inr ⟨xs,h⟩⟩,fun q hq=>(nomatch hq),fun q hq=>(nomatch hq),ar,h,fun d v H' a b c _=>k d v H' a b (j9 c)⟩
theorem D28 {ms:List Md} {sp:DSp} {vs:List V} {ds:List PyData} {H:Hp} {Q:VK} {E:XK} (Qd:PyData->Prop) (ar:U3 TT0 none H ms vs ds) (h:sp ds Qd) (k:∀d v H' fp,Qd d->FpV (S0 H) H' v d fp->fp.Nodup->Same H H'->Q v H'):A7v ms sp vs H Q E:=
 ⟨TT0,none,ds,Qd,⟨fun _ _=>trivial,fun _ _ _=>trivial⟩,fun q hq=>(nomatch hq),fun q hq=>(nomatch hq),ar,h,fun d v H' fp a b n c _=>k d v H' fp a b n (j9 c)⟩
theorem A6w {F G:Addr->Prop} {H H':Hp}:∀{t:Tb} {us:List V},A9 F H us (C5 t)->A9 G H' us (C5 t)
 | [],_,h=>by cases h;exact .nil
 | o::t,_,h=>by
  cases h with
  | cons x r=>
   cases o with
   | none=>cases x;exact .cons .non (A6w r)
   | some i=>cases x;exact .cons (.int _) (A6w r)
theorem B16 {F G:Addr->Prop} {H H':Hp}:∀{t:Tb} {us:List V},A9 F H us (C5 t)->G0 G H' us (C5 t) []
 | [],_,h=>by cases h;exact .nil
 | o::t,_,h=>by
  cases h with
  | cons x r=>
   cases o with
   | none=>cases x;exact G0.cons (fp:=[]) (fps:=[]) .non (B16 r)
   | some i=>cases x;exact G0.cons (fp:=[]) (fps:=[]) (.int _) (B16 r)
theorem C2v {F G:Addr->Prop} {H H':Hp}:∀{ns:List Nat} {us:List V},A9 F H us (D4 ns)->G0 G H' us (D4 ns) []
 | [],_,h=>by cases h;exact .nil
 | n::ns,_,h=>by
  cases h with
  | cons x r=>cases x;exact G0.cons (fp:=[]) (fps:=[]) (.int _) (C2v r)
theorem B17 {F G:Addr->Prop} {H H':Hp} {ns:List Nat} {us:List V} (t:A9 F H us (D4 ns)):A9 G H' us (D4 ns):=(C2v (G:=G) (H':=H') t).th
theorem _root_.L2.Same.early {H H':Hp} (s:Same H H') {b:Addr} (h:H' b=none):H b=none:=by
 cases z:H b with
 | none=>rfl
 | some o=>rw[s _ _ z] at h;cases h
theorem D29 {H H':Hp} (s:Same H H') {b:Addr} (h:S0 H' b):S0 H b:=by
 rcases h with h | ⟨xs,h⟩
 ·exact .inl (s.early h)
 ·cases z:H b with
  | none=>exact .inl z
  | some o=>
   have:=s _ _ z
   rw[h] at this
   cases this
   exact .inr ⟨xs,z⟩
theorem A6x {H H':Hp} (s:Same H H') {b:Addr} {xs:List V} (h:S0 H b) (e:H' b=some (.lst xs)):H b=none:=by
 rcases h with h | ⟨ys,h⟩
 ·exact h
 ·rw[s _ _ h] at e;cases e
theorem D3a {ms:List Md} {sp:DSp} {vs:List V} {ds:List PyData} {H0 H:Hp} {Q:VK} {E:XK} (s:Same H0 H) (Qd:PyData->Prop) (ar:U3 (S0 H0) none H ms vs ds) (h:sp ds Qd) (k:∀d v H',Qd d->ThV (S0 H0) H' v d->Same H H'->Q v H'):spD ms sp vs H Q E:=
 ⟨S0 H0,none,ds,Qd,⟨fun _ h=>.inl (s.early h),fun b xs h=>D29 s (.inr ⟨xs,h⟩)⟩,fun q hq=>(nomatch hq),fun q hq=>(nomatch hq),ar,h,fun d v H' a b c _=>k d v H' a b (j9 c)⟩
theorem C2w {ms:List Md} {sp:A7s} {vs:List V} {ds:List PyData} {H:Hp} {Q:VK} {E:XK} (Qd:Sl->Prop) (ar:U3 TT0 none H ms vs ds) (h:sp ds Qd) (k:∀d v H',Qd d->C0q TT0 H H' v d->Same H H'->Q v H'):B4q ms sp vs H Q E:=
 ⟨TT0,none,ds,Qd,⟨fun _ _=>trivial,fun _ _ _=>trivial⟩,fun q hq=>(nomatch hq),fun q hq=>(nomatch hq),ar,h,fun d v H' a b c _=>k d v H' a b (j9 c)⟩
theorem B6w {ms:List Md} {sp:DSp} {vs:List V} {ds:List PyData} {H:Hp} {Q:VK} {E:XK} {hd hl:Addr} (Qd:PyData->Prop) (d:Hd H hd hl) (ar:U3 (fun b=>b≠hd) (some (hd,hl)) H ms vs ds) (h:sp (.none::ds) Qd) (k:∀d v H',Qd d->ThV (fun b=>b≠hd) H' v d->Kq (some (hd,hl)) H H'->Hd H' hd hl->Q v H'):spD (.hd::ms) sp (.ref hd::vs) H Q E:=by
 have d0:=d
 obtain⟨_,_,_,_,_,_,_,_,e⟩:=d
 exact⟨fun b=>b≠hd,some (hd,hl),.none::ds,Qd,⟨(fun b z y=>by rw[y,e] at z;cases z),(fun b xs z y=>by rw[y,e] at z;cases z)⟩,fun q hq=>by cases hq;exact fun z=>z rfl,fun q hq=>by cases hq;exact d0,.cons ⟨_,rfl,rfl⟩ ar,h,fun d v H' a b c z=>k d v H' a b c (z _ rfl)⟩
def spN (sp:DSp):Sp:=fun vs H Q _=>∃ds Qd,A9 TT0 H vs ds/\sp ds Qd/\∀d v H',Qd d->ThV (S0 H) H' v d->Same H H'->Q v H'
theorem _root_.L2.Same.upd {H:Hp} {p:Addr} {o:HO} (h:H p=none):Same H (upd H p o):=fun b o' e=>by rw[C1 (N7 e h)];exact e
theorem _root_.L2.Same.tr {H H1 H2:Hp} (a:Same H H1) (b:Same H1 H2):Same H H2:=fun c o e=>b _ _ (a _ _ e)
theorem ThV.keep {F:Addr->Prop} {H H':Hp} {v:V} {d:PyData} (t:ThV F H v d) (s:Same H H'):ThV F H' v d:=t.mv fun b o z e=>⟨z,s _ _ e⟩
theorem A9.keep {F:Addr->Prop} {H H':Hp} {v:List V} {d:List PyData} (t:A9 F H v d) (s:Same H H'):A9 F H' v d:=t.mv fun b o z e=>⟨z,s _ _ e⟩
theorem ThV.any {F:Addr->Prop} {H:Hp} {v:V} {d:PyData} (t:ThV F H v d):ThV TT0 H v d:=t.mv fun b o z e=>⟨trivial,e⟩
theorem A9.any {F:Addr->Prop} {H:Hp} {v:List V} {d:List PyData} (t:A9 F H v d):A9 TT0 H v d:=t.mv fun b o z e=>⟨trivial,e⟩
section
variable {P:Program} {w:World} {K:B3} {mg:Str->Option Value} {base:Heap}
inductive A9m:List Md->Prop
 | nil:A9m []
 | cons {ms}:A9m ms->A9m (.sh::ms)
theorem D3b {F:Addr->Prop} {hand:Option (Addr×Addr)} {H:Hp} {ms:List Md} {vs:List V} {ds:List PyData} (a:U3 F hand H ms vs ds) (h:A9m ms):A9 TT0 H vs ds:=by
 induction a with
 | nil=>exact .nil
 | cons x _ ih=>
  cases h with
  | cons h=>exact .cons (ThV.any (show ThV F H _ _ from x)) (ih h)
theorem C2x {a:Addr} {d:FuncData} {lev:Nat} {ps:List Str} {ms:List Md} {sp:DSp} (hm:A9m ms) (F0:D0 P w K mg base CX0 lev a d ps (spN sp)):D0 P w K mg base CX0 lev a d ps (spD ms sp):=by
 have key:∀vs H Q E,spD ms sp vs H Q E->spN sp vs H Q E:=fun vs H Q E h=>by
  obtain⟨F,hand,ds,Qd,h1,h2,h3,h4,h5,h6⟩:=h
  refine⟨ds,Qd,D3b h4 hm,h5,fun d v H' q t s=>h6 d v H' q (t.mv fun b o g e=>⟨?_,e⟩) (Kq.same s) (h3.same s)⟩
  rcases g with g | ⟨xs,g⟩
  ·exact h1.1 b g
  ·exact h1.2 b xs g
 exact⟨fun vs H Q E z=>F0.len vs H Q E (key vs H Q E z),fun A outer s H args us vs Q E hr e0 hb r z=>F0.run A outer s H args us vs Q E hr e0 hb r (key vs H Q E z)⟩
end
theorem B6x {α β:Type} {R:α->β->Prop}:∀{as:List α} {bs:List β} {a:α} {b:β},Z3 R as bs->R a b->Z3 R (as++[a]) (bs++[b])
 | _,_,_,_,.nil,r=>.cons r .nil
 | _,_,_,_,.cons x t,r=>.cons x (B6x t r)
theorem A4k {F:Addr->Prop} {H:Hp}:∀{vs:List V} {ds:List PyData} {i:Nat} {x:V},A9 F H vs ds->vs[i]?=some x->∃d,ds[i]?=some d/\ThV F H x d
 | _,_,_,_,.nil,e=>nomatch e
 | _,_,0,_,.cons x _,e=>by cases e;exact⟨_,rfl,x⟩
 | _,_,i + 1,_,.cons _ t,e=>A4k (i:=i) t e
abbrev D3c:Sp:=spN D2s
section
variable {P:Program} {w:World} {K:B3} {mg:Str->Option Value} {base:Heap}
theorem D3d (T:Txt K mg):D0 P w K mg base CX0 11 T.f_shared.a T.f_shared.d ["land", "store", "springs", "walkers"] D3c:=by
 have G_needs_of:=@C2u P w K mg base T
 have b_needs_of:=T.f_needs_of.b
 have G_first_shares:=@D26 P w K mg base T
 have b_first_shares:=T.f_first_shares.b
 refine T.f_shared.F.ok B6b (fun vs H Q E h=>?_) (fun cdv A outer s H vs Q E hr h=>?_)
 ·obtain⟨ds,Qd,t,⟨m,ws,st,sp,wk,rfl,_⟩,_⟩:=h
  rw[t.len];rfl
 ·obtain⟨ds,Qd,tv,⟨m,ws,st,sp,wk,rfl,ok,s0,s1,so,hw,hl3,q⟩,told⟩:=h
  cases tv with
  | @cons vl _ _ _ tl tv=>
  cases tv with
  | @cons vst _ _ _ tst tv=>
  cases tv with
  | @cons vsp _ _ _ tsp tv=>
  cases tv with
  | @cons vw _ _ _ tw tv=>
  cases tv
  cases tst
  obtain⟨aw,uw,rfl,_,ew,tuw⟩:=K1 tw
  have luw:uw.length=wk.length:=by rw[tuw.len,D5]
  refine⟨_,(E6 (A4y (i:=4) B6b.nd rfl (A8 rfl) (N5.new (N:=["land", "store", "springs", "walkers", "needs", "sets"]) (osc:=C2 B1h) (by decide +kernel)) rfl (A1q (pv 3)) (fun _=>A2v) (fun _=>(B4 G_needs_of (hr.mono (by decide)) rfl T.f_needs_of.m T.f_needs_of.F.kp b_needs_of .nil B5 (A4 (pv 0) (A4 (pv 1) (A4 (pv 2) (A4 (pv 6) B8 A0) A0) A0) A0) (he:=A0) (hpl:=(A2 A0 (A2 A0 (A2 A0 A3)))))))
   (E6 (B9 (i:=5) B6b.nd rfl (A8 rfl) (B4 G_first_shares (hr.mono (by decide)) rfl T.f_first_shares.m T.f_first_shares.F.kp b_first_shares .nil B5 (A4 (pv 4) (A4 D1 B8 F4) A0) (he:=A0) (hpl:=(A2 F4 A3))))
   (E6 (i9 (Z8 (U1 U8 (pv 5) A2q (C9 _))
   (M2 (Q3 (l7 (A4 A9x (A4 (pv 4) B8 A0) F4))))
   g5))
   (M2 (Q3 (l7 (A4 A9x (A4 (pv 5) B8 A0) F4))))))),?_⟩
  try dsimp only[X8,Cx.nox]
  refine⟨_,rfl,aw,rfl,⟨uw,SqL.of ew⟩,?_⟩
  refine A7g (xs:=uw) (fun i ys Hn=>Same H Hn/\∃nss,Z3 (A4j m ws st sp) (wk.take i) nss/\A9 (S0 H) Hn ys (J7 nss)) ?_ ⟨fun _ _ e=>e,[],.nil,.nil⟩ ?_ ?_ ?_
  ·rw[luw,sizeLine_eq];omega
  ·rintro i ys Hn hi ⟨h1,nss,h2,h3⟩
   refine⟨?_,SqL.of (h1 _ _ ew)⟩
   have:=A9k h2
   rw[h3.len]
   unfold J7
   rw[D5,this,e9]
   omega
  ·rintro i x ys Hn hx ⟨h1,nss,h2,h3⟩ ca
   obtain⟨d,hd,tx⟩:=A4k tuw hx
   rw[M7] at hd
   obtain⟨z,hz,rfl⟩:=A4q.mp hd
   obtain⟨w1,w2,w3,w4⟩:=hw z (O2 hz)
   unfold A2u
   refine J0 ⟨_,rfl,_,rfl,_,rfl,_,rfl,C2w (E:=E0) (fun s=>∃ts,V8 m ws st sp (A09 m z.1) ts/\s=.ow (D4 (d9 z.2 0 [] ts))) (.cons (tl.keep h1) (.cons (.int _) (.cons (tsp.keep h1) (.cons (tx.keep h1) .nil)))) ⟨m,ws,st,sp,z.1,z.2,rfl,ok,s0,s1,so,w1,w2,w3,w4,fun ts hT=>⟨ts,hT,rfl⟩⟩ fun s v H' hs nr s'=>?_⟩
   obtain⟨ts,hT,rfl⟩:=hs
   obtain⟨a,vs,rfl,an,ea,tvs⟩:=nr
   refine⟨h1.tr s',nss++[d9 z.2 0 [] ts],?_,?_⟩
   ·rw[A63,hz]
    exact B6x h2 ⟨ts,hT,rfl⟩
   ·unfold J7
    rw[O5]
    exact (h3.keep s').append (.cons (.lst (.inl (h1.early an)) ea (B17 tvs)) .nil)
  rintro ys Hn ⟨h1,nss,hR,h3⟩ l hl
  rw[luw,A64] at hR
  have nl:=A9k hR
  obtain⟨H2,hH2⟩:∃H2,H2=upd Hn l (.lst ys):=⟨_,rfl⟩
  rw[<-hH2]
  have s2:Same Hn H2:=by rw[hH2];exact Same.upd hl
  have sH2:Same H H2:=h1.tr s2
  have tn:ThV (S0 H) H2 (.ref l) (.list (J7 nss)):=.lst (.inl (h1.early hl)) (by rw[hH2];exact E4) (h3.keep s2)
  refine⟨_,rfl,D3a (E:=E0) sH2 (fun d=>d=rsO (fsF nss 0)) (.cons tn (.cons (.int _) .nil)) ⟨nss,0,rfl,by omega,fun n hn=>by have:=B6v so hR n hn;omega,rfl⟩ fun d v H3 hd t3 s3=>?_⟩
  subst hd
  have q:=q nss hR
  unfold A1f at q
  cases ef:fsF nss 0 with
  | none=>
   rw[ef] at q t3
   cases (show ThV (S0 H) H3 v .none from t3)
   refine⟨fun _ _=>False,⟨_,rfl,rfl,_,rfl,?_⟩,fun _ _ z=>z.elim⟩
   refine J0 ⟨_,rfl,by show 2<=sizeLine;decide,fun r hr=>?_⟩
   exact told _ _ _ q (.tup (.inl ((sH2.tr s3).early hr)) E4 (.cons (.str _) (.cons ((tn.keep s3).keep (Same.upd hr)) .nil))) ((sH2.tr s3).tr (Same.upd hr))
  | some r=>
   rw[ef] at q t3
   obtain⟨ar,ur,rfl,gr,er,tr⟩:=K1 (show ThV (S0 H) H3 v (.list (D4 r)) from t3)
   refine⟨fun σ' H'=>σ'=[some vl,some (.int st),some vsp,some (.ref aw),some (.ref l),some (.ref ar)]/\H'=H3,⟨_,rfl,rfl,_,rfl,?_⟩,?_⟩
   ·exact G6 ⟨rfl,rfl⟩
   rintro σ' H' ⟨rfl,rfl⟩
   refine⟨_,rfl,by show 2<=sizeLine;decide,fun p hp=>?_⟩
   exact told _ _ _ q (.tup (.inl ((sH2.tr s3).early hp)) E4 (.cons (.str _) (.cons (ThV.keep (.lst gr er tr) (Same.upd hp)) .nil))) ((sH2.tr s3).tr (Same.upd hp))
end
theorem D3e {K:B3} {a b:Addr} {xs ys:List V} {g:TG} {tb:TS} {D:X3} {σ:L2.St} {H:Hp} (Pv:Nat->L2.St->Hp->Prop) (hxy:xs.length=ys.length) (h0:Pv 0 σ H) (hl:∀i σ H,i<=xs.length->Pv i σ H->SqL K H a xs/\SqL K H b ys)
  (hs:∀i x y σ H,xs[i]?=some x->ys[i]?=some y->Pv i σ H->∀p,H p=none->g (.ref p) σ (upd H p (.tup [x,y])) fun σ2 H2=>tb { D with nx:=Pv (i + 1),ct:=Pv (i + 1),bk:=D.nx } σ2 H2) (hd:∀σ H,Pv xs.length σ H->D.nx σ H) :
  ∃W:Nat->Nat->L2.St->Hp->Prop,(∃m,W 0 m σ H)/\∀i m σ H,W i m σ H->
   ((Itz K a b).stop i H/\D.nx σ H)\/((Itz K a b).go i H/\∃N:L2.St->Hp->Prop,(∀σ' H',N σ' H'->∃m',m' < m/\W (i + 1) m' σ' H')/\∀x H',(Itz K a b).yld i H x H'->g x σ H' fun σ2 H2=>tb { D with nx:=N,ct:=N,bk:=D.nx } σ2 H2):=by
 refine⟨fun i m σ H=>m=xs.length - i/\i<=xs.length/\Pv i σ H,⟨xs.length,by simp,M6 _,h0⟩,?_⟩
 rintro i m σ H ⟨rfl,hi,p⟩
 obtain⟨q1,q2⟩:=hl i σ H hi p
 by_cases hlt:i < xs.length
 ·refine .inr ⟨⟨xs,ys,xs[i],ys[i]'(by omega),q1,q2,by simp [hlt],by simp [show i < ys.length by omega]⟩,Pv (i + 1),fun σ' H' p'=>⟨xs.length - (i + 1),by omega,rfl,hlt,p'⟩,fun x H' y=>?_⟩
  obtain⟨p',u,v,rfl,hp',rfl,y⟩:=y
  obtain⟨y1,y2⟩:=y xs ys q1 q2
  exact hs i u v σ _ y1 y2 p p' hp'
 ·have e:i=xs.length:=by omega
  subst e
  exact .inl ⟨⟨xs,ys,q1,q2,.inl (F3 _)⟩,hd σ H p⟩
def B6y (d:PyData):Prop:=∃xs:List Int,d=.tuple (xs.map PyData.int)
theorem C2y {F G:Addr->Prop} {H H':Hp}:∀{xs:List Int} {us:List V},A9 F H us (xs.map PyData.int)->A9 G H' us (xs.map PyData.int)
 | [],_,h=>by cases h;exact .nil
 | x::xs,_,h=>by
  cases h with
  | cons y r=>cases y;exact .cons (.int _) (C2y r)
theorem D3f {F:Addr->Prop} {H H':Hp} (s:Same H H') {d:PyData} {v:V} (hd:B6y d) (h:ThV F H v d):ThV (S0 H) H' v d:=by
 obtain⟨xs,rfl⟩:=hd
 obtain⟨a,us,rfl,_,e,t⟩:=U9 h
 exact .tup (.inr ⟨_,e⟩) (s _ _ e) (C2y t)
theorem C2z {F:Addr->Prop} {H H':Hp} (s:Same H H'):∀{ds:List PyData} {us:List V},(∀d∈ds,B6y d)->A9 F H us ds->A9 (S0 H) H' us ds
 | [],_,_,h=>by cases h;exact .nil
 | d::ds,_,hd,h=>by
  cases h with
  | cons x r=>exact .cons (D3f s (hd d C0) x) (C2z s (fun e he=>hd e (B6 _ he)) r)
class B18 {α:Type} (f:α->PyData):Prop where
 flat:∀x,B6y (f x)
instance:B18 R9:=⟨fun w=>⟨[((w.1:Nat):Int),((w.2.1:Nat):Int),w.2.2],rfl⟩⟩
instance:B18 J6:=⟨fun q=>⟨[((q.1:Nat):Int),q.2],rfl⟩⟩
theorem C20 {α:Type} {f:α->PyData} [B18 f] {F:Addr->Prop} {H H':Hp} (s:Same H H') {xs:List α} {us:List V} (h:A9 F H us (xs.map f)):A9 (S0 H) H' us (xs.map f):=C2z s (fun d hd=>by
 obtain⟨x,_,rfl⟩:=S5.mp hd
 exact B18.flat x) h
theorem C21 {F:Addr->Prop} {H:Hp}:∀{ts:List Tb} {us:List V} {fq:List Addr},G0 F H us (ts.map fun t=>PyData.list (C5 t)) fq->us=fq.map V.ref/\∀(i:Nat) (a:Addr),fq[i]?=some a->∃(t:Tb) (xs:List V),ts[i]?=some t/\H a=some (.lst xs)/\A9 F H xs (C5 t)
 | [],_,_,h=>by
  cases h
  exact⟨rfl,fun i a e=>nomatch e⟩
 | t::ts,_,_,h=>by
  cases h with
  | @cons v _ _ _ f1 f2 x r=>
   obtain⟨a,vs,fr,rfl,rfl,_,e,tt⟩:=B02 x
   have e0:fr=[]:=(tt.uniq (B16 (G:=F) (H':=H) tt.th)).2
   subst e0
   obtain⟨rfl,h2⟩:=C21 r
   refine⟨rfl,fun i a' e'=>?_⟩
   cases i with
   | zero=>
    cases e'
    exact⟨t,vs,rfl,e,tt.th⟩
   | succ i=>exact h2 i a' e'
def D3g:DSp:=fun ds Q=>∃(m:Nat) (ws:List Wy) (st:Int) (sp:List Sp2) (b:Tb),ds=[Z6 m ws st sp b]/\Q (Z6 m ws st sp b)
def D3h:DSp:=fun ds Q=>∃(m:Nat) (ws:List Wy) (st:Int) (sp:List Sp2) (b:Tb),ds=[Z6 m ws st sp b]/\J8 m ws/\0<=st/\st<=1000000000000000000000/\k9 m sp/\G7 m st b/\∀ts,V8 m ws st sp b ts->Q (.list (F8 ts))
abbrev D3i:Sp:=spN D3g
abbrev D3j:Sp:=spN D3h
abbrev D3k:Sp:=A7v [.sh,.sh,.sh,.sh] C2e
theorem B6z {F:Addr->Prop} {H:Hp} {vs:List V} {d1 d2 d3 d4:PyData} (t:A9 F H vs [d1,d2,d3,d4]):∃v1 v2 v3 v4,vs=[v1,v2,v3,v4]/\ThV F H v1 d1/\ThV F H v2 d2/\ThV F H v3 d3/\ThV F H v4 d4:=by
 cases t with
 | cons x1 t=>
 cases t with
 | cons x2 t=>
 obtain⟨v3,v4,rfl,t3,t4⟩:=S9 t
 exact⟨_,_,v3,v4,rfl,x1,x2,t3,t4⟩
section
variable {P:Program} {w:World} {K:B3} {mg:Str->Option Value} {base:Heap}
theorem C22 (T:Txt K mg):D0 P w K mg base CX0 1 T.f_copied.a T.f_copied.d ["_law_case"] D3i:=by
 refine T.f_copied.F.ok C8s (fun vs H Q E h=>?_) (fun cdv A outer s H vs Q E hr h=>?_)
 ·obtain⟨ds,Qd,t,⟨m,ws,st,sp,b,rfl,_⟩,_⟩:=h
  rw[t.len];rfl
 ·obtain⟨ds,Qd,tv,⟨m,ws,st,sp,b,rfl,q⟩,told⟩:=h
  cases tv with
  | @cons vc _ _ _ tc tv=>
  cases tv
  obtain⟨ac,uc,rfl,_,ec,tuc⟩:=U9 tc
  obtain⟨vl,vst,vsp,vb,rfl,tl,tst,tsp,tb⟩:=B6z tuc
  cases tst
  obtain⟨al,ul,rfl,_,el,tul⟩:=U9 tl
  obtain⟨v1,v2,rfl,t1,t2⟩:=S9 tul
  cases t1
  obtain⟨aw,uw,rfl,_,ew,tuw⟩:=K1 t2
  obtain⟨as,us,rfl,_,es,tus⟩:=K1 tsp
  obtain⟨ab,ub,rfl,_,eb,tub⟩:=K1 tb
  refine⟨_,(M2 (Q3 (l7 (A4 (l7 (A4 (D9 J3 (D9 J3 (pv 0) D1 (fun _ _=>rfl)) D1 (fun _ _=>rfl)) (A4 (b7 w5 rfl T.n_list W1 (A4 (D9 J3 (D9 J3 (pv 0) D1 (fun _ _=>rfl)) D1 (fun _ _=>rfl)) B8 B0) (he:=B0) (hpl:=A3)) B8 E5) B0)) (A4 (D9 J3 (pv 0) D1 (fun _ _=>rfl)) (A4 (b7 w5 rfl T.n_list W1 (A4 (D9 J3 (pv 0) D1 (fun _ _=>rfl)) B8 B0) (he:=B0) (hpl:=A3)) (A4 (b7 w5 rfl T.n_list W1 (A4 (D9 J3 (pv 0) D1 (fun _ _=>rfl)) B8 B0) (he:=B0) (hpl:=A3)) B8 E5) E5) B0) A1u)))),?_⟩
  try dsimp only[X8,Cx.nox]
  refine⟨_,rfl,.inr (.inl ⟨ac,_,0,_,rfl,rfl,SqT.of ec,rfl,.inr (.inl ⟨al,_,0,_,rfl,rfl,SqT.of el,rfl,?_⟩)⟩)⟩
  refine⟨_,rfl,.inr (.inl ⟨ac,_,0,_,rfl,rfl,SqT.of ec,rfl,.inr (.inl ⟨al,_,1,_,rfl,rfl,SqT.of el,rfl,?_⟩)⟩)⟩
  refine⟨aw,uw,rfl,.inl (SqL.of ew),fun l1 h1=>?_⟩
  obtain⟨H1,hH1⟩:∃H1,H1=upd H l1 (.lst uw):=⟨_,rfl⟩
  rw[<-hH1]
  have s1:Same H H1:=by rw[hH1];exact Same.upd h1
  refine⟨by show 2<=sizeLine;decide,fun p1 h2=>?_⟩
  obtain⟨H2,hH2⟩:∃H2,H2=upd H1 p1 (.tup [.int ((m:Nat):Int),.ref l1]):=⟨_,rfl⟩
  rw[<-hH2]
  have s12:Same H1 H2:=by rw[hH2];exact Same.upd h2
  have s2:=s1.tr s12
  refine⟨_,rfl,.inr (.inl ⟨ac,_,1,_,rfl,rfl,SqT.of (s2 _ _ ec),rfl,?_⟩)⟩
  refine⟨_,rfl,.inr (.inl ⟨ac,_,2,_,rfl,rfl,SqT.of (s2 _ _ ec),rfl,as,us,rfl,.inl (SqL.of (s2 _ _ es)),fun l3 h3=>?_⟩)⟩
  obtain⟨H3,hH3⟩:∃H3,H3=upd H2 l3 (.lst us):=⟨_,rfl⟩
  rw[<-hH3]
  have s23:Same H2 H3:=by rw[hH3];exact Same.upd h3
  have s3:=s2.tr s23
  refine⟨_,rfl,.inr (.inl ⟨ac,_,3,_,rfl,rfl,SqT.of (s3 _ _ ec),rfl,ab,ub,rfl,.inl (SqL.of (s3 _ _ eb)),fun l4 h4=>?_⟩)⟩
  obtain⟨H4,hH4⟩:∃H4,H4=upd H3 l4 (.lst ub):=⟨_,rfl⟩
  rw[<-hH4]
  have s34:Same H3 H4:=by rw[hH4];exact Same.upd h4
  have s4:=s3.tr s34
  refine⟨by show 4<=sizeLine;decide,fun r hr=>?_⟩
  have s5:Same H4 _:=Same.upd (o:=.tup [.ref p1,.int st,.ref l3,.ref l4]) hr
  have s45:=s4.tr s5
  have e1:H1 l1=some (.lst uw):=by rw[hH1];exact E4
  have e2:H2 p1=some (.tup [.int ((m:Nat):Int),.ref l1]):=by rw[hH2];exact E4
  have e3:H3 l3=some (.lst us):=by rw[hH3];exact E4
  have e4:H4 l4=some (.lst ub):=by rw[hH4];exact E4
  have s15:=(s12.tr (s23.tr s34)).tr s5
  refine told _ _ _ q (.tup (.inl (s4.early hr)) E4 (.cons (.tup (.inl (s1.early h2)) ((s23.tr s34).tr s5 _ _ e2) (.cons (.int _) (.cons (.lst (.inl h1) (s15 _ _ e1) (C20 s45 tuw)) .nil))) (.cons (.int _) (.cons (.lst (.inl (s2.early h3)) (s34.tr s5 _ _ e3) (C20 s45 tus)) (.cons (.lst (.inl (s3.early h4)) (s5 _ _ e4) (A6w tub)) .nil))))) s45
theorem D3l (T:Txt K mg):D0 P w K mg base CX0 9 T.f_highest_by.a T.f_highest_by.d ["land", "store", "springs", "base"] D3k:=by
 have G_alone:=@A77 P w K mg base T
 have b_alone:=T.f_alone.b
 have G_base_by:=@B12 P w K mg base T
 have b_base_by:=T.f_base_by.b
 have G_highest:=@C10 P w K mg base T
 have b_highest:=T.f_highest.b
 refine T.f_highest_by.F.ok A7y (fun vs H Q E h=>?_) (fun cdv A outer s H vs Q E hr h=>?_)
 ·obtain⟨_,_,_,_,_,_,_,a,_⟩:=h
  rw[a.len.1];rfl
 ·obtain⟨F0,hand,ds,Qd,_,_,hq,ar,hsp,toldQ⟩:=h
  obtain⟨m,ws,st,sp,b,rfl,ok,s0,s1,so,hb,q⟩:=hsp
  cases ar with
  | @cons _ vl _ _ _ _ tl ar=>
  cases ar with
  | @cons _ vst _ _ _ _ tst ar=>
  cases ar with
  | @cons _ vsp _ _ _ _ tsp ar=>
  cases ar with
  | @cons _ vb _ _ _ _ tb ar=>
  cases ar
  cases (show ThV F0 H vst (.int st) from tst)
  have tl:=ThV.any (show ThV F0 H vl (E8 m ws) from tl)
  have tsp:=ThV.any (show ThV F0 H vsp (.list (sp.map J6)) from tsp)
  have tb:=ThV.any (show ThV F0 H vb (.list (C5 b)) from tb)
  obtain⟨as,us,rfl,_,es,tus⟩:=K1 tsp
  have lus:us.length=sp.length:=by rw[tus.len,D5]
  have m2:=ok.m2
  have few:=so.few
  have p16:=pw4 sp.length (by omega)
  have pp:=A0q sp.length
  refine⟨_,(E6 (B9 (i:=4) A7y.nd rfl (A8 rfl) (A93 B8))
   (E6 (Q4 O6 rfl (p9 rfl T.n_range (A4 (B4 G_alone (hr.mono (by decide)) rfl T.f_alone.m T.f_alone.F.kp b_alone .nil B5 (A4 (G4 Q5 rfl T.n_len Q6 (A4 (pv 2) B8 A0) (he:=A0) (hpl:=A3)) B8 E5) (he:=E5) (hpl:=A3)) B8 E5)) (J2 (i:=5) A7y.nd rfl (A8 rfl))
   (M2 (S8 (Y5 V3 o8 o9 i7 (pv 4) (A4 (B4 G_highest (hr.mono (by decide)) rfl T.f_highest.m T.f_highest.F.kp b_highest .nil B5 (A4 (pv 0) (A4 (pv 1) (A4 (B4 G_base_by (hr.mono (by decide)) rfl T.f_base_by.m T.f_base_by.F.kp b_base_by .nil B5 (A4 (pv 1) (A4 (pv 2) (A4 (pv 4) (A4 (pv 3) (A4 (pv 5) B8 A0) A0) A0) A0) A0) (he:=A0) (hpl:=(A2 A0 (A2 A0 (A2 A0 (A2 A0 A3)))))) B8 E5) A0) A0) (he:=A0) (hpl:=(A2 A0 (A2 E5 A3)))) B8 E5)))))
   (M2 (Q3 (pv 4))))),?_⟩
  try dsimp only[X8,Cx.nox]
  refine⟨by show 0<=sizeLine;decide,fun a0 h0=>?_⟩
  have sa:Same H (upd H a0 (.lst [])):=Same.upd h0
  refine⟨_,rfl,as,us,rfl,.inl (SqL.of (sa _ _ es)),?_⟩
  rw[lus]
  refine B15 (E:=E0) (fun d=>d=.int ((2 ^ sp.length:Nat):Int)) (.cons (.int _) .nil) ⟨sp.length,rfl,by omega,rfl⟩ fun d v H1 hd t1 s1'=>?_
  subst hd
  cases t1
  refine⟨_,rfl,by omega,by omega,?_⟩
  refine B71 (n:=(((2 ^ sp.length:Nat):Int)).toNat) (fun i σ' H'=>∃(z:Option V) (ts:List Tb) (xs:List Addr),σ'=[some vl,some (.int st),some (.ref as),some vb,some (.ref a0),z]/\Same H H'/\H' a0=some (.lst (xs.map V.ref))/\ts.length=i/\A75 m ws st sp b ts/\xs.Nodup/\a0∉xs/\(∀a∈xs,H a=none)/\G0 (S0 H) H' (xs.map V.ref) (F8 ts) xs) ⟨none,[],[],rfl,sa.tr s1',s1' _ _ E4,rfl,(fun s hs=>absurd hs (Nat.not_lt_zero _)),by simp,by simp,by simp,.nil⟩ ?_ ?_
  ·rintro i σ' H' hi ⟨z,ts,xs,rfl,sH,e0,lts,hP,nd,na,nw,T0⟩
   rw[A1g] at hi
   have hT:∀t∈ts,G7 m st t:=fun t ht=>by
    obtain⟨s,hs,rfl⟩:=B11 ht
    obtain⟨c,_,L⟩:=hP s hs
    exact L.tab
   refine⟨_,rfl,.inl ⟨rfl,_,SqL.of e0⟩,_,rfl,_,rfl,_,rfl,_,rfl,_,rfl,_,rfl,_,rfl,B15 (E:=E0) (fun d=>∃c,X0 m st sp ts b i c/\d=.list (C5 c)) (.cons (.int _) (.cons (tsp.keep sH) (.cons ⟨a0,_,_,rfl,rfl,(fun q hq=>nomatch hq),e0,T0.th.any⟩ (.cons (tb.keep sH) (.cons ?_ .nil))))) ⟨m,st,sp,ts,b,i,rfl,so,s0,hb,by omega,hi,by omega,hT,fun c B=>⟨c,B,rfl⟩⟩ fun d v H2 hd t2 s2=>?_⟩
   ·rw[B2q];exact .int _
   obtain⟨c,B,rfl⟩:=hd
   obtain⟨ab',ub,rfl,_,eb',tub⟩:=K1 t2
   refine D27 (E:=E0) (fun d=>∃t,U5 m ws st c t/\d=.list (C5 t)) (.cons ((tl.keep (sH.tr s2)).mv fun b o _ e=>⟨fun q hq=>(nomatch hq),e⟩) (.cons (.int _) (.cons ⟨ab',ub,_,rfl,rfl,(fun q hq=>nomatch hq),eb',A6w tub⟩ .nil))) ⟨m,ws,st,c,rfl,ok,s0,s1,B.tab hb,fun t L _=>⟨t,L,rfl⟩⟩ fun d v H3 hd t3 s3=>?_
   obtain⟨t,L,rfl⟩:=hd
   obtain⟨an,ut,rfl,ga,et,tut⟩:=K1 t3
   have atn:H2 an=none:=A6x s3 ga et
   have sH2:=sH.tr s2
   have e03:=s3 _ _ (s2 _ _ e0)
   have lxs:xs.length=i:=by
    have:=T0.len
    rw[D5] at this
    rw[this];unfold F8;rw[D5,lts]
   have ana:an≠a0:=fun z=>by rw[z,s2 _ _ e0] at atn;cases atn
   have anx:an∉xs:=fun z=>by
    obtain⟨_,ys,ey⟩:=T0.mem an z
    rw[s2 _ _ ey] at atn;cases atn
   have up:∀b o,H3 b=some o->b≠a0->upd H3 a0 (.lst (xs.map V.ref++[.ref an])) b=some o:=fun b o e n=>by rw[C1 n];exact e
   refine⟨a0,_,.ref an,rfl,rfl,e03,by rw[D5,lxs,sizeLine_eq];omega,some (.int ((i:Nat):Int)),ts++[t],xs++[an],by rw[B2q];rfl,fun b o e=>up _ _ (s3 _ _ (sH2 _ _ e)) (fun z=>by rw[z,h0] at e;cases e),by rw[E4,O5];rfl,by rw[M4,lts];rfl,hP.snoc (by rw[lts];exact B) L,?_,?_,?_,?_⟩
   ·exact A65.mpr ⟨nd,by simp,fun a ha c hc z=>by rw[p6.mp hc] at z;exact anx (z▸ha)⟩
   ·rw[O9,p6]
    exact fun z=>z.elim na fun z=>ana z.symm
   ·intro a ha
    rcases O9.mp ha with h | h
    ·exact nw a h
    ·rw[p6.mp h];exact sH2.early atn
   ·rw[O5]
    unfold F8
    rw[O5]
    exact (T0.mvm fun b o g e h=>⟨g,up _ _ (s3 _ _ (s2 _ _ e)) (by
     rcases h with h | ⟨ys,rfl⟩
     ·exact fun z=>na (z▸h)
     ·exact fun z=>by rw[z,e0] at e;cases e)⟩).append (G0.cons (fp:=[an]) (fps:=[]) (.lst (.inl (sH2.early atn)) (up _ _ et ana) (B16 tut)) .nil)
  ·rintro σ' H' ⟨z,ts,xs,rfl,sH,e0,lts,hP,nd,na,nw,T0⟩
   rw[A1g] at lts
   exact⟨_,rfl,toldQ (.list (F8 ts)) (.ref a0) H' (a0::xs) (q ts ⟨lts,hP⟩) (.lst (.inl h0) e0 T0) (A0s.mpr ⟨na,nd⟩) (Kq.same sH) (hq.same sH)⟩
theorem D3m (T:Txt K mg):D0 P w K mg base CX0 10 T.f_tables.a T.f_tables.d ["_law_case"] D3j:=by
 have G_highest_by:=@D3l P w K mg base T
 have b_highest_by:=T.f_highest_by.b
 have G_copied:=@C22 P w K mg base T
 have b_copied:=T.f_copied.b
 refine T.f_tables.F.ok A71 (fun vs H Q E h=>?_) (fun cdv A outer s H vs Q E hr h=>?_)
 ·obtain⟨ds,Qd,t,⟨m,ws,st,sp,b,rfl,_⟩,_⟩:=h
  rw[t.len];rfl
 ·obtain⟨ds,Qd,tv,⟨m,ws,st,sp,b,rfl,ok,s0,s1,so,hb,q⟩,told⟩:=h
  cases tv with
  | @cons vc _ _ _ tc tv=>
  cases tv
  refine⟨_,(E6 (B9 (i:=1) A71.nd rfl (A8 rfl) (B4 G_copied (hr.mono (by decide)) rfl T.f_copied.m T.f_copied.F.kp b_copied .nil B5 (A4 (pv 0) B8 A0) (he:=A0) (hpl:=A3)))
   (E6 (B9 (i:=2) A71.nd rfl (A8 rfl) (B4 G_highest_by (hr.mono (by decide)) rfl T.f_highest_by.m T.f_highest_by.F.kp b_highest_by .nil B5 (A4 (D9 J3 (pv 1) D1 (fun _ _=>rfl)) (A4 (D9 J3 (pv 1) D1 (fun _ _=>rfl)) (A4 (D9 J3 (pv 1) D1 (fun _ _=>rfl)) (A4 (D9 J3 (pv 1) D1 (fun _ _=>rfl)) B8 B0) B0) B0) B0) (he:=B0) (hpl:=(A2 B0 (A2 B0 (A2 B0 A3))))))
   (E6 (S8 (A8q V3 B2r B2s A8r (D9 J3 (D9 J3 (pv 1) D1 (fun _ _=>rfl)) D1 (fun _ _=>rfl))))
   (E6 (S8 (A8q V3 B2r B2s A8r (D9 J3 (pv 1) D1 (fun _ _=>rfl))))
   (E6 (S8 (A8q V3 B2r B2s A8r (D9 J3 (pv 1) D1 (fun _ _=>rfl))))
   (E6 (A4y (i:=3) A71.nd rfl (A8 rfl) (N5.old (N:=["_law_case", "_law_handed", "_law_told", "_law_kept", "_law_table_here", "_law_due"]) (osc:=C2 B1j) (j:=4) (by decide +kernel)) rfl (A1q (pv 2)) (fun _=>A2v) (fun _=>(b7 w5 rfl T.n_list W1 (A4 (pv 4) B8 A0) (he:=A0) (hpl:=A3))))
   (E6 (Q4 O6 rfl (B85 rfl T.n_zip (A4 (pv 2) (A4 (pv 3) B8 A0) A0)) (A0w (n:=2) rfl (N2 (J2 (i:=4) A71.nd rfl (A8 rfl)) (N2 (J2 (i:=5) A71.nd rfl (A8 rfl)) p8)))
   (E6 (i9 (Z8 (U1 (Y7 (K4 hr)) (pv 4) (pv 5) (C9 _))
   (M2 (Q3 A2q))
   g5))
   (M2 (S8 (A8q V3 B2r B2s A8r (pv 4))))))
   (E6 (S8 (A8q V3 B2r B2s A8r (pv 2)))
   (M2 (Q3 (pv 3))))))))))),?_⟩
  try dsimp only[X8,Cx.nox]
  refine⟨_,rfl,[Z6 m ws st sp b],(fun d=>d=Z6 m ws st sp b),.cons tc .nil,⟨m,ws,st,sp,b,rfl,rfl⟩,fun d v H1 hd t1 s1'=>?_⟩
  subst hd
  obtain⟨ac,uc,rfl,_,ec,tuc⟩:=U9 t1
  obtain⟨vl,vst,vsp,vb,rfl,tl,tst,tsp,tb⟩:=B6z tuc
  cases tst
  obtain⟨al,ul,rfl,_,el,tul⟩:=U9 tl
  obtain⟨v1,v2,rfl,t1',t2⟩:=S9 tul
  cases t1'
  obtain⟨aw,uw,rfl,gw,ew,tuw⟩:=K1 t2
  obtain⟨as,us,rfl,gs,es,tus⟩:=K1 tsp
  obtain⟨ab,ub,rfl,gb,eb,tub⟩:=K1 tb
  have nw:=A6x s1' gw ew
  have ns:=A6x s1' gs es
  have nb:=A6x s1' gb eb
  refine⟨_,rfl,.inr (.inl ⟨ac,_,0,_,rfl,rfl,SqT.of ec,rfl,?_⟩)⟩
  refine⟨_,rfl,.inr (.inl ⟨ac,_,1,_,rfl,rfl,SqT.of ec,rfl,?_⟩)⟩
  refine⟨_,rfl,.inr (.inl ⟨ac,_,2,_,rfl,rfl,SqT.of ec,rfl,?_⟩)⟩
  refine⟨_,rfl,.inr (.inl ⟨ac,_,3,_,rfl,rfl,SqT.of ec,rfl,?_⟩)⟩
  refine D28 (E:=E0) (fun d=>∃ts,V8 m ws st sp b ts/\d=.list (F8 ts)) (.cons tl.any (.cons (.int _) (.cons tsp.any (.cons tb.any .nil)))) ⟨m,ws,st,sp,b,rfl,ok,s0,s1,so,hb,fun ts h=>⟨ts,h,rfl⟩⟩ fun d v H2 fp hd T nd s2=>?_
  obtain⟨ts,hT,rfl⟩:=hd
  obtain⟨aq,ut,fq,rfl,rfl,gq,eq,T2⟩:=B02 T
  have ndq:=A0s.mp nd
  obtain⟨eut,hrow⟩:=C21 T2
  have tl16:ts.length<=16:=by rw[hT.len];exact pw4 sp.length (by have:=so.few;omega)
  have lut:ut.length=ts.length:=by rw[T2.len];unfold F8;rw[D5]
  have lfq:fq.length=ts.length:=by rw[<-lut,eut,D5]
  have aqn:H1 aq=none:=A6x s2 gq eq
  have fqn:∀c∈fq,H1 c=none:=fun c hc=>by
   obtain⟨g,xs,ex⟩:=T2.mem c hc
   exact A6x s2 g ex
  have old:∀{b:Addr} {o:HO},H1 b=some o->b≠aq/\b∉fq:=fun {b o} e=>⟨(fun z=>by rw[z,aqn] at e;cases e),fun z=>by rw[fqn _ z] at e;cases e⟩
  refine⟨_,rfl,.inr (.inl ⟨ac,_,0,_,rfl,rfl,SqT.of (s2 _ _ ec),rfl,.inr (.inl ⟨al,_,1,_,rfl,rfl,SqT.of (s2 _ _ el),rfl,.inl ⟨rfl,uw,SqL.of (s2 _ _ ew)⟩,aw,uw,rfl,rfl,s2 _ _ ew,?_⟩)⟩)⟩
  obtain⟨H3,hH3⟩:∃H3,H3=upd H2 aw (.lst []):=⟨_,rfl⟩
  rw[<-hH3]
  have f3:∀b o,H2 b=some o->b≠aw->H3 b=some o:=fun b o e n=>by rw[hH3,C1 n];exact e
  obtain⟨us',es'⟩:∃us',H3 as=some (.lst us'):=by
   by_cases z:as=aw
   ·rw[hH3,z];exact⟨_,E4⟩
   ·exact⟨us,f3 _ _ (s2 _ _ es) z⟩
  have ntup:∀{Hx:Hp} {b c:Addr} {xs ys:List V},Hx b=some (.tup xs)->Hx c=some (.lst ys)->b≠c:=fun h1 h2 z=>by rw[z,h2] at h1;cases h1
  have ec3:=f3 _ _ (s2 _ _ ec) (ntup ec ew)
  refine⟨_,rfl,.inr (.inl ⟨ac,_,2,_,rfl,rfl,SqT.of ec3,rfl,.inl ⟨rfl,us',SqL.of es'⟩,as,us',rfl,rfl,es',?_⟩)⟩
  obtain⟨H4,hH4⟩:∃H4,H4=upd H3 as (.lst []):=⟨_,rfl⟩
  rw[<-hH4]
  have f4:∀b o,H3 b=some o->b≠as->H4 b=some o:=fun b o e n=>by rw[hH4,C1 n];exact e
  obtain⟨ub',eb'⟩:∃ub',H4 ab=some (.lst ub'):=by
   by_cases z:ab=as
   ·rw[hH4,z];exact⟨_,E4⟩
   ·by_cases y:ab=aw
    ·exact⟨[],f4 _ _ (by rw[y,hH3];exact E4) z⟩
    ·exact⟨ub,f4 _ _ (f3 _ _ (s2 _ _ eb) y) z⟩
  have ec4:=f4 _ _ ec3 (ntup ec es)
  refine⟨_,rfl,.inr (.inl ⟨ac,_,3,_,rfl,rfl,SqT.of ec4,rfl,.inl ⟨rfl,ub',SqL.of eb'⟩,ab,ub',rfl,rfl,eb',?_⟩)⟩
  obtain⟨H5,hH5⟩:∃H5,H5=upd H4 ab (.lst []):=⟨_,rfl⟩
  rw[<-hH5]
  have f5:∀b o,H2 b=some o->b≠aw->b≠as->b≠ab->H5 b=some o:=fun b o e n1 n2 n3=>by rw[hH5,C1 n3];exact f4 _ _ (f3 _ _ e n1) n2
  have s05:Same H H5:=fun b o e=>f5 _ _ (s2 _ _ (s1' _ _ e)) (fun z=>by rw[z,nw] at e;cases e) (fun z=>by rw[z,ns] at e;cases e) (fun z=>by rw[z,nb] at e;cases e)
  have fn:∀b o,H2 b=some o->H1 b=none->H5 b=some o:=fun b o e n=>f5 _ _ e (fun z=>by rw[z,ew] at n;cases n) (fun z=>by rw[z,es] at n;cases n) (fun z=>by rw[z,eb] at n;cases n)
  have eq5:=fn _ _ eq aqn
  have row5:∀(i:Nat) (c:Addr),fq[i]?=some c->∃t xs,ts[i]?=some t/\H5 c=some (.lst xs)/\A9 TT0 H5 xs (C5 t):=fun i c e=>by
   obtain⟨t,xs,h1,h2,h3⟩:=hrow i c e
   exact⟨t,xs,h1,fn _ _ h2 (fqn c (O2 e)),A6w h3⟩
  clear f3 f4 f5 ec3 ec4 es' eb' hH3 hH4 hH5 fn
  refine⟨_,rfl,aq,rfl,⟨ut,SqL.of eq5⟩,?_⟩
  refine A7g (xs:=ut) (fun i ys Hn=>Same H5 Hn/\A9 (fun b=>H5 b=none) Hn ys (F8 (ts.take i))) ?_ ⟨fun _ _ e=>e,.nil⟩ ?_ ?_ ?_
  ·rw[lut,sizeLine_eq];omega
  ·rintro i ys Hn hi ⟨h1,h2⟩
   refine⟨?_,SqL.of (h1 _ _ eq5)⟩
   rw[h2.len]
   unfold F8
   rw[D5,e9]
   omega
  ·rintro i x ys Hn hx ⟨h1,h2⟩ ca
   rw[eut,M7] at hx
   obtain⟨c,hc,rfl⟩:=A4q.mp hx
   obtain⟨t,xs,h3,h4,h5⟩:=row5 i c hc
   unfold A2u
   refine J0 ⟨_,rfl,c,xs,rfl,.inl (SqL.of (h1 _ _ h4)),fun l hl=>⟨h1.tr (Same.upd hl),?_⟩⟩
   rw[A63,h3]
   unfold F8
   rw[O5]
   exact (h2.keep (Same.upd hl)).append (.cons (.lst (h1.early hl) E4 (A6w h5)) .nil)
  rintro ks H6 ⟨s56,tks⟩ ak hak
  rw[lut,A64] at tks
  obtain⟨H7,hH7⟩:∃H7,H7=upd H6 ak (.lst ks):=⟨_,rfl⟩
  rw[<-hH7]
  have s67:Same H6 H7:=by rw[hH7];exact Same.upd hak
  have s57:=s56.tr s67
  have tk7:ThV (fun b=>H5 b=none) H7 (.ref ak) (.list (F8 ts)):=.lst (s56.early hak) (by rw[hH7];exact E4) (tks.keep s67)
  have lks:ks.length=ts.length:=by rw[tks.len];unfold F8;rw[D5]
  have ek7:H7 ak=some (.lst ks):=by rw[hH7];exact E4
  have f5n:∀c∈fq,H5 c≠none:=fun c hc z=>by
   obtain⟨i,hi,e⟩:=A0t.mp hc
   obtain⟨t,xs,_,h2,_⟩:=row5 i c (by rw[K3 hi,e])
   rw[z] at h2;cases h2
  have akf:ak∉fq:=fun z=>f5n ak z (s56.early hak)
  refine⟨_,rfl,_,rfl,aq,ak,rfl,⟨ut,SqL.of (s57 _ _ eq5)⟩,⟨ks,SqL.of ek7⟩,?_⟩
  refine D3e (xs:=ut) (ys:=ks) (fun i σ' H'=>∃z4 z5,σ'=[some vc,some (.ref ac),some (.ref aq),some (.ref ak),z4,z5]/\∀b o,H7 b=some o->b∉fq.take i->H' b=some o) (by rw[lut,lks]) ⟨none,none,rfl,fun b o e _=>e⟩ ?_ ?_ ?_
  ·rintro i σ' H' hi ⟨z4,z5,rfl,fr⟩
   exact⟨SqL.of (fr _ _ (s57 _ _ eq5) fun z=>ndq.1 (B7l z)),SqL.of (fr _ _ ek7 fun z=>akf (B7l z))⟩
  ·rintro i x y σ' H' hx hy ⟨z4,z5,rfl,fr⟩ p hp
   rw[eut,M7] at hx
   obtain⟨c,hc,rfl⟩:=A4q.mp hx
   obtain⟨t,xs,h3,h4,h5⟩:=row5 i c hc
   have hcm:c∈fq:=O2 hc
   have ec':H' c=some (.lst xs):=fr _ _ (s57 _ _ h4) fun z=>by
    obtain⟨j,hj,e⟩:=A0t.mp z
    rw[e9] at hj
    rw[List.getElem_take] at e
    obtain⟨h1,h2⟩:=m9.mp hc
    have:=(List.getElem_inj (xs:=fq) (i:=j) (j:=i) (h₀:=by omega) (h₁:=h1) ndq.2).mp (by rw[e,h2])
    omega
   have tk':A9 TT0 H' ks (F8 ts):=(tks.keep s67).mv fun b o z e=>⟨trivial,fr _ _ e fun hb=>f5n b (B7l hb) z⟩
   obtain⟨d,hd,ty⟩:=A4k tk' hy
   unfold F8 at hd
   rw[M7,h3] at hd
   cases hd
   have sp':Same H' (upd H' p (.tup [.ref c,y])):=Same.upd hp
   refine⟨p,_,rfl,SqT.of E4,rfl,_,_,rfl,_,_,rfl,rfl,?_⟩
   refine⟨fun σ' H''=>σ'=[some vc,some (.ref ac),some (.ref aq),some (.ref ak),some (.ref c),some y]/\H''=upd H' p (.tup [.ref c,y]),?_,?_⟩
   ·have L:=D2.tab t
    refine⟨_,rfl,_,rfl,_,_,ThV.dat (F:=TT0) (.lst trivial (sp' _ _ ec') (A6w h5)) L.1,ThV.dat (ty.keep sp') L.1,L.1,L.1,L.dep (by decide) _,_,rfl,?_⟩
    rw[L.same]
    exact G6 ⟨rfl,rfl⟩
   rintro σ' H'' ⟨rfl,rfl⟩
   refine⟨_,rfl,.inl ⟨rfl,xs,SqL.of (sp' _ _ ec')⟩,c,xs,rfl,rfl,sp' _ _ ec',_,_,rfl,fun b o e nb=>?_⟩
   rw[A63,hc] at nb
   have n1:b∉fq.take i:=fun z=>nb (O9.mpr (.inl z))
   have n2:b≠c:=fun z=>nb (O9.mpr (.inr (by rw[z];exact p6.mpr rfl)))
   rw[C1 n2]
   exact sp' _ _ (fr b o e n1)
  rintro σ' H' ⟨z4,z5,rfl,fr⟩
  rw[lut,show fq.take ts.length=fq by rw[<-lfq,A64]] at fr
  have eqF:=fr _ _ (s57 _ _ eq5) ndq.1
  refine⟨_,rfl,.inl ⟨rfl,ut,SqL.of eqF⟩,aq,ut,rfl,rfl,eqF,_,rfl,?_⟩
  have fin:∀b o,H7 b=some o->b∉fq->b≠aq->upd H' aq (.lst []) b=some o:=fun b o e n1 n2=>by rw[C1 n2];exact fr _ _ e n1
  refine told _ _ _ (q ts hT) (tk7.mv fun b o z e=>⟨.inl (s05.early z),fin _ _ e (fun hb=>f5n b hb z) (fun hb=>by rw[hb,eq5] at z;cases z)⟩) fun b o e=>?_
  have:=old (s1' _ _ e)
  exact fin _ _ (s57 _ _ (s05 _ _ e)) this.2 this.1
end
theorem _root_.L2.CompScC.new {N:List Str} {osc scope:Scope} {x:Str} (h:B4s (N++[x]) osc scope x N.length=true) (hc:∀b cl,cellsFrom b scope.names cl=(x,b)::cl):CompScC N (N++[x]) osc scope N.length x:=by
 have S:=CompScC.old h hc
 refine { S with sub:=fun i y ne e=>?_,len:=by simp }
 by_cases hi:i < N.length
 ·rw[l6 hi] at e;exact e
 ·rw[f7 (by omega)] at e
  cases q:i - N.length with
  | zero=>exact absurd (by omega) ne
  | succ k=>rw[q] at e;simp at e
section
open PySem.Spec PyProof.Rows
variable {X:Cx}
theorem D3n {elt iter:Expr} {x y:Str} {px pos py spos:Pos} {ifs:List Expr} {scope:Scope} {N':List Str} {j i:Nat} {wi:TI} {tt:CA->TT} {te:CA->TE} {osc:Scope} {N:List Str}
  (nd:X.N.Nodup) (hi':X.N[i]?=some y) (hy:Loc X.env.scope y)
  (S:CompScC N N' osc scope j x) (hc:X.calm=true) (hi:PI X (.Name x px) iter wi) (ht:∀a:CA,PTs (Z4 X scope N' x a) ifs (tt a)) (he:∀a:CA,PE (Z4 X scope N' x a) elt (te a))
  (hsw:swapsWith (.ListComp elt [⟨.Name x px,iter,ifs,0⟩] scope pos) (some (.Name y py)) spos.line X.env=pure true:=by rfl)
  (hf:X.fn y=true\/X.env.scope.names.lookup y=some .local:=by first | exact .inl rfl | exact .inr rfl | assumption)
  (ho:X.env.scope=osc:=by rfl) (hN:X.N=N:=by rfl) (hs:∀x,foldedSetIterable iter X.env x=pure x:=by intro _;rfl) :
  PS X (.Assign [.Name y py] (.ListComp elt [⟨.Name x px,iter,ifs,0⟩] scope pos) spos) (fun D σ H=>A1t wi N'.length j tt te σ H fun v H1=>D.nx (σ.set i (some v)) H1):=by
 subst ho hN
 intro pins s σ H D I h
 have hcells:∀y∈scope.names,y.2=.free->∃c,X.env.cells.lookup y.1=some c:=fun y hy e=>I.ok.has y.1 (.inl (S.free y hy e))
 rw[exec_Assign_Name_used _ _ _ _ hsw]
 refine wpAny_bind (wpAny_standAt (wpAny_bind ?_))
 show wpAny _ X.A (do let _ <-comprehension (.ListComp elt [⟨.Name x px,iter,ifs,0⟩] scope pos) scope X.env _ (newList []) false (eval iter X.env) (some (assign (.Name y py) X.env))) _ _ s
 refine wpAny_bind (wpAny_mono (wpAny_comprehension_free (use:=some (assign (.Name y py) X.env)) (Q:=fun _ s'=>SP X pins D .next s') rfl hs (A98 hcells) S.kind S.names
  (wpAny_mono (hi pins s σ H _ I h) (fun xv s₁ h₁=>wpAny_mono h₁ (fun itv s₂ h₂=>?_) fun _ _ e=>e) fun _ _ e=>e)) (fun _ s' hq=>wpAny_pure (wpAny_pure hq)) fun _ _ e=>e)
 obtain⟨it,fp,tn,J,H2,rfl,I2,T,st2,f2,q2⟩:=h₂
 refine C7o (RR:=fun acc C=>compPost (model X.prog X.w) X.A X.xe (some (assign (.Name y py) X.env)) (fun _ s'=>SP X pins D .next s') acc C) S hc ht he I2 T st2 f2 q2 ?_
 intro Da C ys H' s' m hn own I' hD q
 show wpAny _ X.A (assign (.Name y py) X.env (.ref Da)) _ _ _
 refine wpAny_assign_Name (B2u (v:=V.ref Da) I' nd hi' hy rfl (fun s2 I2' hsb=>?_) hf)
 obtain⟨b,hs2,hb⟩:=hsb
 have hCb:C≠b:=by
  rcases hb with rfl | hb
  ·exact own.ne
  ·exact fun z=>own.ce _ _ hb z.symm
 refine⟨m,hn.sameBut hs2 hCb,fun h' hs'=>⟨_,_,I2'.own_turn own hs',q Da hD⟩⟩
end
section
variable {X:Cx}
theorem A79 (C:DC) {st:Stmt} {d:DS} (h:PS X st (sOf C d)):PS X st (sOf C d):=h
theorem D3o {sts:List Stmt} {t:DC->TS} (h:∀C,PSs X sts (t C)):PSs X sts (fun D σ H=>∃C,t C D σ H):=fun pins s σ H D I zz2=>zz2.elim fun C q=>h C pins s σ H D I q
end
theorem A8a {C:DC} {d:DS} {u:TS} {ρ:List Sl} {σ:L2.St} {H:Hp} {D:X3} (r:Rel C ρ σ [] H) (M:List Sl->Prop) (ht:d { nx:=M,rt:=fun _=>False } ρ) (hu:∀ρ' σ' H',Rel C ρ' σ' [] H'->M ρ'->u D σ' H'):A1o (sOf C d) u D σ H:=
 ⟨ρ,[],{ nx:=M,rt:=fun _=>False },r,ht,⟨fun ρ' σ' H' r' m=>hu ρ' σ' H' r' m,fun _ _ _ _ _ _ h=>h.elim,fun _ _ _ _ h=>h.elim,fun _ _ _ _ h=>h.elim,fun _ _ _ _ _ _ _ _ h=>h.elim⟩⟩
open Classical in
theorem D3p {H:Hp} {hd hl:Addr} {v0:V} {k:Nat} (d:Hd H hd hl):Rel ⟨fun b=>b≠hd,some (hd,hl),H⟩ (.no::.hd::G5 k .no) (some v0::some (.ref hd)::G5 k none) [] H:=by
 refine⟨fun b=>if b=hd then 1 else 0,fun b hb=>?_,fun b hb=>?_,fun q hq=>?_,fun i s e=>?_,fun p hp=>(nomatch hp),Kq.refl,fun q hq=>?_,fun q hq=>?_,⟨fun b hb=>?_,fun b xs hb=>?_⟩,?_⟩
 ·obtain⟨o,e⟩:=d.at1
  exact if_neg fun z=>by rw[z,e] at hb;cases hb
 ·intro z
  have hb':(if b=hd then 1 else 0)=0:=hb
  rw[if_pos z] at hb'
  cases hb'
 ·cases hq
  exact if_pos rfl
 ·match i with
  | 0=>cases e;trivial
  | 1=>cases e;exact⟨(hd,hl),rfl,rfl⟩
  | i + 2=>
   have e':(G5 k Sl.no)[i]?=some s:=e
   rw[B65] at e'
   split at e'
   ·cases e';trivial
   ·cases e'
 ·cases hq;exact d
 ·cases hq;exact d
 ·intro z
  obtain⟨o,e⟩:=d.at1
  rw[z] at hb
  have hb':H hd=none:=hb
  rw[e] at hb';cases hb'
 ·intro z
  obtain⟨_,_,_,_,_,_,_,_,e⟩:=id d
  rw[z] at hb
  have hb':H hd=some (.tup xs):=hb
  rw[e] at hb';cases hb'
 ·simp
theorem D3q {H:Hp} {hd hl:Addr} {v0:V} {k:Nat} {d:DS} {u:DC->TS} {D:X3} (dd:Hd H hd hl) (M:List Sl->Prop) (ht:d { nx:=M,rt:=fun _=>False } (.no::.hd::G5 k .no))
  (hu:∀C ρ' σ' H',C=⟨fun b=>b≠hd,some (hd,hl),H⟩->Rel C ρ' σ' [] H'->M ρ'->u C D σ' H'):∃C,A1o (sOf C d) (u C) D (some v0::some (.ref hd)::G5 k none) H:=
 ⟨_,A8a (D3p dd) M ht fun ρ' σ' H' r m=>hu _ ρ' σ' H' rfl r m⟩
def D3r:DSp:=fun ds Q=>∃(d:PyData) (m:Nat) (st:Int),ds=[d,.int (m:Nat),.int st]/\1<=m/\m<=12/\0<=st/\st<=100000000000000000000/\∀x,B6u m st x->Q (wkD x)
structure B19 (m:Nat) (ws:List Wy) (st:Int) (sp:List Sp2) (b:Tb):Prop where
 ok:J8 m ws
 s0:0<=st
 s1:st<=100000000000000000000
 so:k9 m sp
 hb:G7 m st b
def D3s:DSp:=fun ds Q=>∃(d:PyData) (m:Nat) (ws:List Wy) (st:Int) (sp:List Sp2) (b:Tb),ds=[d,Z6 m ws st sp b]/\B19 m ws st sp b/\∀m' ws' sp' b',B19 m' ws' st sp' b'->Q (Z6 m' ws' st sp' b')
def D3t:DSp:=fun ds Q=>∃(m:Nat) (ws:List Wy) (st:Int) (sp:List Sp2) (b:Tb) (ts:List Tb) (s p:Nat),ds=[Z6 m ws st sp b,.list (F8 ts),.int ((s:Nat):Int),.int ((p:Nat):Int)]/\B19 m ws st sp b/\V8 m ws st sp b ts/\s < 2 ^ sp.length/\p < m/\Q (.bool true)
section
variable {P:Program} {w:World} {K:B3} {mg:Str->Option Value} {base:Heap}
theorem D3u {a:Addr} {d:FuncData} {lev:Nat} {ps:List Str} {ms:List Md} {sp:DSp} (F0:D0 P w K mg base CX0 lev a d ps (A7v ms sp)):D0 P w K mg base CX0 lev a d ps (spD ms sp):=by
 have key:∀vs H Q E,spD ms sp vs H Q E->A7v ms sp vs H Q E:=fun vs H Q E h=>by
  obtain⟨F,hand,ds,Qd,h1,h2,h3,h4,h5,h6⟩:=h
  refine⟨F,hand,ds,Qd,h1,h2,h3,h4,h5,fun d v H' fp q t nd k1 k2=>h6 d v H' q (t.th.mv fun b o g e=>⟨?_,e⟩) k1 k2⟩
  rcases g with g | ⟨xs,g⟩
  ·exact h1.1 b g
  ·exact h1.2 b xs g
 exact⟨fun vs H Q E z=>F0.len vs H Q E (key vs H Q E z),fun A outer s H args us vs Q E hr e0 hb r z=>F0.run A outer s H args us vs Q E hr e0 hb r (key vs H Q E z)⟩
theorem D3v (T:Txt K mg):D0 P w K mg base CX0 11 T.f_trip_by.a T.f_trip_by.d ["land", "store", "springs", "base", "some", "place"] (spD [.sh,.sh,.sh,.sh,.sh,.sh] C2l):=(D3u (D1w T)).imp fun vs H Q E h=>by
 obtain⟨F,hand,ds,Qd,h1,h2,h3,ar,h5,h6⟩:=h
 have bd:∀{v:V} {d:PyData},ThV F H v d->ThV (fun b=>∀q:Addr×Addr,hand=some q->b≠q.1) H v d:=fun t=>t.mv fun b o z e=>⟨(fun q hq (y:b=q.1)=>h2 q hq (by rw[<-y];exact z)),e⟩
 refine⟨F,hand,ds,Qd,h1,h2,h3,?_,h5,h6⟩
 cases ar with
 | cons t1 ar=>
 cases ar with
 | cons t2 ar=>
 cases ar with
 | cons t3 ar=>
 cases ar with
 | cons t4 ar=>
 cases ar with
 | cons t5 ar=>
 cases ar with
 | cons t6 ar=>
 cases ar
 exact .cons (bd t1) (.cons t2 (.cons (bd t3) (.cons (bd t4) (.cons t5 (.cons t6 .nil)))))
theorem D3w (T:Txt K mg):D0 P w K mg base CX0 4 T.f_walker.a T.f_walker.d ["_law_hand_here", "_law_many", "_law_store_here"] (spD [.hd,.sh,.sh] D3r):=by
 have G_draw:=@A1c P w K mg base T
 have b_draw:=T.f_draw.b
 refine G1 T.f_walker.F B1t rfl (fun C cdv A outer s H E hr=>⟨_,(@F7 _ _ _ _ _ _ (E3 (B9 (i:=3) B1t.nd rfl (A8 rfl) (N9 j3 (G4 (g7 rfl) rfl T.n_min j0 (A7 (A1 (pv 2)) (A7 (E2 v5 A02 A6 A6) C6 F5) A0) (he:=A0) (hpl:=(A2 F5 A3)))))) (@F7 _ _ _ _ _ _ (@E3 _ _ _ _ _ (@B9 _ _ 4 _ _ _ _ B1t.nd rfl (A8 rfl) (@P4 _ _ _ _ _ _ (@A7 _ _ _ _ _ _ (C4 (B4 G_draw (hr.mono (by decide)) rfl T.f_draw.m T.f_draw.F.kp b_draw .nil B5 (F9 (pv 0) (A5 (A1 (pv 1)) C3 A0) A0) (he:=A0) (hpl:=(A2 A0 A3)))) (@A7 _ _ _ _ _ _ (@L5 _ _ _ _ _ _ _ (F1 (K0 (A7 A6 (A7 (C4 (B4 G_draw (hr.mono (by decide)) rfl T.f_draw.m T.f_draw.F.kp b_draw .nil B5 (F9 (pv 0) (A5 (E2 L3 N6 (A1 (pv 3)) A6) C3 F5) A0) (he:=A0) (hpl:=(A2 F5 A3)))) C6 E5) F4))) (C4 (B4 G_draw (hr.mono (by decide)) rfl T.f_draw.m T.f_draw.F.kp b_draw .nil B5 (F9 (pv 0) (A5 A6 C3 F4) A0) (he:=A0) (hpl:=(A2 F4 A3)))) (fun _ _=>rfl)) C6 B0) E5)) (by rfl) (by first | exact .inl rfl | exact .inr rfl | assumption))) (@F7 _ _ _ _ _ _ (@E3 _ _ _ _ _ (@B9 _ _ 5 _ _ _ _ B1t.nd rfl (A8 rfl) (@P4 _ _ _ _ _ _ (@A7 _ _ _ _ _ _ (C4 (B4 G_draw (hr.mono (by decide)) rfl T.f_draw.m T.f_draw.F.kp b_draw .nil B5 (F9 (pv 0) (A5 (A1 (pv 1)) C3 A0) A0) (he:=A0) (hpl:=(A2 A0 A3)))) (@A7 _ _ _ _ _ _ (@L5 _ _ _ _ _ _ _ (@F1 _ _ _ _ (@K0 _ _ _ _ _ (@A7 _ _ _ _ _ _ (A1 (pv 3)) (@A7 _ _ _ _ _ _ (C4 (B4 G_draw (hr.mono (by decide)) rfl T.f_draw.m T.f_draw.F.kp b_draw .nil B5 (F9 (pv 0) (A5 (E2 L3 N6 (A1 (pv 3)) A6) C3 F5) A0) (he:=A0) (hpl:=(A2 F5 A3)))) (A7 (C4 (B4 G_draw (hr.mono (by decide)) rfl T.f_draw.m T.f_draw.F.kp b_draw .nil B5 (F9 (pv 0) (A5 (E2 L3 N6 (A1 (pv 3)) A6) C3 F5) A0) (he:=A0) (hpl:=(A2 F5 A3)))) C6 E5) E5) A0))) (C4 (B4 G_draw (hr.mono (by decide)) rfl T.f_draw.m T.f_draw.F.kp b_draw .nil B5 (F9 (pv 0) (A5 A6 C3 F4) A0) (he:=A0) (hpl:=(A2 F4 A3)))) (fun _ _=>rfl)) C6 B0) E5)) (by rfl) (by first | exact .inl rfl | exact .inr rfl | assumption))) (B7 (C8 (P4 (A7 (A1 (pv 4)) (A7 (A1 (pv 5)) C6 A0) A0))))))),fun ds Q hl h=>?_⟩)
 obtain⟨d,m,st,rfl,m1,m2,s0,s1,q⟩:=h
 left
 refine⟨⟨by decide,by decide,by decide⟩,?_⟩
 obtain⟨tp,htp,t0,t1,t2⟩:∃tp:Int,(if (10:Int) ^ (18:Int).toNat < st then (10:Int) ^ (18:Int).toNat else st)=tp/\0<=tp/\tp<=st/\tp<=1000000000000000000:=by
  have e:(10:Int) ^ (18:Int).toNat=1000000000000000000:=by decide
  rw[e]
  refine⟨_,rfl,?_,?_,?_⟩ <;> split <;> omega
 rw[htp]
 refine⟨rfl,_,rfl,by omega,by omega,fun a a0 a1=>?_⟩
 obtain⟨a,rfl,ha⟩:=A73 a0 a1
 refine⟨rfl,_,rfl,by omega,by omega,fun v v0 v1=>⟨by decide,rfl,_,rfl,by decide,by decide,fun u u0 u1=>?_⟩⟩
 obtain⟨bl,hbl,b0,b1⟩:∃bl:Int,atI [PyData.int 0,.int v] u=some (.int bl)/\0<=bl/\bl<=st:=by
  rcases lt2 u0 u1 with rfl | rfl
  ·exact⟨_,rfl,by omega,by omega⟩
  ·exact⟨_,rfl,by omega,by omega⟩
 refine A0p hbl ⟨by decide,?_⟩
 refine⟨rfl,_,rfl,by omega,by omega,fun e e0 e1=>?_⟩
 obtain⟨e,rfl,he⟩:=A73 e0 e1
 refine⟨rfl,_,rfl,by omega,by omega,fun v2 v20 v21=>⟨rfl,_,rfl,by omega,by omega,fun v3 v30 v31=>⟨by decide,rfl,_,rfl,by decide,by decide,fun u' u'0 u'1=>?_⟩⟩⟩
 obtain⟨gl,hgl⟩:∃gl:Int,atI [PyData.int tp,.int v2,.int v3] u'=some (.int gl):=by
  have hu:u'=0\/u'=1\/u'=2:=by omega
  rcases hu with rfl | rfl | rfl
  ·exact⟨_,rfl⟩
  ·exact⟨_,rfl⟩
  ·exact⟨_,rfl⟩
 exact A0p hgl ⟨by decide,by decide,q ((a,bl),(e,gl)) ⟨ha,he,b0,b1⟩⟩
theorem D3x (T:Txt K mg):D0 P w K mg base CX0 7 T.f_other.a T.f_other.d ["_law_hand_here", "_law_case"] (spD [.hd,.sh] D3s):=by
 have G_draw:=@A1c P w K mg base T
 have b_draw:=T.f_draw.b
 have G_spring_case:=@C2p P w K mg base T
 have b_spring_case:=T.f_spring_case.b
 refine G1 T.f_other.F A4g rfl (fun C cdv A outer s H E hr=>⟨_,(@D3 _ _ _ _ _ _ (A81 (T9 (A1 (pv 1)) (C0o (A0w (n:=4) rfl (N2 (J2 (i:=2) A4g.nd rfl (A8 rfl)) (N2 (J2 (i:=3) A4g.nd rfl (f8 rfl)) (N2 (J2 (i:=4) A4g.nd rfl (A8 rfl)) (N2 (J2 (i:=5) A4g.nd rfl (A8 rfl)) p8)))))))) (@D3 _ _ _ _ _ _ (@T7 _ _ _ _ (@J1 _ _ _ _ _ _ _ _ _ (E9 (P2 (K4 hr)) L9 (C4 (B4 G_draw (hr.mono (by decide)) rfl T.f_draw.m T.f_draw.F.kp b_draw .nil B5 (F9 (pv 0) (A5 A6 C3 F4) A0) (he:=A0) (hpl:=(A2 F4 A3)))) A6 (C9 _)) (B7 (C8 (P4 (A7 (A1 (pv 2)) (A7 (A1 (pv 3)) (A7 (F1 (C7s (pv 4) (A03 (A00 A6)))) (A7 (A1 (pv 5)) C6 A0) B0) A0) A0)))) J5)) (@D3 _ _ _ _ _ _ (E3 (B9 (i:=6) A4g.nd rfl (A8 rfl) (C4 (B4 G_spring_case (hr.mono (by decide)) rfl T.f_spring_case.m T.f_spring_case.F.kp b_spring_case .nil B5 (F9 (pv 0) C3 A0) (he:=A0) (hpl:=A3))))) (@D3 _ _ _ _ _ _ (E3 (B9 (i:=7) A4g.nd rfl (f8 rfl) (L5 (C7 (pv 6) A6 (fun _ _=>rfl)) A6 (fun _ _=>rfl)))) (@D3 _ _ _ _ _ _ (@B36 _ _ _ _ _ _ _ _ _ rfl (@A4y _ _ _ _ _ _ _ _ _ _ _ _ _ 8 _ _ _ _ _ A4g.nd rfl (A8 rfl) (N5.new (N:=["_law_hand_here", "_law_case", "_law_land_here", "_law_store_here", "_law_springs_here", "_law_base", "_law_other_here", "_law_many", "_law_table_here"]) (osc:=C2 A89) (by decide +kernel)) rfl (A07 (C7 (pv 6) A6 (fun _ _=>rfl))) (fun _=>Y2) (fun _=>(A40 (E9 U8 Y0 (A1 (pv 9)) F6 (C9 _)) F6 (N9 j3 (G4 (g7 rfl) rfl T.n_min j0 (A7 (A1 (pv 3)) (A7 (A1 (pv 9)) C6 A0) A0) (he:=A0) (hpl:=(A2 A0 A3)))))) (by rfl) (by first | exact .inl rfl | exact .inr rfl | assumption) (by rfl) (by rfl) (by intro _;rfl))) (@B7 _ _ _ _ (@C8 _ _ _ _ _ (@P4 _ _ _ _ _ _ (@A7 _ _ _ _ _ _ (C7 (pv 6) A6 (fun _ _=>rfl)) (@A7 _ _ _ _ _ _ (A1 (pv 3)) (@A7 _ _ _ _ _ _ (@F1 _ _ _ _ (@B4c _ _ _ _ _ _ _ (B3p (A2w.new (N:=["_law_hand_here", "_law_case", "_law_land_here", "_law_store_here", "_law_springs_here", "_law_base", "_law_other_here", "_law_many", "_law_table_here"]) (osc:=C2 A89) (by decide +kernel)) rfl (b9 (pv 4)) (fun _=>Y2) (fun _=>(P4 (A7 (E2 u8 B3v (A1 (pv 9)) (A1 (pv 7))) (A7 (A1 (pv 10)) C6 A0) F5)))))) (A7 (A1 (pv 8)) C6 A0) W2) A0) B0))))))))),fun ds Q hl h=>?_⟩)
 obtain⟨d,m,ws,st,sp,b,rfl,co,q⟩:=h
 have few:=co.so.few
 have s0:=co.s0
 have s1:=co.s1
 unfold Z6
 left
 unfold gT4
 left
 refine go (A4i (fun ρ'=>ρ'=[Sl.hd,Sl.sh (Z6 m ws st sp b),Sl.sh (E8 m ws),Sl.sh (.int st),Sl.sh (.list (sp.map J6)),Sl.sh (.list (C5 b)),.no,.no,.no]) ?_ ?_)
 ·left
  refine⟨rfl,_,rfl,by decide,by decide,fun u u0 u1=>?_⟩
  refine⟨rfl,rfl,M3 _ _,?_⟩
  cases PyData.eqv (.int u) (.int 0) with
  | false=>exact rfl
  | true=>
   unfold C0y
   left
   rw[<-List.map_reverse]
   exact⟨by show 4<=1000;decide,q m ws sp.reverse b ⟨co.ok,s0,s1,⟨by rw[A0u];exact few,fun x hx=>co.so.pl x (B7k.mp hx),fun x hx=>co.so.gf x (B7k.mp hx)⟩,co.hb⟩⟩
 rintro ρ rfl
 try dsimp only
 refine go ?_
 left
 refine⟨rfl,_,rfl,fun m' ws' st' sp' b' ok' s0' s1' so' hb'=>?_⟩
 have m1':=ok'.m1
 have bl':=hb'.len
 refine go ?_;right
 refine A0p rfl (A0p rfl (go ?_))
 array_get_dec
 refine A0p rfl ?_
 array_get_dec
 refine⟨⟨rfl,by rw[d7,bl'];have:=ok'.m2;omega⟩,?_⟩
 rw[show C5 b'=b'.map oD from rfl]
 refine A0i (f:=fun o=>oD (o.map fun x=>if x < st then x else st)) (fun o ho Q' q'=>?_) ?_
 ·cases o with
  | none=>
   right
   exact q'
  | some x=>
   right
   exact q'
 rw[Q9]
 refine go ?_
 array_get_dec
 refine A0p rfl ?_
 array_get_dec
 refine⟨by rw[D5];omega,?_⟩
 refine B0s (g1:=fun x:Sp2=>.int ((x.1:Nat):Int)) (g2:=fun x=>.int x.2) (f:=fun x=>J6 (x.1 % m',x.2)) (fun x hx Q' q'=>?_) ?_
 ·left
  exact⟨by omega,by decide,q'⟩
 refine⟨by decide,?_⟩
 rw[Q9]
 have e1:b'.map (fun o=>oD (o.map fun x=>if x < st then x else st))=C5 (b'.map fun o=>o.map fun x=>if x < st then x else st):=by
  unfold C5
  rw[p5];rfl
 have e2:sp.map (fun x=>J6 (x.1 % m',x.2))=(sp.map fun x=>(x.1 % m',x.2)).map J6:=by rw[p5];rfl
 rw[e1,e2]
 refine q m' ws' _ _ ⟨ok',s0,s1,⟨by rw[D5];exact few,fun x hx=>?_,fun x hx=>?_⟩,⟨by rw[D5];exact bl',fun p x e=>?_⟩⟩
 ·obtain⟨y,hy,rfl⟩:=S5.mp hx
  exact Nat.mod_lt _ (by omega)
 ·obtain⟨y,hy,rfl⟩:=S5.mp hx
  exact co.so.gf y hy
 ·unfold gt at e
  rw[M7] at e
  cases z:b'[p]? with
  | none=>rw[z] at e;cases e
  | some o=>
   rw[z] at e
   cases o with
   | none=>cases e
   | some y=>
    have e:some (if y < st then y else st)=some x:=e
    cases e
    have:=hb'.bd p y (by unfold gt;rw[z];rfl)
    split <;> omega
theorem D3y (T:Txt K mg):D0 P w K mg base CX0 12 T.f_trip_good.a T.f_trip_good.d ["_law_case", "_law_tables_here", "_law_some", "_law_place"] (spD [.sh,.sh,.sh,.sh] D3t):=by
 have G_trip_by:=@D3v P w K mg base T
 have b_trip_by:=T.f_trip_by.b
 have G_arrive_by:=@D10 P w K mg base T
 have b_arrive_by:=T.f_arrive_by.b
 refine G1 T.f_trip_good.F A6p rfl (fun C cdv A outer s H E hr=>⟨_,(@D3 _ _ _ _ _ _ (A81 (T9 (A1 (pv 0)) (C0o (A0w (n:=4) rfl (N2 (J2 (i:=4) A6p.nd rfl (A8 rfl)) (N2 (J2 (i:=5) A6p.nd rfl (A8 rfl)) (N2 (J2 (i:=6) A6p.nd rfl (A8 rfl)) (N2 (J2 (i:=7) A6p.nd rfl (A8 rfl)) p8)))))))) (@D3 _ _ _ _ _ _ (@E3 _ _ _ _ _ (@B9 _ _ 8 _ _ _ _ A6p.nd rfl (A8 rfl) (@C4 _ _ _ _ _ _ _ (B4 G_trip_by (hr.mono (by decide)) rfl T.f_trip_by.m T.f_trip_by.F.kp b_trip_by .nil B5 (A5 (A1 (pv 4)) (A5 (A1 (pv 5)) (A5 (A1 (pv 6)) (A5 (A1 (pv 7)) (A5 (A1 (pv 2)) (A5 (A1 (pv 3)) C3 A0) A0) A0) A0) A0) A0) (he:=A0) (hpl:=(A2 A0 (A2 A0 (A2 A0 (A2 A0 (A2 A0 A3)))))))) (by rfl) (by first | exact .inl rfl | exact .inr rfl | assumption))) (@D3 _ _ _ _ _ _ (T7 (J1 (E9 U8 Y0 (A1 (pv 8)) F6 (C9 _))
   (B7 (C8 (b8 U8 Y0 (L5 (C7 (pv 1) (A1 (pv 2)) (fun _ _=>rfl)) (A1 (pv 3)) (fun _ _=>rfl)) F6 (C9 _))))
   J5)) (@D3 _ _ _ _ _ _ (@E3 _ _ _ _ _ (@B9 _ _ 9 _ _ _ _ A6p.nd rfl (A8 rfl) (@C4 _ _ _ _ _ _ _ (@B4 _ _ _ _ _ _ _ _ _ _ _ _ _ _ _ _ G_arrive_by (hr.mono (by decide)) rfl T.f_arrive_by.m T.f_arrive_by.F.kp b_arrive_by .nil B5 (A5 (A1 (pv 4)) (A5 (A1 (pv 5)) (A5 (A1 (pv 6)) (A5 (C7 (pv 8) A6 (fun _ _=>rfl)) (A5 (C7 (pv 7) (C7 (pv 8) A6 (fun _ _=>rfl)) (fun _ _=>rfl)) (A5 (C7 (pv 8) A6 (fun _ _=>rfl)) C3 B0) B0) B0) A0) A0) A0) (by decide) A0 ((A2 A0 (A2 A0 (A2 B0 (A2 B0 (A2 B0 A3)))))))) (by rfl) (by first | exact .inl rfl | exact .inr rfl | assumption))) (B7 (C8 (A22 (b8 (P2 (K4 hr)) L9 (A1 (pv 9)) (F1 (K0 (A7 (A1 (pv 3)) (A7 (L5 (C7 (pv 1) (A1 (pv 2)) (fun _ _=>rfl)) (A1 (pv 3)) (fun _ _=>rfl)) (A7 (A1 (pv 2)) C6 A0) B0) A0))) (C9 _)) (A0z (b8 A0x A1z (C7 (pv 9) A6 (fun _ _=>rfl)) F6 (C9 _)))))))))),fun ds Q hl h=>?_⟩)
 obtain⟨m,ws,st,sp,b,ts,s,p,rfl,co,hT,hs,hp,q⟩:=h
 have s0:=co.s0
 have s1:=co.s1
 unfold Z6
 left
 unfold gT4
 left
 refine go ?_
 left
 refine⟨m,ws,st,sp,b,s,p,rfl,co.ok,s0,by omega,co.so,co.hb,hs,hp,fun ts' o hT' h0 h1=>?_⟩
 cases hT.uniq hT'
 have hsl:s < ts.length:=by rw[hT.len];exact hs
 have tsl:=(hT.lid.tab _ (A2m hsl)).len
 have hat:atI (F8 ts) ((s:Nat):Int)=some (.list (C5 (tbs ts s))):=P0 (by unfold F8;rw[M7,A6t hsl];rfl)
 cases e:gt (tbs ts s) p with
 | none=>
  cases h0 e
  refine go (A4i (fun _=>False) ?_ fun ρ z=>z.elim)
  unfold A78
  right
  refine A0p hat ?_
  right
  rw[j6 (by rw[tsl];exact hp),e]
  exact q
 | some x=>
  obtain⟨f,ths,rfl,y,hy,hTr,_⟩:=h1 x e
  have bl:=co.hb.len
  have hfm:f < m:=by
   by_cases h:f < m
   ·exact h
   ·rw[A35 (by rw[bl];omega)] at hy;cases hy
  refine go (A4i (fun ρ'=>ρ'=[Sl.sh (Z6 m ws st sp b),Sl.sh (.list (F8 ts)),Sl.sh (.int ((s:Nat):Int)),Sl.sh (.int ((p:Nat):Int)),Sl.sh (E8 m ws),Sl.sh (.int st),Sl.sh (.list (sp.map J6)),Sl.sh (.list (C5 b)),Sl.sh (A78 (some (f,ths))),.no]) ?_ ?_)
  ·unfold Z6 A78
   right
   try exact rfl
  rintro ρ rfl
  refine go ?_
  unfold A78 C2k
  left
  rw[j6 (by rw[bl];exact hfm),hy]
  left
  refine⟨m,ws,st,sp,f,p,s,y,x,ths,rfl,co.ok,co.so,hTr,?_⟩
  refine go ?_
  left
  refine A0p hat ?_
  left
  rw[j6 (by rw[tsl];exact hp),e]
  left
  rw[show oD (some x)=PyData.int x from rfl]
  refine⟨by decide,rfl,rfl,by show min 1 1<=64;decide,?_⟩
  rw[show PyData.eqv (.list [.int ((p:Nat):Int),.int x,.int ((s:Nat):Int)]) (.list [.int ((p:Nat):Int),.int x,.int ((s:Nat):Int)])=true from PySem.SeqAt.eqv_refl _ rfl]
  exact q
end
structure Cs where
 m:Nat
 ws:List Wy
 st:Int
 sp:List Sp2
 b:Tb
def csD (c:Cs):PyData:=Z6 c.m c.ws c.st c.sp c.b
def B2a (c:Cs):Prop:=B19 c.m c.ws c.st c.sp c.b
abbrev TbR (c:Cs) (ts:List Tb):Prop:=V8 c.m c.ws c.st c.sp c.b ts
def WkL (c:Cs) (w:List (Sp2×Sp2)):Prop:=w.length=2/\∀x∈w,B6u c.m c.st x
abbrev NsR (c:Cs) (w:List (Sp2×Sp2)) (nss:List (List Nat)):Prop:=Z3 (A4j c.m c.ws c.st c.sp) w nss
def kD (nss:List (List Nat)):PyData:=.tuple [.list (J7 nss),A1f nss]
def B2b (c:Cs) (w:List (Sp2×Sp2)) (d:PyData):Prop:=d=.none\/∃nss,NsR c w nss/\d=kD nss
theorem B60 {m:Nat} {ws:List Wy} {st:Int} {sp:List Sp2}:∀{w:List (Sp2×Sp2)} {n n':List (List Nat)},Z3 (A4j m ws st sp) w n->Z3 (A4j m ws st sp) w n'->n=n'
 | _,_,_,.nil,.nil=>rfl
 | _,_,_,.cons ⟨_,h1,e1⟩ t,.cons ⟨_,h2,e2⟩ t'=>by rw[e1,e2,h1.uniq h2,B60 t t']
abbrev F0 (hd ak:Addr):Addr->Prop:=fun b=>b≠hd/\b≠ak
structure LSt (hd hl ak:Addr) (c1 c2:Cs) (t1 t2:List Tb) (w1 w2:List (Sp2×Sp2)) (vc vt vw vp:V) (H:Hp):Prop where
 hnd:Hd H hd hl
 cs:ThV (F0 hd ak) H vc (.list [csD c1,csD c2])
 tb:ThV (F0 hd ak) H vt (.list [.list (F8 t1),.list (F8 t2)])
 wk:ThV (F0 hd ak) H vw (.list [.list (w1.map wkD),.list (w2.map wkD)])
 cp:ThV (F0 hd ak) H vp (.list [csD c1,csD c2])
 ne:ak≠hd
 ne2:ak≠hl
structure LKp (hd ak:Addr) (c1 c2:Cs) (w1 w2:List (Sp2×Sp2)) (k0 k1:V) (d0 d1:PyData) (H:Hp):Prop where
 ek:H ak=some (.lst [k0,k1])
 v0:ThV (F0 hd ak) H k0 d0
 v1:ThV (F0 hd ak) H k1 d1
 o0:B2b c1 w1 d0
 o1:B2b c2 w2 d1
section
variable {hd hl ak:Addr} {c1 c2:Cs} {t1 t2:List Tb} {w1 w2:List (Sp2×Sp2)} {vc vt vw vp k0 k1:V} {d0 d1:PyData} {H H':Hp}
theorem LSt.mv (L:LSt hd hl ak c1 c2 t1 t2 w1 w2 vc vt vw vp H) (k:∀b o,H b=some o->F0 hd ak b->H' b=some o) (h:Hd H' hd hl):LSt hd hl ak c1 c2 t1 t2 w1 w2 vc vt vw vp H':=
 ⟨h,L.cs.mv fun b o z e=>⟨z,k b o e z⟩,L.tb.mv fun b o z e=>⟨z,k b o e z⟩,L.wk.mv fun b o z e=>⟨z,k b o e z⟩,L.cp.mv fun b o z e=>⟨z,k b o e z⟩,L.ne,L.ne2⟩
theorem LKp.mv (L:LKp hd ak c1 c2 w1 w2 k0 k1 d0 d1 H) (ne:ak≠hd) (k:∀b o,H b=some o->b≠hd->H' b=some o):LKp hd ak c1 c2 w1 w2 k0 k1 d0 d1 H':=
 ⟨k _ _ L.ek ne,L.v0.mv fun b o z e=>⟨z,k b o e z.1⟩,L.v1.mv fun b o z e=>⟨z,k b o e z.1⟩,L.o0,L.o1⟩
theorem A9n (k:Kq (some (hd,hl)) H H'):∀b o,H b=some o->b≠hd->H' b=some o:=fun b o e n=>k b o e fun q hq=>by cases hq;exact n
theorem D2.tbs (ts:List Tb):D2 2 (.list (F8 ts)):=D2.lst fun d hd=>by
 unfold F8 at hd
 obtain⟨t,_,rfl⟩:=S5.mp hd
 exact D2.tab t
theorem B61 {F:Addr->Prop} {v:V} {x y:PyData} (t:ThV F H v (.list [x,y])):∃a v1 v2,v=.ref a/\F a/\H a=some (.lst [v1,v2])/\ThV F H v1 x/\ThV F H v2 y:=by
 obtain⟨a,us,rfl,g,e,tu⟩:=K1 t
 obtain⟨v1,v2,rfl,h1,h2⟩:=S9 tu
 exact⟨a,v1,v2,rfl,g,e,h1,h2⟩
end
theorem B62 {F:Addr->Prop} {H:Hp} {a1:Addr} {u1:List V} (e:H a1=some (.lst u1)):∀{ds:List PyData} {us:List V},(∀d∈ds,(∃n:Int,d=.int n)\/∃ns,d=.list (D4 ns))->(∀x∈us,x∈u1)->A9 F H us ds->A9 (fun b=>F b/\b≠a1) H us ds
 | [],_,_,_,h=>by cases h;exact .nil
 | d::ds,_,hd,hu,h=>by
  cases h with
  | @cons v _ _ _ x r=>
   refine .cons ?_ (B62 e (fun z hz=>hd z (B6 _ hz)) (fun z hz=>hu z (B6 _ hz)) r)
   rcases hd d C0 with ⟨n,rfl⟩ | ⟨ns,rfl⟩
   ·cases x;exact .int _
   ·obtain⟨c,xs,rfl,g,ec,tx⟩:=K1 x
    refine .lst ⟨g,fun z=>?_⟩ ec (B17 tx)
    subst z
    rw[ec] at e
    cases e
    have hm:=hu (.ref c) C0
    obtain⟨i,hi,ei⟩:=A0t.mp hm
    obtain⟨d',hd',t'⟩:=A4k tx (show u1[i]?=some (V.ref c) by rw[K3 hi,ei])
    unfold D4 at hd'
    rw[M7] at hd'
    obtain⟨m,_,rfl⟩:=A4q.mp hd'
    cases t'
theorem D3z (nss:List (List Nat)):∃(tag:Str) (items:List PyData),A1f nss=.tuple [.str tag,.list items]/\(∀d∈items,(∃n:Int,d=.int n)\/∃ns,d=.list (D4 ns))/\((tag = "not" /\items=J7 nss)\/(tag = "all" /\∃r,fsF nss 0=some r/\items=D4 r)):=by
 unfold A1f
 cases e:fsF nss 0 with
 | none=>
  refine⟨_,_,rfl,fun d hd=>?_,.inl ⟨rfl,rfl⟩⟩
  unfold J7 at hd
  obtain⟨n,_,rfl⟩:=S5.mp hd
  exact .inr ⟨n,rfl⟩
 | some r=>
  refine⟨_,_,rfl,fun d hd=>?_,.inr ⟨rfl,r,rfl,rfl⟩⟩
  unfold D4 at hd
  obtain⟨n,_,rfl⟩:=S5.mp hd
  exact .inl ⟨_,rfl⟩
theorem D2.nums (ns:List Nat):D2 1 (.list (D4 ns)):=D2.lst fun d hd=>by
 unfold D4 at hd
 obtain⟨s,_,rfl⟩:=S5.mp hd
 exact .int _
theorem D2.nss (nss:List (List Nat)):D2 2 (.list (J7 nss)):=D2.lst fun d hd=>by
 unfold J7 at hd
 obtain⟨s,_,rfl⟩:=S5.mp hd
 exact D2.nums s
theorem D2.shr (nss:List (List Nat)):D2 3 (A1f nss):=by
 unfold A1f
 cases fsF nss 0 with
 | none=>exact D2.tup (D2.two ⟨by decide +kernel,M6 _⟩ (D2.nss nss))
 | some r=>exact D2.tup (D2.two ⟨by decide +kernel,M6 _⟩ ((D2.nums r).mono (by decide)))
theorem D2.kd (nss:List (List Nat)):D2 4 (kD nss):=D2.tup (D2.two ((D2.nss nss).mono (by decide)) (D2.shr nss))
theorem D2.wks (w:List (Sp2×Sp2)):D2 3 (.list (w.map wkD)):=D2.lst fun d hd=>by
 obtain⟨s,_,rfl⟩:=S5.mp hd
 exact D2.tup (D2.two (D2.tup (n:=0) (D2.two (.int _) (.int _))) (D2.tup (n:=0) (D2.two (.int _) (.int _))))
theorem D2.cs (c:Cs):D2 4 (csD c):=D2.tup fun d hd=>by
 simp only[N1,List.not_mem_nil,or_false] at hd
 rcases hd with rfl | rfl | rfl | rfl
 ·exact D2.land _ _
 ·exact .int _
 ·refine (D2.lst (n:=1) fun d hd=>?_).mono (by decide)
  obtain⟨s,_,rfl⟩:=S5.mp hd
  exact D2.tup (D2.two (.int _) (.int _))
 ·exact (D2.tab _).mono (by decide)
theorem D2.css (c1 c2:Cs):D2 5 (.list [csD c1,csD c2]):=D2.lst (D2.two (D2.cs c1) (D2.cs c2))
theorem D30 {α:Type} {xs:List α} (h:xs.length=17):∃a0 a1 a2 a3 a4 a5 a6 a7 a8 a9 b0 b1 b2 b3 b4 b5 b6,xs=[a0,a1,a2,a3,a4,a5,a6,a7,a8,a9,b0,b1,b2,b3,b4,b5,b6]:=by
 match xs,h with
 | [a0,a1,a2,a3,a4,a5,a6,a7,a8,a9,b0,b1,b2,b3,b4,b5,b6],_=>exact⟨a0,a1,a2,a3,a4,a5,a6,a7,a8,a9,b0,b1,b2,b3,b4,b5,b6,rfl⟩
section
variable {P:Program} {w:World} {K:B3} {mg:Str->Option Value} {base:Heap}
theorem C23 {a R:TS} {D:X3} {σ:St} {H:Hp} (h:∀W:TS,W=R->A1o a W D σ H):A1o a R D σ H:=h R rfl
theorem X1 {W a R:TS} {D:X3} {σ:St} {H:Hp} (e:W=A1o a R) (h:∀W':TS,W'=R->A1o a W' D σ H):W D σ H:=by rw[e];exact h R rfl
theorem D31 {a R:TS} {D:X3} {σ:St} {H:Hp} (h:∀D':X3,D'=D->A1o a R D' σ H):A1o a R D σ H:=h D rfl
theorem A9o {i:Nat} {v:V} {σ:St} {H:Hp} {Q:St->Hp->Prop} (h:Q (σ.set i (some v)) H):R6 i v σ H Q:=h
theorem D32 (T:Txt K mg):D0 P w K mg base CX0 14 T.f_law.a T.f_law.d ["_law_script"] (B13 K):=by
 have G_hand:=@C8t P w K mg base T
 have b_hand:=T.f_hand.b
 have G_draw:=@A1c P w K mg base T
 have b_draw:=T.f_draw.b
 have G_spring_case:=@C2p P w K mg base T
 have b_spring_case:=T.f_spring_case.b
 have G_other:=@D3x P w K mg base T
 have b_other:=T.f_other.b
 have G_tables:=@D3m P w K mg base T
 have b_tables:=T.f_tables.b
 have G_walker:=@D3w P w K mg base T
 have b_walker:=T.f_walker.b
 have G_copied:=@C22 P w K mg base T
 have b_copied:=T.f_copied.b
 have G_is_spring_lid:=@D2j P w K mg base T
 have b_is_spring_lid:=T.f_is_spring_lid.b
 have G_trip_good:=@D3y P w K mg base T
 have b_trip_good:=T.f_trip_good.b
 have G_needs_of:=@C2u P w K mg base T
 have b_needs_of:=T.f_needs_of.b
 have G_shared:=@D3d P w K mg base T
 have b_shared:=T.f_shared.b
 have GS_tables:=C2x (ms:=[.sh]) (.cons .nil) G_tables
 have GS_copied:=C2x (ms:=[.sh]) (.cons .nil) G_copied
 refine T.f_law.F.ok W9 (fun vs H Q E h=>?_) (fun cdv A outer s H vs Q E hr h=>?_)
 ·obtain⟨a,ns,rfl,_⟩:=h
  rfl
 ·obtain⟨a,ns,rfl,hS,hlen,k⟩:=h
  refine⟨_,(@E6 _ _ _ _ _ (B9 (i:=1) W9.nd rfl (f8 rfl) (B4 G_hand (hr.mono (by decide)) rfl T.f_hand.m T.f_hand.F.kp b_hand .nil B5 (A4 (pv 0) B8 A0) (he:=A0) (hpl:=A3))) (D3o (fun C=>(@E6 _ _ _ _ _ (A79 C (Z0 (B9 (i:=2) W9.nd rfl (A8 rfl) (K0 (A7 (C4 (B4 G_spring_case (hr.mono (by decide)) rfl T.f_spring_case.m T.f_spring_case.F.kp b_spring_case .nil B5 (F9 (pv 1) C3 A0) (he:=A0) (hpl:=A3))) C6 E5))))) (@E6 _ _ _ _ _ (A79 C (A08 (S8 (Y5 V3 o8 o9 i7 (pv 2) (A4 (C4 (B4 G_other (hr.mono (by decide)) rfl T.f_other.m T.f_other.F.kp b_other .nil B5 (F9 (pv 1) (A5 (C7 (pv 2) A6 (fun _ _=>rfl)) C3 B0) A0) (he:=A0) (hpl:=(A2 B0 A3)))) B8 E5))))) (@E6 _ _ _ _ _ (A79 C (@E3 _ _ _ _ _ (@B9 _ _ 3 _ _ _ _ W9.nd rfl (A8 rfl) (@F1 _ _ _ _ (@K0 _ _ _ _ _ (@A7 _ _ _ _ _ _ (C4 (B4 GS_tables (hr.mono (by decide)) rfl T.f_tables.m T.f_tables.F.kp b_tables .nil B5 (A5 (C7 (pv 2) A6 (fun _ _=>rfl)) C3 B0) (he:=B0) (hpl:=A3))) (A7 (C4 (B4 GS_tables (hr.mono (by decide)) rfl T.f_tables.m T.f_tables.F.kp b_tables .nil B5 (A5 (C7 (pv 2) A6 (fun _ _=>rfl)) C3 B0) (he:=B0) (hpl:=A3))) C6 E5) E5))) (by rfl) (by first | exact .inl rfl | exact .inr rfl | assumption)))) (@E6 _ _ _ _ _ (A79 C (@B36 _ _ _ _ _ _ _ _ _ rfl (D3n (i:=4) W9.nd rfl (A8 rfl) (CompScC.new (N:=["_law_script", "_law_hand_here", "_law_cases", "_law_tables_here", "_law_walkers", "_law_kept", "_law_copies", "_law_k", "_law_at", "_law_land_here", "_law_store_here", "_law_springs_here", "_law_base", "_law_needs", "_law_handed", "_law_found", "_law_one"]) (osc:=C2 d5) (by decide +kernel) (fun _ _=>rfl)) rfl (b9 (pv 2)) (fun _=>Y2) (fun _=>(@F1 _ _ _ _ (@C7g _ _ _ _ _ _ _ _ (@Y6 _ _ _ _ _ _ _ _ _ _ _ _ _ _ _ (N5.old (N:=["_law_script", "_law_hand_here", "_law_cases", "_law_tables_here", "_law_walkers", "_law_kept", "_law_copies", "_law_k", "_law_at", "_law_land_here", "_law_store_here", "_law_springs_here", "_law_base", "_law_needs", "_law_handed", "_law_found", "_law_one", "_law_case"]) (osc:={ kind:=.function,names:=[(".0",.local),("_law_case",.cell),("range",.globalImplicit),("_law_hand_here",.cell)],isGenerator:=false,isCoroutine:=false }) (j:=7) (by decide +kernel)) rfl (A3v (p9 rfl T.n_range (A7 A6 C6 F4))) (fun _=>Y2) (fun _=>(C4 (B4 G_walker (hr.mono (by decide)) rfl T.f_walker.m T.f_walker.F.kp b_walker .nil B5 (F9 (pv 1) (A5 (L5 (C7 (pv 17) A6 (fun _ _=>rfl)) A6 (fun _ _=>rfl)) (A5 (C7 (pv 17) A6 (fun _ _=>rfl)) C3 B0) B0) A0) (he:=A0) (hpl:=(A2 B0 (A2 B0 A3)))))) (by rfl) (by rfl) (by intro _;rfl)))))))) (@E6 _ _ _ _ _ (A79 C (Z0 (B9 (i:=5) W9.nd rfl (A8 rfl) (K0 (A7 F6 (A7 F6 C6 F4) F4))))) (@E6 _ _ _ _ _ (A79 C (@B36 _ _ _ _ _ _ _ _ _ rfl (@A4y _ _ _ _ _ _ _ _ _ _ _ _ _ 6 _ _ _ _ _ W9.nd rfl (A8 rfl) (N5.new (N:=["_law_script", "_law_hand_here", "_law_cases", "_law_tables_here", "_law_walkers", "_law_kept", "_law_copies", "_law_k", "_law_at", "_law_land_here", "_law_store_here", "_law_springs_here", "_law_base", "_law_needs", "_law_handed", "_law_found", "_law_one"]) (osc:=C2 d5) (by decide +kernel)) rfl (b9 (pv 2)) (fun _=>Y2) (fun _=>(C4 (B4 GS_copied (hr.mono (by decide)) rfl T.f_copied.m T.f_copied.F.kp b_copied .nil B5 (A5 (A1 (pv 17)) C3 A0) (he:=A0) (hpl:=A3)))) (by rfl) (by first | exact .inl rfl | exact .inr rfl | assumption) (by rfl) (by rfl) (by intro _;rfl)))) (@E6 _ _ _ _ _ (@Q4 _ _ _ _ _ _ _ _ O6 rfl (p9 rfl T.n_range (A4 D1 B8 F4)) (J2 (i:=7) W9.nd rfl (A8 rfl)) (@E6 _ _ _ _ _ (B9 (i:=8) W9.nd rfl (A8 rfl) (B4 G_draw (hr.mono (by decide)) rfl T.f_draw.m T.f_draw.F.kp b_draw .nil B5 (A4 (pv 1) (A4 D1 B8 F4) A0) (he:=A0) (hpl:=(A2 F4 A3)))) (@E6 _ _ _ _ _ (@T9 _ _ _ _ _ _ (B4 G_copied (hr.mono (by decide)) rfl T.f_copied.m T.f_copied.F.kp b_copied .nil B5 (A4 (D9 N3 (pv 2) (pv 8) (fun _ _=>rfl)) B8 B0) (he:=B0) (hpl:=A3)) (A0w (n:=4) rfl (N2 (J2 (i:=9) W9.nd rfl (f8 rfl)) (N2 (J2 (i:=10) W9.nd rfl (f8 rfl)) (N2 (J2 (i:=11) W9.nd rfl (f8 rfl)) (N2 (J2 (i:=12) W9.nd rfl (A8 rfl)) p8))))) (by rfl) (by rfl) (by rfl)) (@E6 _ _ _ _ _ (i9 (Z8 (U1 (Y7 (K4 hr)) (B4 G_tables (hr.mono (by decide)) rfl T.f_tables.m T.f_tables.F.kp b_tables .nil B5 (A4 (D9 N3 (pv 2) (pv 8) (fun _ _=>rfl)) B8 B0) (he:=B0) (hpl:=A3)) (D9 N3 (pv 3) (pv 8) (fun _ _=>rfl)) (C9 _))
   (M2 (Q3 A1m))
   g5)) (@E6 _ _ _ _ _ (@i9 _ _ _ (@Z8 _ _ _ _ _ _ _ _ (@U1 _ _ _ _ _ _ _ _ C5k (B4 G_is_spring_lid (hr.mono (by decide)) rfl T.f_is_spring_lid.m T.f_is_spring_lid.F.kp b_is_spring_lid .nil B5 (A4 (pv 9) (A4 (pv 10) (A4 (pv 11) (A4 (pv 12) (A4 (D9 N3 (pv 3) (pv 8) (fun _ _=>rfl)) B8 B0) A0) A0) A0) A0) (he:=A0) (hpl:=(A2 A0 (A2 A0 (A2 A0 (A2 B0 A3)))))) A1m (C9 _)) (M2 (Q3 A1m)) g5)) (@E6 _ _ _ _ _ (@i9 _ _ _ (@Z8 _ _ _ _ _ _ _ _ (@B7s _ _ _ _ (@B7p _ _ _ (@B4 _ _ _ _ _ _ _ _ _ _ _ _ _ _ _ _ G_trip_good (hr.mono (by decide)) rfl T.f_trip_good.m T.f_trip_good.F.kp b_trip_good .nil B5 (@A4 _ _ _ _ _ (D9 N3 (pv 2) (pv 8) (fun _ _=>rfl)) (@A4 _ _ _ _ _ (D9 N3 (pv 3) (pv 8) (fun _ _=>rfl)) (@A4 _ _ _ _ _ (B4 G_draw (hr.mono (by decide)) rfl T.f_draw.m T.f_draw.F.kp b_draw .nil B5 (A4 (pv 1) (A4 (G4 Q5 rfl T.n_len Q6 (A4 (D9 N3 (pv 3) (pv 8) (fun _ _=>rfl)) B8 B0) (he:=B0) (hpl:=A3)) B8 E5) A0) (he:=A0) (hpl:=(A2 E5 A3))) (A4 (B4 G_draw (hr.mono (by decide)) rfl T.f_draw.m T.f_draw.F.kp b_draw .nil B5 (A4 (pv 1) (A4 (D9 J3 (pv 9) D1 (fun _ _=>rfl)) B8 B0) A0) (he:=A0) (hpl:=(A2 B0 A3))) B8 E5) E5) B0) B0) (by decide) B0 ((A2 B0 (A2 E5 (A2 E5 A3))))) (by intro _;rfl))) (M2 (Q3 A1m)) g5)) (@E6 _ _ _ _ _ (@A4y _ _ _ _ _ _ _ _ _ _ _ _ _ 13 _ _ _ _ _ W9.nd rfl (A8 rfl) (N5.new (N:=["_law_script", "_law_hand_here", "_law_cases", "_law_tables_here", "_law_walkers", "_law_kept", "_law_copies", "_law_k", "_law_at", "_law_land_here", "_law_store_here", "_law_springs_here", "_law_base", "_law_needs", "_law_handed", "_law_found", "_law_one"]) (osc:=C2 d5) (by decide +kernel)) rfl (A1q (D9 N3 (pv 4) (pv 8) (fun _ _=>rfl))) (fun _=>A2v) (fun _=>(B4 G_needs_of (hr.mono (by decide)) rfl T.f_needs_of.m T.f_needs_of.F.kp b_needs_of .nil B5 (A4 (pv 9) (A4 (pv 10) (A4 (pv 11) (A4 (pv 17) B8 A0) A0) A0) A0) (he:=A0) (hpl:=(A2 A0 (A2 A0 (A2 A0 A3)))))) (by rfl) (by first | exact .inl rfl | exact .inr rfl | assumption) (by rfl) (by rfl) (by intro _;rfl)) (@E6 _ _ _ _ _ (B9 (i:=14) W9.nd rfl (A8 rfl) (b7 w5 rfl T.n_list W1 (A4 (D9 N3 (pv 4) (pv 8) (fun _ _=>rfl)) B8 B0) (he:=B0) (hpl:=A3))) (@E6 _ _ _ _ _ (B9 (i:=15) W9.nd rfl (A8 rfl) (B4 G_shared (hr.mono (by decide)) rfl T.f_shared.m T.f_shared.F.kp b_shared .nil B5 (A4 (pv 9) (A4 (pv 10) (A4 (pv 11) (A4 (pv 14) B8 A0) A0) A0) A0) (he:=A0) (hpl:=(A2 A0 (A2 A0 (A2 A0 A3)))))) (@E6 _ _ _ _ _ (i9 (Z8 (PW.pt (B7r (U1 (Y7 (K4 hr)) (pv 14) (D9 N3 (pv 4) (pv 8) (fun _ _=>rfl)) (C9 _)) (B7q (U1 (Y7 (K4 hr)) (pv 6) (pv 2) (C9 _)))))
   (M2 (Q3 A1m))
   g5)) (@E6 _ _ _ _ _ (i9 (Z8 (PW.pt (A9z (U1 A0x (D9 N3 (pv 5) (pv 8) (fun _ _=>rfl)) A2q (C9 _)) (A9y (U1 (Y7 (K4 hr)) (D9 N3 (pv 5) (pv 8) (fun _ _=>rfl)) (l7 (A4 (pv 13) (A4 (pv 15) B8 A0) A0)) (C9 _)))))
   (M2 (Q3 A1m))
   g5)) (@E6 _ _ _ _ _ (@T9 _ _ _ _ _ _ (@l7 _ _ _ _ _ (@A4 _ _ _ _ _ (@Y6 _ _ _ _ _ _ _ _ _ _ _ _ _ _ _ (N5.old (N:=["_law_script", "_law_hand_here", "_law_cases", "_law_tables_here", "_law_walkers", "_law_kept", "_law_copies", "_law_k", "_law_at", "_law_land_here", "_law_store_here", "_law_springs_here", "_law_base", "_law_needs", "_law_handed", "_law_found", "_law_one"]) (osc:=C2 d5) (j:=16) (by decide +kernel)) rfl (A1q (pv 13)) (fun _=>A2v) (fun _=>(b7 w5 rfl T.n_list W1 (A4 (pv 16) B8 A0) (he:=A0) (hpl:=A3))) (by rfl) (by rfl) (by intro _;rfl)) (@A4 _ _ _ _ _ (@l7 _ _ _ _ _ (@A4 _ _ _ _ _ (D9 J3 (pv 15) D1 (fun _ _=>rfl)) (@A4 _ _ _ _ _ (@Y6 _ _ _ _ _ _ _ _ _ _ _ _ _ _ _ (N5.old (N:=["_law_script", "_law_hand_here", "_law_cases", "_law_tables_here", "_law_walkers", "_law_kept", "_law_copies", "_law_k", "_law_at", "_law_land_here", "_law_store_here", "_law_springs_here", "_law_base", "_law_needs", "_law_handed", "_law_found", "_law_one"]) (osc:=C2 d5) (j:=16) (by decide +kernel)) rfl (A1q (D9 J3 (pv 15) D1 (fun _ _=>rfl))) (fun _=>A2v) (fun _=>(pv 16)) (by rfl) (by rfl) (by intro _;rfl)) B8 W2) B0)) B8 A1u) W2)) (Z9 (pv 5) (pv 8) X9) (by rfl) (by rfl) (by rfl)) (@E6 _ _ _ _ _ (i9 (Z8 (PW.pt (A9z (U1 B21 (D9 J3 (pv 15) D1 (fun _ _=>rfl)) A9x (C9 _)) (A9y (U1 (Y7 (K4 hr)) (D9 J3 (pv 15) D1 (fun _ _=>rfl)) (pv 13) (C9 _)))))
   (M2 (Q3 A1m))
   g5)) (@E6 _ _ _ _ _ (S8 (Y5 V3 o8 o9 i7 (D9 J3 (pv 15) D1 (fun _ _=>rfl)) (A4 D1 B8 F4))) (M2 (Q4 O6 rfl (A1q (pv 13)) (J2 (i:=16) W9.nd rfl (A8 rfl))
   (M2 (S8 (Y5 V3 o8 o9 i7 (pv 16) (A4 D1 B8 F4))))))))))))))))))) (by intro _;rfl)) (M2 (Q3 A1m)))))))))))),?_⟩
  try dsimp only[X8,Cx.nox]
  refine⟨_,rfl,a,ns,rfl,hS,fun hd hl H1 _ _ d1 _=>?_⟩
  refine D3q (k:=15) d1 (fun ρ=>∃c1:Cs,B2a c1/\ρ=.no::.hd::.ow [csD c1]::G5 14 .no) ?_ ?_
  ·simp only[Y4,A9v]
   left
   exact⟨rfl,_,rfl,fun m ws st sp b ok s0 s1 so hb=>⟨by decide,⟨m,ws,st,sp,b⟩,⟨ok,s0,s1,so,hb⟩,rfl⟩⟩
  rintro C ρ σ H2 hC r ⟨c1,co1,rfl⟩
  refine C23 fun W hW=>?_
  refine A8a r (fun ρ=>∃c2:Cs,B2a c2/\ρ=.no::.hd::.ow [csD c1,csD c2]::G5 14 .no) ?_ ?_
  ·simp only[Y4,A9v]
   left
   refine A0p rfl ?_
   exact⟨rfl,_,c1.m,c1.ws,c1.st,c1.sp,c1.b,rfl,co1,fun m' ws' sp' b' co'=>⟨by decide,⟨m',ws',c1.st,sp',b'⟩,co',rfl⟩⟩
  clear r
  rintro ρ σ H3 r ⟨c2,co2,rfl⟩
  refine @X1 W _ _ _ _ _ hW fun W hW=>?_
  refine A8a r (fun ρ=>∃t1 t2,TbR c1 t1/\TbR c2 t2/\ρ=.no::.hd::.ow [csD c1,csD c2]::.sh (.list [.list (F8 t1),.list (F8 t2)])::G5 13 .no) ?_ ?_
  ·simp only[Y4,A9v]
   have a1:=co1.s1
   have a2:=co2.s1
   left
   refine A0p rfl ⟨c1.m,c1.ws,c1.st,c1.sp,c1.b,rfl,co1.ok,co1.s0,by omega,co1.so,co1.hb,fun t1 h1=>?_⟩
   refine A0p rfl ⟨c2.m,c2.ws,c2.st,c2.sp,c2.b,rfl,co2.ok,co2.s0,by omega,co2.so,co2.hb,fun t2 h2=>?_⟩
   exact⟨by decide,t1,t2,h1,h2,rfl⟩
  clear r
  rintro ρ σ H4 r ⟨t1,t2,ht1,ht2,rfl⟩
  refine @X1 W _ _ _ _ _ hW fun W hW=>?_
  refine A8a r (fun ρ=>∃w1 w2,WkL c1 w1/\WkL c2 w2/\ρ=.no::.hd::.sh (.list [csD c1,csD c2])::.sh (.list [.list (F8 t1),.list (F8 t2)])::.sh (.list [.list (w1.map wkD),.list (w2.map wkD)])::G5 12 .no) ?_ ?_
  ·simp only[Y4,A9v]
   array_get_dec
   refine⟨⟨rfl,by decide⟩,?_⟩
   rw[show [csD c1,csD c2]=[c1,c2].map csD from rfl]
   refine C2s (f:=fun w:List (Sp2×Sp2)=>.list (w.map wkD)) (R:=WkL) (fun c hc Q' q'=>?_) fun ws hR=>?_
   ·unfold C0n B4n
    array_get_dec
    have cc:B2a c:=by
     rcases N1.mp hc with rfl | hc
     ·exact co1
     ·rw[p6.mp hc];exact co2
    refine⟨by decide,⟨rfl,rfl,by decide⟩,?_⟩
    rw[show M9 0 (A9u 2)=[.int 0,.int 1] from rfl]
    refine⟨rfl,J0 ?_⟩
    unfold csD Z6 E8
    left
    refine⟨rfl,_,c.m,c.st,rfl,cc.ok.m1,cc.ok.m2,cc.s0,cc.s1,fun x hx=>⟨rfl,rfl,J0 ?_⟩⟩
    left
    refine⟨rfl,_,c.m,c.st,rfl,cc.ok.m1,cc.ok.m2,cc.s0,cc.s1,fun y hy=>⟨rfl,?_⟩⟩
    refine q' [x,y] ⟨rfl,fun z hz=>?_⟩
    rcases N1.mp hz with rfl | hz
    ·exact hx
    ·rw[p6.mp hz];exact hy
   ·cases hR with
    | @cons _ w1 _ _ h1 hR=>
    cases hR with
    | @cons _ w2 _ _ h2 hR=>
    cases hR
    exact⟨w1,w2,h1,h2,rfl⟩
  clear r
  rintro ρ σ H5 r ⟨w1,w2,hw1,hw2,rfl⟩
  refine @X1 W _ _ _ _ _ hW fun W hW=>?_
  refine A8a r (fun ρ=>ρ=.no::.hd::.sh (.list [csD c1,csD c2])::.sh (.list [.list (F8 t1),.list (F8 t2)])::.sh (.list [.list (w1.map wkD),.list (w2.map wkD)])::.ow [.none,.none]::G5 11 .no) ?_ ?_
  ·simp only[Y4,A9v]
   left
   exact⟨by decide,rfl⟩
  clear r
  rintro ρ σ H6 r rfl
  refine @X1 W _ _ _ _ _ hW fun W hW=>?_
  refine A8a r (fun ρ=>ρ=.no::.hd::.sh (.list [csD c1,csD c2])::.sh (.list [.list (F8 t1),.list (F8 t2)])::.sh (.list [.list (w1.map wkD),.list (w2.map wkD)])::.ow [.none,.none]::.sh (.list [csD c1,csD c2])::G5 10 .no) ?_ ?_
  ·simp only[Y4,A9v]
   array_get_dec
   refine⟨⟨rfl,by decide⟩,?_⟩
   rw[show [csD c1,csD c2]=[c1,c2].map csD from rfl]
   refine A0i (f:=csD) (fun c hc Q' q'=>?_) ?_
   ·left
    exact⟨c.m,c.ws,c.st,c.sp,c.b,rfl,q'⟩
   exact rfl
  clear r
  rintro ρ σ H7 r rfl
  refine @X1 W _ _ _ _ _ hW fun V7 hV7=>?_
  obtain⟨col,r⟩:=r
  subst hC
  obtain⟨z0,z1,z2,z3,z4,z5,z6,y0,y1,y2,y3,y4,y5,y6,y7,y8,y9,rfl⟩:=D30 (xs:=σ) (by rw[<-r.len];rfl)
  obtain⟨q1,eq1,e1⟩:=r.sl 1 _ rfl
  cases eq1
  obtain⟨vc,e2,tc⟩:=r.sl 2 _ rfl
  obtain⟨vt,e3,tt⟩:=r.sl 3 _ rfl
  obtain⟨vw,e4,tw⟩:=r.sl 4 _ rfl
  obtain⟨ak,uk,e5,ck,nk,ek,tk⟩:=r.sl 5 _ rfl
  have nk:H1 ak=none:=nk
  obtain⟨vp,e6,tp⟩:=r.sl 6 _ rfl
  have hz1:z1=some (.ref hd):=e1
  have hz2:z2=some vc:=e2
  have hz3:z3=some vt:=e3
  have hz4:z4=some vw:=e4
  have hz5:z5=some (.ref ak):=e5
  have hz6:z6=some vp:=e6
  clear e1 e2 e3 e4 e5 e6
  subst hz1 hz2 hz3 hz4 hz5 hz6
  have hcol:col hd=1:=r.hnd (hd,hl) rfl
  have z0F:∀b,col b=0->F0 hd ak b:=fun b hb=>⟨(fun z=>by rw[z,hcol] at hb;cases hb),fun z=>by rw[z,ck] at hb;omega⟩
  have L7:LSt hd hl ak c1 c2 t1 t2 w1 w2 vc vt vw vp H7:=⟨r.hq (hd,hl) rfl,tc.mv fun b o z e=>⟨z0F b z,e⟩,tt.mv fun b o z e=>⟨z0F b z,e⟩,tw.mv fun b o z e=>⟨z0F b z,e⟩,tp.mv fun b o z e=>⟨z0F b z,e⟩,(fun z=>by rw[z,hcol] at ck;omega),fun z=>by
   obtain⟨_,_,_,_,_,_,e,_⟩:=d1
   rw[z,e] at nk;cases nk⟩
  obtain⟨k0,k1,rfl,tk0,tk1⟩:=S9 tk
  cases tk0
  cases tk1
  have K7:LKp hd ak c1 c2 w1 w2 .non .non .none .none H7:=⟨ek,.non,.non,.inl rfl,.inl rfl⟩
  clear ek tc tt tw tp r z0F ck hcol
  refine⟨_,rfl,by decide,by decide,?_⟩
  refine B71 (n:=(4:Int).toNat) (fun i σ' H'=>∃x0 x1 x2 x3 x4 x5 x6 x7 x8 x9 k0 k1 d0 d1,σ'=[z0,some (.ref hd),some vc,some vt,some vw,some (.ref ak),some vp,x0,x1,x2,x3,x4,x5,x6,x7,x8,x9]/\LSt hd hl ak c1 c2 t1 t2 w1 w2 vc vt vw vp H'/\LKp hd ak c1 c2 w1 w2 k0 k1 d0 d1 H') ⟨_,_,_,_,_,_,_,_,_,_,_,_,_,_,rfl,L7,K7⟩ ?_ ?_
  ·clear L7 K7
   rintro i σ' H' hi ⟨x0,x1,x2,x3,x4,x5,x6,x7,x8,x9,k0,k1,d0,d1',rfl,L,Kp⟩
   refine A9o (D31 fun D hD=>C23 fun W hW=>?_)
   refine⟨_,rfl,B6w (E:=E0) (fun d=>∃u:Nat,u < 2/\d=.int ((u:Nat):Int)) L.hnd (.cons (.int _) .nil) ⟨2,rfl,by decide,by decide,fun u u0 u1=>⟨u.toNat,by omega,by rw[C3b u0]⟩⟩ fun d v Ha hd' tv ka da=>?_⟩
   obtain⟨u,hu,rfl⟩:=hd'
   cases tv
   have La:=L.mv (fun b o e z=>A9n ka b o e z.1) da
   have Ka:=Kp.mv L.ne (A9n ka)
   clear L Kp ka da
   obtain⟨ac,vc1,vc2,rfl,gc,ec,tc1,tc2⟩:=B61 La.cs
   obtain⟨at',vt1,vt2,rfl,gt',et,tt1,tt2⟩:=B61 La.tb
   obtain⟨aw,vw1,vw2,rfl,gw,ew,tw1,tw2⟩:=B61 La.wk
   obtain⟨c,ts,wk,vcs,vts,vwk,kk,dk,co,hts,hwk,hvc,hvt,hvw,tcs,tts,twk,hkk,tkk,okk,hset⟩:∃(c:Cs) (ts:List Tb) (wk:List (Sp2×Sp2)) (vcs vts vwk kk:V) (dk:PyData),B2a c/\TbR c ts/\WkL c wk/\[vc1,vc2][u]?=some vcs/\[vt1,vt2][u]?=some vts/\[vw1,vw2][u]?=some vwk/\ThV (F0 hd ak) Ha vcs (csD c)/\ThV (F0 hd ak) Ha vts (.list (F8 ts))/\ThV (F0 hd ak) Ha vwk (.list (wk.map wkD))/\[k0,k1][u]?=some kk/\ThV (F0 hd ak) Ha kk dk/\B2b c wk dk/\
     ∀(Hn:Hp) (v:V) (d:PyData),Hn ak=some (.lst ([k0,k1].set u v))->(∀b o,Ha b=some o->F0 hd ak b->Hn b=some o)->ThV (F0 hd ak) Hn v d->B2b c wk d->∃k0 k1 d0 d1,LKp hd ak c1 c2 w1 w2 k0 k1 d0 d1 Hn:=by
    match u,hu with
    | 0,_=>exact⟨c1,t1,w1,vc1,vt1,vw1,k0,d0,co1,ht1,hw1,rfl,rfl,rfl,tc1,tt1,tw1,rfl,Ka.v0,Ka.o0,fun Hn v d e k t o=>⟨v,k1,d,d1',e,t,Ka.v1.mv fun b o z e=>⟨z,k b o e z⟩,o,Ka.o1⟩⟩
    | 1,_=>exact⟨c2,t2,w2,vc2,vt2,vw2,k1,d1',co2,ht2,hw2,rfl,rfl,rfl,tc2,tt2,tw2,rfl,Ka.v1,Ka.o1,fun Hn v d e k t o=>⟨k0,v,d0,d,e,Ka.v0.mv fun b o z e=>⟨z,k b o e z⟩,t,Ka.o0,o⟩⟩
   refine A9o ?_
   refine @X1 W _ _ _ _ _ hW fun W hW=>?_
   refine⟨_,rfl,_,rfl,ac,_,_,_,rfl,rfl,SqL.of ec,P0 hvc,[csD c],(fun d=>d=csD c),.cons tcs.any .nil,⟨c.m,c.ws,c.st,c.sp,c.b,rfl,rfl⟩,fun d v Hb hd' tv sab=>?_⟩
   subst hd'
   obtain⟨ar,ur,rfl,_,er,tur⟩:=U9 (show ThV (S0 Ha) Hb v (.tuple [E8 c.m c.ws,.int c.st,.list (c.sp.map J6),.list (C5 c.b)]) from tv)
   obtain⟨vl,vst,vsp,vb,rfl,tl,tst,tsp,tb⟩:=B6z tur
   cases tst
   refine⟨ar,_,rfl,SqT.of er,rfl,_,_,rfl,_,_,rfl,_,_,rfl,_,_,rfl,rfl,?_⟩
   have Lb:=La.mv (fun b o e _=>sab b o e) (La.hnd.same sab)
   have s1':=co.s1
   refine @X1 W _ _ _ _ _ hW fun W hW=>?_
   refine⟨fun σ' H'=>σ'=[z0,some (.ref hd),some (.ref ac),some (.ref at'),some (.ref aw),some (.ref ak),some vp,some (.int (0 + (i:Int))),some (.int ((u:Nat):Int)),some vl,some (.int c.st),some vsp,some vb,x6,x7,x8,x9]/\Same Hb H',?_,?_⟩
   ·refine⟨_,rfl,_,rfl,ac,_,_,_,rfl,rfl,SqL.of (sab _ _ ec),P0 hvc,[csD c],(fun d=>∃ts',TbR c ts'/\d=.list (F8 ts')),.cons (tcs.keep sab).any .nil,⟨c.m,c.ws,c.st,c.sp,c.b,rfl,co.ok,co.s0,by omega,co.so,co.hb,fun ts' h=>⟨ts',h,rfl⟩⟩,fun d v Hc hd' tv sbc=>?_⟩
    obtain⟨ts',hts',rfl⟩:=hd'
    cases hts.uniq hts'
    have L1:=D2.tbs ts
    refine⟨_,rfl,_,rfl,at',_,_,_,rfl,rfl,SqL.of (sbc _ _ (sab _ _ et)),P0 hvt,_,_,ThV.dat tv L1.1,ThV.dat ((tts.keep sab).keep sbc) L1.1,L1.1,L1.1,L1.dep (by decide) _,_,rfl,?_⟩
    rw[L1.same]
    exact G6 ⟨rfl,sbc⟩
   rintro σ' Hc ⟨rfl,sbc⟩
   refine @X1 W _ _ _ _ _ hW fun W hW=>?_
   refine⟨fun σ' H'=>σ'=[z0,some (.ref hd),some (.ref ac),some (.ref at'),some (.ref aw),some (.ref ak),some vp,some (.int (0 + (i:Int))),some (.int ((u:Nat):Int)),some vl,some (.int c.st),some vsp,some vb,x6,x7,x8,x9]/\Same Hb H',?_,?_⟩
   ·refine⟨_,rfl,_,rfl,_,rfl,_,rfl,_,rfl,_,rfl,at',_,_,_,rfl,rfl,SqL.of (sbc _ _ (sab _ _ et)),P0 hvt,B15 (E:=E0) (fun d=>d=.bool true) (.cons (tl.any.keep sbc) (.cons (.int _) (.cons (tsp.any.keep sbc) (.cons (tb.any.keep sbc) (.cons ((tts.any.keep sab).keep sbc) .nil))))) ⟨c.m,c.ws,c.st,c.sp,c.b,ts,rfl,co.ok,co.s0,co.so,co.hb,hts.lid,rfl⟩ fun d v Hx hd' tv s=>?_⟩
    subst hd'
    cases tv
    exact⟨_,_,rfl,rfl,_,rfl,G6 ⟨rfl,sbc.tr s⟩⟩
   clear sbc
   rintro σ' Hc ⟨rfl,sbc⟩
   have tl0:=tl
   obtain⟨al,ul,rfl,_,el,tul⟩:=U9 tl
   obtain⟨vm,vws,rfl,tm,tws⟩:=S9 tul
   cases tm
   obtain⟨ats,uts,rfl,gts,ets,tuts⟩:=K1 tts
   have luts:uts.length=ts.length:=by rw[tuts.len];unfold F8;rw[D5]
   have tsl:=hts.len
   have pp:=A0q c.sp.length
   have p16:=pw4 c.sp.length (by have:=co.so.few;omega)
   have hdH:∃o,Ha hd=some (.lst o):=by
    obtain⟨_,_,_,_,_,_,_,_,e⟩:=La.hnd
    exact⟨_,e⟩
   have nhd:∀b,S0 Ha b->b≠hd:=fun b hb z=>by
    obtain⟨o,e⟩:=hdH
    rw[z] at hb
    rcases hb with h | ⟨xs,h⟩
    ·rw[e] at h;cases h
    ·rw[e] at h;cases h
   have hdc:Hd Hc hd hl:=(La.hnd.same sab).same sbc
   have eac:=sbc _ _ (sab _ _ ec)
   have eat:=sbc _ _ (sab _ _ et)
   have eal:=sbc _ _ el
   have eats:=sbc _ _ (sab _ _ ets)
   refine @X1 W _ _ _ _ _ hW fun W hW=>?_
   refine⟨fun σ' H'=>σ'=[z0,some (.ref hd),some (.ref ac),some (.ref at'),some (.ref aw),some (.ref ak),some vp,some (.int (0 + (i:Int))),some (.int ((u:Nat):Int)),some (.ref al),some (.int c.st),some vsp,some vb,x6,x7,x8,x9]/\Hd H' hd hl/\∀b o,Hb b=some o->b≠hd->H' b=some o,?_,?_⟩
   ·refine⟨_,rfl,_,rfl,ac,_,_,_,rfl,rfl,SqL.of eac,P0 hvc,?_⟩
    refine⟨_,rfl,_,rfl,at',_,_,_,rfl,rfl,SqL.of eat,P0 hvt,?_⟩
    refine⟨_,rfl,_,rfl,_,rfl,at',_,_,_,rfl,rfl,SqL.of eat,P0 hvt,ats,uts,rfl,.inl (SqL.of eats),?_⟩
    refine B6w (E:=E0) (fun d=>∃s:Nat,s < 2 ^ c.sp.length/\d=.int ((s:Nat):Int)) hdc (.cons (.int _) .nil) ⟨((uts.length:Nat):Int),rfl,by omega,by omega,fun x x0 x1=>⟨x.toNat,by omega,by rw[C3b x0]⟩⟩ fun d v Hx hd' tv kx dx=>?_
    obtain⟨sx,hsx,rfl⟩:=hd'
    cases tv
    have nal:al≠hd:=fun z=>by
     obtain⟨o,e⟩:=hdH
     have e2:=sab _ _ e
     rw[<-z,el] at e2;cases e2
    refine⟨_,rfl,_,rfl,.inr (.inl ⟨al,_,0,_,rfl,rfl,SqT.of (A9n kx _ _ eal nal),rfl,?_⟩)⟩
    have m1:=co.ok.m1
    have m2:=co.ok.m2
    refine B6w (E:=E0) (fun d=>∃p:Nat,p < c.m/\d=.int ((p:Nat):Int)) dx (.cons (.int _) .nil) ⟨((c.m:Nat):Int),rfl,by omega,by omega,fun x x0 x1=>⟨x.toNat,by omega,by rw[C3b x0]⟩⟩ fun d v Hy hd' tv ky dy=>?_
    obtain⟨px,hpx,rfl⟩:=hd'
    cases tv
    have kk:∀b o,Hc b=some o->b≠hd->Hy b=some o:=fun b o e n=>A9n ky _ _ (A9n kx _ _ e n) n
    refine B15 (E:=E0) (fun d=>d=.bool true) (.cons (((tcs.keep sab).keep sbc).mv fun b o z e=>⟨trivial,kk _ _ e z.1⟩) (.cons ((((ThV.lst gts ets tuts:ThV (F0 hd ak) Ha (.ref ats) (.list (F8 ts))).keep sab).keep sbc).mv fun b o z e=>⟨trivial,kk _ _ e z.1⟩) (.cons (.int _) (.cons (.int _) .nil)))) ⟨c.m,c.ws,c.st,c.sp,c.b,ts,sx,px,rfl,co,hts,hsx,hpx,rfl⟩ fun d v Hz hd' tv sz=>?_
    subst hd'
    cases tv
    exact⟨_,rfl,G6 ⟨rfl,dy.same sz,fun b o e n=>sz _ _ (kk _ _ (sbc _ _ e) n)⟩⟩
   rintro σ' Hd ⟨rfl,dd,kbd⟩
   have kad:∀b o,Ha b=some o->b≠hd->Hd b=some o:=fun b o e n=>kbd _ _ (sab _ _ e) n
   have Ld:LSt hd hl ak c1 c2 t1 t2 w1 w2 (.ref ac) (.ref at') (.ref aw) vp Hd:=La.mv (fun b o e z=>kad b o e z.1) dd
   have Kd:=Ka.mv La.ne kad
   have tlD:ThV TT0 Hd (.ref al) (E8 c.m c.ws):=tl0.mv fun b o z e=>⟨trivial,kbd _ _ e (nhd b z)⟩
   have tspD:ThV TT0 Hd vsp (.list (c.sp.map J6)):=tsp.mv fun b o z e=>⟨trivial,kbd _ _ e (nhd b z)⟩
   have twkD:ThV (F0 hd ak) Hd vwk (.list (wk.map wkD)):=twk.mv fun b o z e=>⟨z,kad _ _ e z.1⟩
   have tkkD:ThV (F0 hd ak) Hd kk dk:=tkk.mv fun b o z e=>⟨z,kad _ _ e z.1⟩
   have ewD:=kad _ _ ew gw.1
   have new:∀b,Hd b=none->Ha b=none:=fun b h=>by
    cases z:Ha b with
    | none=>rfl
    | some o=>
     by_cases n:b=hd
     ·obtain⟨_,_,_,_,_,_,_,_,e⟩:=dd
      rw[n,e] at h;cases h
     ·rw[kad _ _ z n] at h;cases h
   have hdD:∃o,Hd hd=some (.lst o):=by
    obtain⟨_,_,_,_,_,_,_,_,e⟩:=dd
    exact⟨_,e⟩
   have nF:∀b,Hd b=none->F0 hd ak b:=fun b h=>⟨(fun z=>by obtain⟨o,e⟩:=hdD;rw[z,e] at h;cases h),fun z=>by rw[z,Kd.ek] at h;cases h⟩
   obtain⟨awk,uwk,rfl,gwk,ewk,tuwk⟩:=K1 twkD
   have luw:uwk.length=wk.length:=by rw[tuwk.len,D5]
   have lw2:=hwk.1
   have s1c:=co.s1
   refine @X1 W _ _ _ _ _ hW fun W hW=>?_
   refine⟨_,rfl,_,rfl,aw,_,_,_,rfl,rfl,SqL.of ewD,P0 hvw,awk,rfl,⟨uwk,SqL.of ewk⟩,?_⟩
   refine A7g (xs:=uwk) (fun i ys Hn=>Same Hd Hn/\∃nss,Z3 (A4j c.m c.ws c.st c.sp) (wk.take i) nss/\A9 (fun b=>Hd b=none) Hn ys (J7 nss)) ?_ ⟨fun _ _ e=>e,[],.nil,.nil⟩ ?_ ?_ ?_
   ·rw[luw,sizeLine_eq];omega
   ·rintro j ys Hn hj ⟨h1,nss,h2,h3⟩
    refine⟨?_,SqL.of (h1 _ _ ewk)⟩
    have:=A9k h2
    rw[h3.len]
    unfold J7
    rw[D5,this,e9]
    omega
   ·rintro j x ys Hn hx ⟨h1,nss,h2,h3⟩ ca
    obtain⟨d,hd',tx⟩:=A4k tuwk hx
    rw[M7] at hd'
    obtain⟨z,hz,rfl⟩:=A4q.mp hd'
    obtain⟨w1',w2',w3',w4'⟩:=hwk.2 z (O2 hz)
    unfold A2u
    refine J0 ⟨_,rfl,_,rfl,_,rfl,_,rfl,C2w (E:=E0) (fun s=>∃ts,V8 c.m c.ws c.st c.sp (A09 c.m z.1) ts/\s=.ow (D4 (d9 z.2 0 [] ts))) (.cons (tlD.keep h1) (.cons (.int _) (.cons (tspD.keep h1) (.cons (tx.any.keep h1) .nil)))) ⟨c.m,c.ws,c.st,c.sp,z.1,z.2,rfl,co.ok,co.s0,by omega,co.so,w1',w2',w3',w4',fun ts hT=>⟨ts,hT,rfl⟩⟩ fun s v H' hs nr s'=>?_⟩
    obtain⟨ts',hT,rfl⟩:=hs
    obtain⟨a',vs,rfl,an,ea,tvs⟩:=nr
    refine⟨h1.tr s',nss++[d9 z.2 0 [] ts'],?_,?_⟩
    ·rw[A63,hz]
     exact B6x h2 ⟨ts',hT,rfl⟩
    ·unfold J7
     rw[O5]
     exact (h3.keep s').append (.cons (.lst (h1.early an) ea (B17 tvs)) .nil)
   rintro ys Hn ⟨h1,nss,hR,h3⟩ an han
   rw[luw,A64] at hR
   have nsl:=A9k hR
   obtain⟨He,hHe⟩:∃He,He=upd Hn an (.lst ys):=⟨_,rfl⟩
   rw[<-hHe]
   have sne:Same Hn He:=by rw[hHe];exact Same.upd han
   have sde:Same Hd He:=h1.tr sne
   have tn:ThV (fun b=>Hd b=none) He (.ref an) (.list (J7 nss)):=.lst (h1.early han) (by rw[hHe];exact E4) (h3.keep sne)
   have ean:He an=some (.lst ys):=by rw[hHe];exact E4
   have tys:A9 (fun b=>Hd b=none) He ys (J7 nss):=h3.keep sne
   clear h1 h3 hHe
   refine A9o ?_
   refine @X1 W _ _ _ _ _ hW fun W hW=>?_
   refine⟨_,rfl,_,rfl,aw,_,_,_,rfl,rfl,SqL.of (sde _ _ ewD),P0 hvw,awk,uwk,rfl,.inl (SqL.of (sde _ _ ewk)),fun ah hah=>?_⟩
   obtain⟨Hf,hHf⟩:∃Hf,Hf=upd He ah (.lst uwk):=⟨_,rfl⟩
   rw[<-hHf]
   have sef:Same He Hf:=by rw[hHf];exact Same.upd hah
   have sdf:=sde.tr sef
   have th:ThV TT0 Hf (.ref ah) (.list (wk.map wkD)):=.lst trivial (by rw[hHf];exact E4) (tuwk.any.keep sdf)
   refine A9o ?_
   refine @X1 W _ _ _ _ _ hW fun W hW=>?_
   refine⟨_,rfl,_,rfl,_,rfl,_,rfl,[E8 c.m c.ws,.int c.st,.list (c.sp.map J6),.list (wk.map wkD)],(fun d=>∃nss',Z3 (A4j c.m c.ws c.st c.sp) wk nss'/\d=A1f nss'),.cons (tlD.keep sdf) (.cons (.int _) (.cons (tspD.keep sdf) (.cons th .nil))),⟨c.m,c.ws,c.st,c.sp,wk,rfl,co.ok,co.s0,by omega,co.so,hwk.2,by omega,fun nss' h=>⟨nss',h,rfl⟩⟩,fun d v Hg hd' tv sfg=>?_⟩
   obtain⟨nss',hR',rfl⟩:=hd'
   cases B60 hR hR'
   clear hR'
   have sdg:=sdf.tr sfg
   have seg:=sef.tr sfg
   obtain⟨tag,items,eshr,hit,htag⟩:=D3z nss
   have tv0:=tv
   rw[eshr] at tv
   obtain⟨af,uf,rfl,gf,eaf,tuf⟩:=U9 tv
   obtain⟨vtag,v1,rfl,ttag,t1'⟩:=S9 tuf
   cases ttag
   obtain⟨a1,u1,rfl,g1,ea1,tu1⟩:=K1 t1'
   have a1n:Hf a1=none:=A6x sfg g1 ea1
   have ekg:=sdg _ _ Kd.ek
   refine A9o ?_
   refine @X1 W _ _ _ _ _ hW fun W hW=>?_
   refine⟨fun σ' H'=>σ'=[z0,some (.ref hd),some (.ref ac),some (.ref at'),some (.ref aw),some (.ref ak),some vp,some (.int (0 + (i:Int))),some (.int ((u:Nat):Int)),some (.ref al),some (.int c.st),some vsp,some vb,some (.ref an),some (.ref ah),some (.ref af),x9]/\Same Hg H',?_,?_⟩
   ·have L1:=D2.wks wk
    have L2:=D2.css c1 c2
    refine⟨_,rfl,_,rfl,_,rfl,aw,_,_,_,rfl,rfl,SqL.of (sdg _ _ ewD),P0 hvw,_,_,ThV.dat (th.keep sfg) L1.1,ThV.dat (ThV.keep (.lst gwk ewk tuwk) sdg) L1.1,L1.1,L1.1,L1.dep (by decide) _,_,rfl,?_⟩
    rw[L1.same]
    refine G6 ⟨_,rfl,_,rfl,_,_,ThV.dat (Ld.cp.keep sdg) L2.1,ThV.dat (Ld.cs.keep sdg) L2.1,L2.1,L2.1,L2.dep (by decide) _,_,rfl,?_⟩
    rw[L2.same]
    exact G6 ⟨rfl,fun _ _ e=>e⟩
   rintro σ' Hi ⟨rfl,sgi⟩
   have sdi:=sdg.tr sgi
   have tnI:ThV TT0 Hi (.ref an) (.list (J7 nss)):=(tn.any.keep seg).keep sgi
   have tfI:ThV TT0 Hi (.ref af) (A1f nss):=tv0.any.keep sgi
   refine @X1 W _ _ _ _ _ hW fun W hW=>?_
   refine⟨fun σ' H'=>σ'=[z0,some (.ref hd),some (.ref ac),some (.ref at'),some (.ref aw),some (.ref ak),some vp,some (.int (0 + (i:Int))),some (.int ((u:Nat):Int)),some (.ref al),some (.int c.st),some vsp,some vb,some (.ref an),some (.ref ah),some (.ref af),x9]/\Same Hg H',?_,?_⟩
   ·refine⟨_,rfl,_,rfl,ak,_,_,_,rfl,rfl,SqL.of (sgi _ _ ekg),P0 hkk,rfl,_,rfl,?_⟩
    rcases okk with rfl | ⟨nss',hR',rfl⟩
    ·cases tkkD
     exact G6 (G6 ⟨rfl,sgi⟩)
    ·cases B60 hR hR'
     obtain⟨akk,ukk,rfl,gkk,ekk,tukk⟩:=U9 tkkD
     rw[show decide (V.ref akk=V.non)=false from decide_eq_false fun z=>by cases z]
     refine J0 ⟨_,rfl,_,rfl,ak,_,_,_,rfl,rfl,SqL.of (sgi _ _ ekg),P0 hkk,_,rfl,_,rfl,by show 2<=sizeLine;decide,fun p hp=>?_⟩
     have L1:=D2.kd nss
     have sp':Same Hi (upd Hi p (.tup [.ref an,.ref af])):=Same.upd hp
     refine⟨_,_,ThV.dat ((ThV.keep (.tup gkk ekk tukk:ThV (F0 hd ak) Hd (.ref akk) (kD nss)) sdi).keep sp') L1.1,ThV.dat (F:=TT0) (.tup trivial E4 (.cons (tnI.keep sp') (.cons (tfI.keep sp') .nil))) L1.1,L1.1,L1.1,L1.dep (by decide) _,_,rfl,?_⟩
     rw[show PyData.tuple [.list (J7 nss),A1f nss]=kD nss from rfl,L1.same]
     exact G6 ⟨rfl,sgi.tr sp'⟩
   clear tnI tfI sdi sgi
   rintro σ' Hi ⟨rfl,sgi⟩
   have sdi:=sdg.tr sgi
   have sei:=seg.tr sgi
   refine @X1 W _ _ _ _ _ hW fun W hW=>?_
   refine⟨_,rfl,an,rfl,⟨ys,SqL.of (sei _ _ ean)⟩,?_⟩
   have lys:ys.length=nss.length:=by rw[tys.len];unfold J7;rw[D5]
   refine A7g (xs:=ys) (fun j zs Hn=>Same Hi Hn/\A9 (fun b=>Hi b=none) Hn zs (J7 (nss.take j))) ?_ ⟨fun _ _ e=>e,.nil⟩ ?_ ?_ ?_
   ·rw[lys,sizeLine_eq];omega
   ·rintro j zs Hn hj ⟨h1,h2⟩
    refine⟨?_,SqL.of (h1 _ _ (sei _ _ ean))⟩
    rw[h2.len]
    unfold J7
    rw[D5,e9]
    omega
   ·rintro j x zs Hn hx ⟨h1,h2⟩ ca
    obtain⟨d,hd',tx⟩:=A4k tys hx
    unfold J7 at hd'
    rw[M7] at hd'
    obtain⟨n,hn,rfl⟩:=A4q.mp hd'
    obtain⟨cx,xs,rfl,_,ecx,txs⟩:=K1 tx
    unfold A2u
    refine J0 ⟨_,rfl,cx,xs,rfl,.inl (SqL.of (h1 _ _ (sei _ _ ecx))),fun l hl'=>⟨h1.tr (Same.upd hl'),?_⟩⟩
    rw[A63,hn]
    unfold J7
    rw[O5]
    exact (h2.keep (Same.upd hl')).append (.cons (.lst (h1.early hl') E4 (B17 txs)) .nil)
   rintro zs Hn ⟨h1,h2⟩ b1 hb1
   rw[lys,A64] at h2
   obtain⟨Hj,hHj⟩:∃Hj,Hj=upd Hn b1 (.lst zs):=⟨_,rfl⟩
   rw[<-hHj]
   have snj:Same Hn Hj:=by rw[hHj];exact Same.upd hb1
   have sij:=h1.tr snj
   have tb1:ThV (fun b=>Hi b=none) Hj (.ref b1) (.list (J7 nss)):=.lst (h1.early hb1) (by rw[hHj];exact E4) (h2.keep snj)
   clear h1 h2 hHj
   have sgj:=sgi.tr sij
   refine⟨_,rfl,.inr (.inl ⟨af,_,0,_,rfl,rfl,SqT.of (sgj _ _ eaf),rfl,?_⟩)⟩
   refine⟨_,rfl,.inr (.inl ⟨af,_,1,_,rfl,rfl,SqT.of (sgj _ _ eaf),rfl,?_⟩)⟩
   have lu1:u1.length<=3:=by
    rw[tu1.len]
    rcases htag with ⟨_,rfl⟩ | ⟨_,r,er,rfl⟩
    ·unfold J7;rw[D5];omega
    ·rw[d8,A9l _ _ _ er];omega
   have tu1n:=B62 ea1 hit (fun x hx=>hx) tu1
   refine⟨a1,rfl,⟨u1,SqL.of (sgj _ _ ea1)⟩,?_⟩
   refine A7g (xs:=u1) (fun j zs Hn=>Hn=Hj/\zs=u1.take j) ?_ ⟨rfl,rfl⟩ ?_ ?_ ?_
   ·rw[sizeLine_eq];omega
   ·rintro j zs Hn hj ⟨rfl,rfl⟩
    exact⟨by rw[e9];omega,SqL.of (sgj _ _ ea1)⟩
   ·rintro j x zs Hn hx ⟨rfl,rfl⟩ ca
    unfold A2u
    refine J0 ⟨_,rfl,rfl,?_⟩
    rw[A63,hx];rfl
   rintro zs Hn ⟨rfl,rfl⟩ b2 hb2
   rw[A64]
   obtain⟨Hk,hHk⟩:∃Hk,Hk=upd Hn b2 (.lst u1):=⟨_,rfl⟩
   rw[<-hHk]
   have sjk:Same Hn Hk:=by rw[hHk];exact Same.upd hb2
   have eb2:Hk b2=some (.lst u1):=by rw[hHk];exact E4
   clear hHk
   refine⟨by show 2<=sizeLine;decide,fun p1 hp1=>?_⟩
   obtain⟨Hl,hHl⟩:∃Hl,Hl=upd Hk p1 (.tup [.str tag,.ref b2]):=⟨_,rfl⟩
   rw[<-hHl]
   have skl:Same Hk Hl:=by rw[hHl];exact Same.upd hp1
   have ep1:Hl p1=some (.tup [.str tag,.ref b2]):=by rw[hHl];exact E4
   clear hHl
   refine⟨by show 2<=sizeLine;decide,fun p2 hp2=>?_⟩
   obtain⟨Hm,hHm⟩:∃Hm,Hm=upd Hl p2 (.tup [.ref b1,.ref p1]):=⟨_,rfl⟩
   rw[<-hHm]
   have slm:Same Hl Hm:=by rw[hHm];exact Same.upd hp2
   have ep2:Hm p2=some (.tup [.ref b1,.ref p1]):=by rw[hHm];exact E4
   clear hHm
   have sjm:=(sjk.tr skl).tr slm
   have sgm:=sgj.tr sjm
   have sdm:=sdg.tr sgm
   have sem:=seg.tr sgm
   have ekm:=sdm _ _ Kd.ek
   have lk:[k0,k1].length=2:=rfl
   refine⟨_,rfl,_,rfl,ak,_,_,u,rfl,rfl,ekm,A6r (by rw[lk];exact hu),?_⟩
   obtain⟨Ho,hHo⟩:∃Ho,Ho=upd Hm ak (.lst ([k0,k1].set u (.ref p2))):=⟨_,rfl⟩
   rw[<-hHo]
   have fmo:∀b o,Hm b=some o->b≠ak->Ho b=some o:=fun b o e n=>by rw[hHo,C1 n];exact e
   have eko:Ho ak=some (.lst ([k0,k1].set u (.ref p2))):=by rw[hHo];exact E4
   clear hHo
   have nak:∀{b:Addr},Hd b=none->b≠ak:=fun {b} h z=>by rw[z,Kd.ek] at h;cases h
   have afn:af≠ak:=fun z=>by rw[z,ekg] at eaf;cases eaf
   have a1k:a1≠ak:=nak (sdf.early a1n)
   have eaf':=fmo _ _ (sgm _ _ eaf) afn
   have ea1':=fmo _ _ (sgm _ _ ea1) a1k
   have gan:Hd an=none:=by
    obtain⟨_,_,e1,g,_⟩:=K1 tn
    cases e1
    exact g
   have ean':=fmo _ _ (sem _ _ ean) (nak gan)
   have tysO:A9 (fun b=>Hd b=none) Ho ys (J7 nss):=tys.mv fun b o z e=>⟨z,fmo _ _ (sem _ _ e) (nak z)⟩
   have tu1O:A9 (fun b=>S0 Hf b/\b≠a1) Ho u1 items:=tu1n.mv fun b o z e=>⟨z,fmo _ _ (sgm _ _ e) (fun y=>by
    rw[y] at z
    rcases z.1 with h | ⟨xs,h⟩
    ·rw[sdf _ _ Kd.ek] at h;cases h
    ·rw[sdf _ _ Kd.ek] at h;cases h)⟩
   refine @X1 W _ _ _ _ _ hW fun W hW=>?_
   refine⟨fun σ' H'=>σ'=[z0,some (.ref hd),some (.ref ac),some (.ref at'),some (.ref aw),some (.ref ak),some vp,some (.int (0 + (i:Int))),some (.int ((u:Nat):Int)),some (.ref al),some (.int c.st),some vsp,some vb,some (.ref an),some (.ref ah),some (.ref af),x9]/\H'=Ho,?_,?_⟩
   ·refine⟨_,rfl,.inr (.inl ⟨af,_,0,_,rfl,rfl,SqT.of eaf',rfl,rfl,_,rfl,?_⟩)⟩
    rcases htag with ⟨rfl,rfl⟩ | ⟨rfl,r,er,rfl⟩
    ·rw[show decide (V.str "not" = V.str "not")=true from decide_eq_true rfl]
     have L1:=D2.nss nss
     refine J0 ⟨_,rfl,.inr (.inl ⟨af,_,1,_,rfl,rfl,SqT.of eaf',rfl,_,rfl,_,_,ThV.dat (F:=TT0) (.lst trivial ea1' tu1O.any) L1.1,ThV.dat (F:=TT0) (.lst trivial ean' tysO.any) L1.1,L1.1,L1.1,L1.dep (by decide) _,_,rfl,?_⟩)⟩
     rw[L1.same]
     exact G6 ⟨rfl,rfl⟩
    ·rw[show decide (V.str "all" = V.str "not")=false from decide_eq_false (by decide)]
     exact G6 (G6 ⟨rfl,rfl⟩)
   rintro σ' H' ⟨rfl,rfl⟩
   refine @X1 W _ _ _ _ _ hW fun W hW=>?_
   refine⟨_,rfl,.inr (.inl ⟨af,_,1,_,rfl,rfl,SqT.of eaf',rfl,.inl ⟨rfl,u1,SqL.of ea1'⟩,a1,u1,.int 0,rfl,rfl,ea1',by rw[sizeLine_eq];omega,?_⟩)⟩
   obtain⟨Hq,hHq⟩:∃Hq,Hq=upd H' a1 (.lst (u1++[.int 0])):=⟨_,rfl⟩
   rw[<-hHq]
   have foq:∀b o,H' b=some o->b≠a1->Hq b=some o:=fun b o e n=>by rw[hHq,C1 n];exact e
   clear hHq
   have na1:∀{b:Addr} {o:HO},Hf b=some o->b≠a1:=fun {b o} e z=>by rw[z,a1n] at e;cases e
   have tyq:A9 (fun b=>Hd b=none) Hq ys (J7 nss):=tys.mv fun b o z e=>⟨z,foq _ _ (fmo _ _ (sem _ _ e) (nak z)) (na1 (sef _ _ e))⟩
   have inHe:∀{x:V},x∈ys->∃b l,x=.ref b/\He b=some (.lst l)/\b≠an:=fun {x} hx=>by
    have tysn:=B62 ean (ds:=J7 nss) (fun d hd=>by
     unfold J7 at hd
     obtain⟨n,_,rfl⟩:=S5.mp hd
     exact .inr ⟨n,rfl⟩) (fun x hx=>hx) tys
    obtain⟨j,hj,rfl⟩:=A0t.mp hx
    obtain⟨d,hd',tx⟩:=A4k tysn (K3 hj)
    unfold J7 at hd'
    rw[M7] at hd'
    obtain⟨n,hn,rfl⟩:=A4q.mp hd'
    obtain⟨cx,xs,e1,gx,ecx,txs⟩:=K1 tx
    exact⟨cx,xs,e1,ecx,gx.2⟩
   have eanq:=foq _ _ ean' (na1 (sef _ _ ean))
   subst hW
   refine⟨_,rfl,an,rfl,⟨ys,SqL.of eanq⟩,?_⟩
   have six:=B6v co.so hR
   refine C38 (xs:=ys) (fun j σ' H''=>∃x9,σ'=[z0,some (.ref hd),some (.ref ac),some (.ref at'),some (.ref aw),some (.ref ak),some vp,some (.int (0 + (i:Int))),some (.int ((u:Nat):Int)),some (.ref al),some (.int c.st),some vsp,some vb,some (.ref an),some (.ref ah),some (.ref af),x9]/\(∀b o,Hq b=some o->(∀x∈ys,x≠.ref b)->H'' b=some o)/\∀x∈ys,∃b xs,x=.ref b/\Hd b=none/\H'' b=some (.lst xs)/\xs.length<=100 + j) ⟨_,rfl,fun b o e _=>e,?_⟩ ?_ ?_ ?_
   ·intro x hx
    obtain⟨j,hj,rfl⟩:=A0t.mp hx
    obtain⟨d,hd',tx⟩:=A4k tyq (K3 hj)
    unfold J7 at hd'
    rw[M7] at hd'
    obtain⟨n,hn,rfl⟩:=A4q.mp hd'
    obtain⟨cx,xs,e1,gx,ecx,txs⟩:=K1 tx
    refine⟨cx,xs,e1,gx,ecx,?_⟩
    have:=six n (O2 hn)
    rw[txs.len,d8];omega
   ·rintro j σ' H'' hj ⟨x9,rfl,fr,_⟩
    refine SqL.of (fr _ _ eanq fun x hx z=>?_)
    obtain⟨b,l,e1,_,nb⟩:=inHe hx
    rw[z] at e1
    cases e1
    exact nb rfl
   ·rintro j x σ' H'' hx ⟨x9,rfl,fr,ls⟩
    have hxm:x∈ys:=O2 hx
    obtain⟨b,xs,rfl,gb,eb,lb⟩:=ls x hxm
    have lj:j < ys.length:=(m9.mp hx).1
    refine⟨_,rfl,.inl ⟨rfl,xs,SqL.of eb⟩,b,xs,.int 7,rfl,rfl,eb,by rw[sizeLine_eq];omega,_,rfl,fun b' o e n=>?_,fun y hy=>?_⟩
    ·rw[C1 (fun z=>n (.ref b) hxm (by rw[z]))]
     exact fr _ _ e n
    ·obtain⟨b',xs',rfl,gb',eb',lb'⟩:=ls y hy
     by_cases z:b'=b
     ·subst z
      rw[eb] at eb'
      cases eb'
      exact⟨b',_,rfl,gb',E4,by rw[M4];show _ + 1<=_;omega⟩
     ·exact⟨b',xs',rfl,gb',by rw[C1 z];exact eb',by omega⟩
   ·rintro σ' H'' ⟨x9,rfl,fr,ls⟩
    have nys:∀{b:Addr} {o:HO},Hd b=some o->∀x∈ys,x≠.ref b:=fun {b o} e x hx z=>by
     obtain⟨b',xs,e1,gb,_⟩:=ls x hx
     rw[z] at e1
     cases e1
     rw[gb] at e;cases e
    have fin:∀b o,Hd b=some o->b≠ak->H'' b=some o:=fun b o e n=>fr _ _ (foq _ _ (fmo _ _ (sdm _ _ e) n) (na1 (sdf _ _ e))) (nys e)
    have finA:∀b o,Ha b=some o->F0 hd ak b->H'' b=some o:=fun b o e z=>fin _ _ (kad _ _ e z.1) z.2
    have eakF:H'' ak=some (.lst ([k0,k1].set u (.ref p2))):=fr _ _ (foq _ _ eko (na1 (sdf _ _ Kd.ek))) (nys Kd.ek)
    have hdF:My.Hd H'' hd hl:=by
     obtain⟨a1,a2,a3,a4,a5,a6,e1,h,e2⟩:=dd
     exact⟨a1,a2,a3,a4,a5,a6,fin _ _ e1 (fun z=>Ld.ne2 z.symm),h,fin _ _ e2 (fun z=>Ld.ne z.symm)⟩
    have nyo:∀{b:Addr},(∀l,He b≠some (.lst l))->∀x∈ys,x≠.ref b:=fun {b} h x hx z=>by
     obtain⟨b',l,e1,e2,_⟩:=inHe hx
     rw[z] at e1
     cases e1
     exact h l e2
    have sim:=sij.tr sjm
    have go1:∀b o,Hm b=some o->Hi b=none->H'' b=some o:=fun b o e n=>fr _ _ (foq _ _ (fmo _ _ e (nak (sdi.early n))) (fun z=>by rw[z,sgi _ _ ea1] at n;cases n)) (nyo fun l e=>by rw[sei _ _ e] at n;cases n)
    have tK:ThV (F0 hd ak) H'' (.ref p2) (kD nss):=by
     have p2n:=(sij.tr (sjk.tr skl)).early hp2
     have p1n:=(sij.tr sjk).early hp1
     have b2n:=sij.early hb2
     refine .tup (nF _ (sdi.early p2n)) (go1 _ _ ep2 p2n) (.cons (tb1.mv fun b o z e=>⟨nF _ (sdi.early z),go1 _ _ (sjm _ _ e) z⟩) (.cons ?_ .nil))
     rw[eshr]
     refine .tup (nF _ (sdi.early p1n)) (go1 _ _ (slm _ _ ep1) p1n) (.cons (.str _) (.cons (.lst (nF _ (sdi.early b2n)) (go1 _ _ ((skl.tr slm) _ _ eb2) b2n) ?_) .nil))
     refine tu1n.mv fun b o z e=>?_
     have nl:∀{l:List V},Hf b≠some (.lst l):=fun {l} h=>by
      rcases z.1 with y | ⟨xs,y⟩
      ·rw[y] at h;cases h
      ·rw[y] at h;cases h
     have bk:b≠ak:=fun y=>nl (by rw[y];exact sdf _ _ Kd.ek)
     have bh:b≠hd:=fun y=>by
      obtain⟨o',e'⟩:=hdD
      exact nl (by rw[y];exact sdf _ _ e')
     exact⟨⟨bh,bk⟩,fr _ _ (foq _ _ (fmo _ _ (sgm _ _ e) bk) z.2) (nyo fun l e'=>nl (sef _ _ e'))⟩
    subst hD
    obtain⟨k0',k1',d0',d1'',KF⟩:=hset H'' (.ref p2) (kD nss) eakF finA tK (.inr ⟨nss,hR,rfl⟩)
    exact⟨_,_,_,_,_,_,_,_,_,_,k0',k1',d0',d1'',rfl,La.mv finA hdF,KF⟩
  ·rintro σ' H' ⟨x0,x1,x2,x3,x4,x5,x6,x7,x8,x9,k0,k1,d0,d1',rfl,L,Kp⟩
   subst hV7
   exact k _
theorem all_mk {l:PySem.W.OpenLaw} {w:World} {K:B3} {h:Heap} {mg:Str->Option Value} {fa:Addr} (X:K.In h) (G:h.Ns mainGlobals mg) (hfa:mg "law" = some (.ref fa))
  (h0:FH K "is_whole" B4w)
  (h1:FH K "is_level" B4x)
  (h2:FH K "stepped" B4y)
  (h3:FH K "levels_along" B4z)
  (h4:FH K "is_place" B40)
  (h5:FH K "changes_of" B04)
  (h6:FH K "base_at" B41)
  (h7:FH K "has_enough" B42)
  (h8:FH K "effect_of_none" B43)
  (h9:FH K "effect_of_one" B44)
  (h10:FH K "effect_of" B45)
  (h11:FH K "passed" B46)
  (h12:FH K "joined" B47)
  (h13:FH K "is_table" B05)
  (h14:FH K "are_tables" B06)
  (h15:FH K "is_more" B48)
  (h16:FH K "behind_way" B49)
  (h17:FH K "first_row" B5a)
  (h18:FH K "row_behind" B5b)
  (h19:FH K "walk_to" B5c)
  (h20:FH K "behind_ways" B5d)
  (h21:FH K "behind_part" B5e)
  (h22:FH K "end_of" B5f)
  (h23:FH K "rows_from" B5g)
  (h24:FH K "still_rises" B5h)
  (h25:FH K "rising_walk" B07)
  (h26:FH K "parted_at_round" B08)
  (h27:FH K "parts_by" B5i)
  (h28:FH K "filling_parts" B5j)
  (h29:FH K "settled" B09)
  (h30:FH K "highest" B5k)
  (h31:FH K "trip_to" B1a)
  (h32:FH K "trips_to" B1b)
  (h33:FH K "covers" B1c)
  (h34:FH K "leads_within" B1d)
  (h35:FH K "is_closed" B5l)
  (h36:FH K "alone" B5m)
  (h37:FH K "numbers_in" B1e)
  (h38:FH K "level_by_spring" B5n)
  (h39:FH K "base_by" B5o)
  (h40:FH K "highest_by" B5p)
  (h41:FH K "last_spring" B1f)
  (h42:FH K "trip_by" B5q)
  (h43:FH K "is_spring_lid" A88)
  (h44:FH K "is_part" B5r)
  (h45:FH K "needs_of" B1g)
  (h46:FH K "first_shares" B5s)
  (h47:FH K "shared" B1h)
  (h48:FH K "_law_hand" B5t)
  (h49:FH K "_law_next" B5u)
  (h50:FH K "_law_take" B5v)
  (h51:FH K "_law_draw" B5w)
  (h52:FH K "_law_scale" B5x)
  (h53:FH K "_law_change" B5y)
  (h54:FH K "_law_store" B5z)
  (h55:FH K "_law_land" B50)
  (h56:FH K "_law_table" B1i)
  (h57:FH K "_law_springs" B51)
  (h58:FH K "_law_spring_case" B52)
  (h59:FH K "_law_walker" B53)
  (h60:FH K "_law_effect" B54)
  (h61:FH K "_law_times" B55)
  (h62:FH K "_law_arrive" B56)
  (h63:FH K "_law_arrive_by" B57)
  (h64:FH K "_law_is_whole" B58)
  (h65:FH K "_law_other" A89)
  (h66:FH K "_law_copied" B59)
  (h67:FH K "_law_tables" B1j)
  (h68:FH K "_law_trip_good" B6a)
  {f69:Addr} {od69 an69:Option Addr} {sl69:Array (Option Value)} {oc69 kV69 dc69 pm69 cd69 ct69:Value} (a69:K9 K mainGlobals "law" = some (some (.ref f69))) (l69:K.lookup f69=some ⟨oc69,od69,.func (A4n "law" "law" (A4w d5) (A0y d5) (C2 d5) .none kV69 dc69 pm69 an69 cd69 ct69),sl69⟩) (c69:B66 K cd69 "law" = true) (k69:B64 K (.ref f69)=true)
  {tk_MANY:Tok} (q_MANY:K9 K mainGlobals "MANY" = some (some (.int 0 tk_MANY)))
  {tk_WAYS:Tok} (q_WAYS:K9 K mainGlobals "WAYS" = some (some (.int 1 tk_WAYS)))
  {tk_START:Tok} (q_START:K9 K mainGlobals "START" = some (some (.int 0 tk_START)))
  {tk_END:Tok} (q_END:K9 K mainGlobals "END" = some (some (.int 1 tk_END)))
  {tk_CHANGE:Tok} (q_CHANGE:K9 K mainGlobals "CHANGE" = some (some (.int 2 tk_CHANGE)))
  {tk_PLACE_spots:Tok} (q_PLACE_spots:K9 K mainGlobals "PLACE_spots" = some (some (.int 0 tk_PLACE_spots)))
  {tk_LEVEL:Tok} (q_LEVEL:K9 K mainGlobals "LEVEL" = some (some (.int 1 tk_LEVEL)))
  {tk_LEAST:Tok} (q_LEAST:K9 K mainGlobals "LEAST" = some (some (.int 0 tk_LEAST)))
  {tk_GAIN:Tok} (q_GAIN:K9 K mainGlobals "GAIN" = some (some (.int 1 tk_GAIN)))
  {tk_TOP:Tok} (q_TOP:K9 K mainGlobals "TOP" = some (some (.int 2 tk_TOP)))
  {tk_TABLE:Tok} (q_TABLE:K9 K mainGlobals "TABLE" = some (some (.int 0 tk_TABLE)))
  {tk_RISEN:Tok} (q_RISEN:K9 K mainGlobals "RISEN" = some (some (.int 1 tk_RISEN)))
  {tk_FROM:Tok} (q_FROM:K9 K mainGlobals "FROM" = some (some (.int 0 tk_FROM)))
  {tk_BY:Tok} (q_BY:K9 K mainGlobals "BY" = some (some (.int 1 tk_BY)))
  {tk_NUMBERS:Tok} (q_NUMBERS:K9 K mainGlobals "NUMBERS" = some (some (.int 0 tk_NUMBERS)))
  {tk_TIMES:Tok} (q_TIMES:K9 K mainGlobals "TIMES" = some (some (.int 1 tk_TIMES)))
  {tk_PLACE_springs:Tok} (q_PLACE_springs:K9 K mainGlobals "PLACE_springs" = some (some (.int 0 tk_PLACE_springs)))
  {tk_GIFT:Tok} (q_GIFT:K9 K mainGlobals "GIFT" = some (some (.int 1 tk_GIFT)))
  {tk_BEGIN:Tok} (q_BEGIN:K9 K mainGlobals "BEGIN" = some (some (.int 0 tk_BEGIN)))
  {tk_GOAL:Tok} (q_GOAL:K9 K mainGlobals "GOAL" = some (some (.int 1 tk_GOAL)))
  {tk_USE:Tok} (q_USE:K9 K mainGlobals "USE" = some (some (.str "use" tk_USE)))
  (z_abs:K9 K mainGlobals "abs" = some none)
  (z_all:K9 K mainGlobals "all" = some none)
  (z_any:K9 K mainGlobals "any" = some none)
  (z_bool:K9 K mainGlobals "bool" = some none)
  (z_enumerate:K9 K mainGlobals "enumerate" = some none)
  (z_int:K9 K mainGlobals "int" = some none)
  (z_isinstance:K9 K mainGlobals "isinstance" = some none)
  (z_len:K9 K mainGlobals "len" = some none)
  (z_list:K9 K mainGlobals "list" = some none)
  (z_max:K9 K mainGlobals "max" = some none)
  (z_min:K9 K mainGlobals "min" = some none)
  (z_range:K9 K mainGlobals "range" = some none)
  (z_reversed:K9 K mainGlobals "reversed" = some none)
  (z_tuple:K9 K mainGlobals "tuple" = some none)
  (z_zip:K9 K mainGlobals "zip" = some none) :
  ∃fd:FuncData,(∀(s:Shared) (v:Value),BindsTo s fd ⟨[v],[]⟩ [("_law_script",v)])/\∀base:Heap,K.In base->base.Ns mainGlobals mg->D0 l.prog w K mg base CX0 14 fa fd ["_law_script"] (B13 K):=by
 have e:=hfa.symm.trans (S4 X G a69)
 cases e
 obtain⟨t0⟩:=FT.of (ps:=["thing"]) X G h0 (fun _ _ _ _ _ _ us hl=>by obtain⟨_,rfl⟩:=c9 hl;rfl)
 obtain⟨t1⟩:=FT.of (ps:=["store", "thing"]) X G h1 (fun _ _ _ _ _ _ us hl=>by obtain⟨_,_,rfl⟩:=R8 hl;rfl)
 obtain⟨t2⟩:=FT.of (ps:=["store", "level", "change"]) X G h2 (fun _ _ _ _ _ _ us hl=>by obtain⟨_,_,_,rfl⟩:=W8 hl;rfl)
 obtain⟨t3⟩:=FT.of (ps:=["store", "level", "changes"]) X G h3 (fun _ _ _ _ _ _ us hl=>by obtain⟨_,_,_,rfl⟩:=W8 hl;rfl)
 obtain⟨t4⟩:=FT.of (ps:=["many", "thing"]) X G h4 (fun _ _ _ _ _ _ us hl=>by obtain⟨_,_,rfl⟩:=R8 hl;rfl)
 obtain⟨t5⟩:=FT.of (ps:=["land", "numbers"]) X G h5 (fun _ _ _ _ _ _ us hl=>by obtain⟨_,_,rfl⟩:=R8 hl;rfl)
 obtain⟨t6⟩:=FT.of (ps:=["many", "spot"]) X G h6 (fun _ _ _ _ _ _ us hl=>by obtain⟨_,_,rfl⟩:=R8 hl;rfl)
 obtain⟨t7⟩:=FT.of (ps:=["table", "goal"]) X G h7 (fun _ _ _ _ _ _ us hl=>by obtain⟨_,_,rfl⟩:=R8 hl;rfl)
 obtain⟨t8⟩:=FT.of (ps:=["store"]) X G h8 (fun _ _ _ _ _ _ us hl=>by obtain⟨_,rfl⟩:=c9 hl;rfl)
 obtain⟨t9⟩:=FT.of (ps:=["store", "change"]) X G h9 (fun _ _ _ _ _ _ us hl=>by obtain⟨_,_,rfl⟩:=R8 hl;rfl)
 obtain⟨t10⟩:=FT.of (ps:=["store", "changes"]) X G h10 (fun _ _ _ _ _ _ us hl=>by obtain⟨_,_,rfl⟩:=R8 hl;rfl)
 obtain⟨t11⟩:=FT.of (ps:=["effect", "level"]) X G h11 (fun _ _ _ _ _ _ us hl=>by obtain⟨_,_,rfl⟩:=R8 hl;rfl)
 obtain⟨t12⟩:=FT.of (ps:=["one", "other"]) X G h12 (fun _ _ _ _ _ _ us hl=>by obtain⟨_,_,rfl⟩:=R8 hl;rfl)
 obtain⟨t13⟩:=FT.of (ps:=["many", "store", "thing"]) X G h13 (fun _ _ _ _ _ _ us hl=>by obtain⟨_,_,_,rfl⟩:=W8 hl;rfl)
 obtain⟨t14⟩:=FT.of (ps:=["many", "store", "thing"]) X G h14 (fun _ _ _ _ _ _ us hl=>by obtain⟨_,_,_,rfl⟩:=W8 hl;rfl)
 obtain⟨t15⟩:=FT.of (ps:=["one", "other"]) X G h15 (fun _ _ _ _ _ _ us hl=>by obtain⟨_,_,rfl⟩:=R8 hl;rfl)
 obtain⟨t16⟩:=FT.of (ps:=["store", "table", "way"]) X G h16 (fun _ _ _ _ _ _ us hl=>by obtain⟨_,_,_,rfl⟩:=W8 hl;rfl)
 obtain⟨t17⟩:=FT.of (ps:=["table"]) X G h17 (fun _ _ _ _ _ _ us hl=>by obtain⟨_,rfl⟩:=c9 hl;rfl)
 obtain⟨t18⟩:=FT.of (ps:=["land", "store", "table", "stayed"]) X G h18 (fun _ _ _ _ _ _ us hl=>by obtain⟨_,_,_,_,rfl⟩:=A1a hl;rfl)
 obtain⟨t19⟩:=FT.of (ps:=["land", "rows", "place"]) X G h19 (fun _ _ _ _ _ _ us hl=>by obtain⟨_,_,_,rfl⟩:=W8 hl;rfl)
 obtain⟨t20⟩:=FT.of (ps:=["land", "place", "numbers"]) X G h20 (fun _ _ _ _ _ _ us hl=>by obtain⟨_,_,_,rfl⟩:=W8 hl;rfl)
 obtain⟨t21⟩:=FT.of (ps:=["land", "place", "part"]) X G h21 (fun _ _ _ _ _ _ us hl=>by obtain⟨_,_,_,rfl⟩:=W8 hl;rfl)
 obtain⟨t22⟩:=FT.of (ps:=["land", "place", "trip"]) X G h22 (fun _ _ _ _ _ _ us hl=>by obtain⟨_,_,_,rfl⟩:=W8 hl;rfl)
 obtain⟨t23⟩:=FT.of (ps:=["land", "store", "table"]) X G h23 (fun _ _ _ _ _ _ us hl=>by obtain⟨_,_,_,rfl⟩:=W8 hl;rfl)
 obtain⟨t24⟩:=FT.of (ps:=["land", "rows"]) X G h24 (fun _ _ _ _ _ _ us hl=>by obtain⟨_,_,rfl⟩:=R8 hl;rfl)
 obtain⟨t25⟩:=FT.of (ps:=["land", "rows"]) X G h25 (fun _ _ _ _ _ _ us hl=>by obtain⟨_,_,rfl⟩:=R8 hl;rfl)
 obtain⟨t26⟩:=FT.of (ps:=["land", "walk"]) X G h26 (fun _ _ _ _ _ _ us hl=>by obtain⟨_,_,rfl⟩:=R8 hl;rfl)
 obtain⟨t27⟩:=FT.of (ps:=["numbers"]) X G h27 (fun _ _ _ _ _ _ us hl=>by obtain⟨_,rfl⟩:=c9 hl;rfl)
 obtain⟨t28⟩:=FT.of (ps:=["land", "store", "level", "walk"]) X G h28 (fun _ _ _ _ _ _ us hl=>by obtain⟨_,_,_,_,rfl⟩:=A1a hl;rfl)
 obtain⟨t29⟩:=FT.of (ps:=["land", "store", "base"]) X G h29 (fun _ _ _ _ _ _ us hl=>by obtain⟨_,_,_,rfl⟩:=W8 hl;rfl)
 obtain⟨t30⟩:=FT.of (ps:=["land", "store", "base"]) X G h30 (fun _ _ _ _ _ _ us hl=>by obtain⟨_,_,_,rfl⟩:=W8 hl;rfl)
 obtain⟨t31⟩:=FT.of (ps:=["land", "rows", "roads", "place"]) X G h31 (fun _ _ _ _ _ _ us hl=>by obtain⟨_,_,_,_,rfl⟩:=A1a hl;rfl)
 obtain⟨t32⟩:=FT.of (ps:=["land", "store", "base"]) X G h32 (fun _ _ _ _ _ _ us hl=>by obtain⟨_,_,_,rfl⟩:=W8 hl;rfl)
 obtain⟨t33⟩:=FT.of (ps:=["table", "base"]) X G h33 (fun _ _ _ _ _ _ us hl=>by obtain⟨_,_,rfl⟩:=R8 hl;rfl)
 obtain⟨t34⟩:=FT.of (ps:=["land", "store", "table", "lid"]) X G h34 (fun _ _ _ _ _ _ us hl=>by obtain⟨_,_,_,_,rfl⟩:=A1a hl;rfl)
 obtain⟨t35⟩:=FT.of (ps:=["land", "store", "table"]) X G h35 (fun _ _ _ _ _ _ us hl=>by obtain⟨_,_,_,rfl⟩:=W8 hl;rfl)
 obtain⟨t36⟩:=FT.of (ps:=["number"]) X G h36 (fun _ _ _ _ _ _ us hl=>by obtain⟨_,rfl⟩:=c9 hl;rfl)
 obtain⟨t37⟩:=FT.of (ps:=["springs", "some"]) X G h37 (fun _ _ _ _ _ _ us hl=>by obtain⟨_,_,rfl⟩:=R8 hl;rfl)
 obtain⟨t38⟩:=FT.of (ps:=["store", "springs", "tables", "some", "number"]) X G h38 (fun _ _ _ _ _ _ us hl=>by obtain⟨_,_,_,_,_,rfl⟩:=B03 hl;rfl)
 obtain⟨t39⟩:=FT.of (ps:=["store", "springs", "tables", "base", "some"]) X G h39 (fun _ _ _ _ _ _ us hl=>by obtain⟨_,_,_,_,_,rfl⟩:=B03 hl;rfl)
 obtain⟨t40⟩:=FT.of (ps:=["land", "store", "springs", "base"]) X G h40 (fun _ _ _ _ _ _ us hl=>by obtain⟨_,_,_,_,rfl⟩:=A1a hl;rfl)
 obtain⟨t41⟩:=FT.of (ps:=["store", "springs", "tables", "some", "place", "level"]) X G h41 (fun _ _ _ _ _ _ us hl=>by obtain⟨_,_,_,_,_,_,rfl⟩:=B4v hl;rfl)
 obtain⟨t42⟩:=FT.of (ps:=["land", "store", "springs", "base", "some", "place"]) X G h42 (fun _ _ _ _ _ _ us hl=>by obtain⟨_,_,_,_,_,_,rfl⟩:=B4v hl;rfl)
 obtain⟨t43⟩:=FT.of (ps:=["land", "store", "springs", "base", "tables"]) X G h43 (fun _ _ _ _ _ _ us hl=>by obtain⟨_,_,_,_,_,rfl⟩:=B03 hl;rfl)
 obtain⟨t44⟩:=FT.of (ps:=["one", "other"]) X G h44 (fun _ _ _ _ _ _ us hl=>by obtain⟨_,_,rfl⟩:=R8 hl;rfl)
 obtain⟨t45⟩:=FT.of (ps:=["land", "store", "springs", "walker"]) X G h45 (fun _ _ _ _ _ _ us hl=>by obtain⟨_,_,_,_,rfl⟩:=A1a hl;rfl)
 obtain⟨t46⟩:=FT.of (ps:=["needs", "used"]) X G h46 (fun _ _ _ _ _ _ us hl=>by obtain⟨_,_,rfl⟩:=R8 hl;rfl)
 obtain⟨t47⟩:=FT.of (ps:=["land", "store", "springs", "walkers"]) X G h47 (fun _ _ _ _ _ _ us hl=>by obtain⟨_,_,_,_,rfl⟩:=A1a hl;rfl)
 obtain⟨t48⟩:=FT.of (ps:=["_law_script"]) X G h48 (fun _ _ _ _ _ _ us hl=>by obtain⟨_,rfl⟩:=c9 hl;rfl)
 obtain⟨t49⟩:=FT.of (ps:=["_law_hand_here"]) X G h49 (fun _ _ _ _ _ _ us hl=>by obtain⟨_,rfl⟩:=c9 hl;rfl)
 obtain⟨t50⟩:=FT.of (ps:=["_law_hand_here"]) X G h50 (fun _ _ _ _ _ _ us hl=>by obtain⟨_,rfl⟩:=c9 hl;rfl)
 obtain⟨t51⟩:=FT.of (ps:=["_law_hand_here", "_law_many"]) X G h51 (fun _ _ _ _ _ _ us hl=>by obtain⟨_,_,rfl⟩:=R8 hl;rfl)
 obtain⟨t52⟩:=FT.of (ps:=["_law_hand_here"]) X G h52 (fun _ _ _ _ _ _ us hl=>by obtain⟨_,rfl⟩:=c9 hl;rfl)
 obtain⟨t53⟩:=FT.of (ps:=["_law_hand_here", "_law_scale_here"]) X G h53 (fun _ _ _ _ _ _ us hl=>by obtain⟨_,_,rfl⟩:=R8 hl;rfl)
 obtain⟨t54⟩:=FT.of (ps:=["_law_hand_here", "_law_scale_here"]) X G h54 (fun _ _ _ _ _ _ us hl=>by obtain⟨_,_,rfl⟩:=R8 hl;rfl)
 obtain⟨t55⟩:=FT.of (ps:=["_law_hand_here", "_law_places", "_law_ways", "_law_scale_here"]) X G h55 (fun _ _ _ _ _ _ us hl=>by obtain⟨_,_,_,_,rfl⟩:=A1a hl;rfl)
 obtain⟨t56⟩:=FT.of (ps:=["_law_hand_here", "_law_many", "_law_store_here"]) X G h56 (fun _ _ _ _ _ _ us hl=>by obtain⟨_,_,_,rfl⟩:=W8 hl;rfl)
 obtain⟨t57⟩:=FT.of (ps:=["_law_hand_here", "_law_many", "_law_store_here", "_law_most"]) X G h57 (fun _ _ _ _ _ _ us hl=>by obtain⟨_,_,_,_,rfl⟩:=A1a hl;rfl)
 obtain⟨t58⟩:=FT.of (ps:=["_law_hand_here"]) X G h58 (fun _ _ _ _ _ _ us hl=>by obtain⟨_,rfl⟩:=c9 hl;rfl)
 obtain⟨t59⟩:=FT.of (ps:=["_law_hand_here", "_law_many", "_law_store_here"]) X G h59 (fun _ _ _ _ _ _ us hl=>by obtain⟨_,_,_,rfl⟩:=W8 hl;rfl)
 obtain⟨t60⟩:=FT.of (ps:=["_law_store_here", "_law_changes"]) X G h60 (fun _ _ _ _ _ _ us hl=>by obtain⟨_,_,rfl⟩:=R8 hl;rfl)
 obtain⟨t61⟩:=FT.of (ps:=["_law_effect_here", "_law_times_here", "_law_level"]) X G h61 (fun _ _ _ _ _ _ us hl=>by obtain⟨_,_,_,rfl⟩:=W8 hl;rfl)
 obtain⟨t62⟩:=FT.of (ps:=["_law_land_here", "_law_store_here", "_law_place", "_law_level", "_law_trip"]) X G h62 (fun _ _ _ _ _ _ us hl=>by obtain⟨_,_,_,_,_,rfl⟩:=B03 hl;rfl)
 obtain⟨t63⟩:=FT.of (ps:=["_law_land_here", "_law_store_here", "_law_springs_here", "_law_place", "_law_level", "_law_trip"]) X G h63 (fun _ _ _ _ _ _ us hl=>by obtain⟨_,_,_,_,_,_,rfl⟩:=B4v hl;rfl)
 obtain⟨t64⟩:=FT.of (ps:=["_law_thing"]) X G h64 (fun _ _ _ _ _ _ us hl=>by obtain⟨_,rfl⟩:=c9 hl;rfl)
 obtain⟨t65⟩:=FT.of (ps:=["_law_hand_here", "_law_case"]) X G h65 (fun _ _ _ _ _ _ us hl=>by obtain⟨_,_,rfl⟩:=R8 hl;rfl)
 obtain⟨t66⟩:=FT.of (ps:=["_law_case"]) X G h66 (fun _ _ _ _ _ _ us hl=>by obtain⟨_,rfl⟩:=c9 hl;rfl)
 obtain⟨t67⟩:=FT.of (ps:=["_law_case"]) X G h67 (fun _ _ _ _ _ _ us hl=>by obtain⟨_,rfl⟩:=c9 hl;rfl)
 obtain⟨t68⟩:=FT.of (ps:=["_law_case", "_law_tables_here", "_law_some", "_law_place"]) X G h68 (fun _ _ _ _ _ _ us hl=>by obtain⟨_,_,_,_,rfl⟩:=A1a hl;rfl)
 have Fl:=C5e (st:=d5) l69 c69 k69
 let T:Txt K mg:={
  n_abs:=g4 X G z_abs,
  n_all:=g4 X G z_all,
  n_any:=g4 X G z_any,
  n_bool:=g4 X G z_bool,
  n_enumerate:=g4 X G z_enumerate,
  n_int:=g4 X G z_int,
  n_isinstance:=g4 X G z_isinstance,
  n_len:=g4 X G z_len,
  n_list:=g4 X G z_list,
  n_max:=g4 X G z_max,
  n_min:=g4 X G z_min,
  n_range:=g4 X G z_range,
  n_reversed:=g4 X G z_reversed,
  n_tuple:=g4 X G z_tuple,
  n_zip:=g4 X G z_zip,
  t_MANY:=tk_MANY,mg_MANY:=S4 X G q_MANY,
  t_WAYS:=tk_WAYS,mg_WAYS:=S4 X G q_WAYS,
  t_START:=tk_START,mg_START:=S4 X G q_START,
  t_END:=tk_END,mg_END:=S4 X G q_END,
  t_CHANGE:=tk_CHANGE,mg_CHANGE:=S4 X G q_CHANGE,
  t_PLACE_spots:=tk_PLACE_spots,mg_PLACE_spots:=S4 X G q_PLACE_spots,
  t_LEVEL:=tk_LEVEL,mg_LEVEL:=S4 X G q_LEVEL,
  t_LEAST:=tk_LEAST,mg_LEAST:=S4 X G q_LEAST,
  t_GAIN:=tk_GAIN,mg_GAIN:=S4 X G q_GAIN,
  t_TOP:=tk_TOP,mg_TOP:=S4 X G q_TOP,
  t_TABLE:=tk_TABLE,mg_TABLE:=S4 X G q_TABLE,
  t_RISEN:=tk_RISEN,mg_RISEN:=S4 X G q_RISEN,
  t_FROM:=tk_FROM,mg_FROM:=S4 X G q_FROM,
  t_BY:=tk_BY,mg_BY:=S4 X G q_BY,
  t_NUMBERS:=tk_NUMBERS,mg_NUMBERS:=S4 X G q_NUMBERS,
  t_TIMES:=tk_TIMES,mg_TIMES:=S4 X G q_TIMES,
  t_PLACE_springs:=tk_PLACE_springs,mg_PLACE_springs:=S4 X G q_PLACE_springs,
  t_GIFT:=tk_GIFT,mg_GIFT:=S4 X G q_GIFT,
  t_BEGIN:=tk_BEGIN,mg_BEGIN:=S4 X G q_BEGIN,
  t_GOAL:=tk_GOAL,mg_GOAL:=S4 X G q_GOAL,
  t_USE:=tk_USE,mg_USE:=S4 X G q_USE,
  f_is_whole:=t0,
  f_is_level:=t1,
  f_stepped:=t2,
  f_levels_along:=t3,
  f_is_place:=t4,
  f_changes_of:=t5,
  f_base_at:=t6,
  f_has_enough:=t7,
  f_effect_of_none:=t8,
  f_effect_of_one:=t9,
  f_effect_of:=t10,
  f_passed:=t11,
  f_joined:=t12,
  f_is_table:=t13,
  f_are_tables:=t14,
  f_is_more:=t15,
  f_behind_way:=t16,
  f_first_row:=t17,
  f_row_behind:=t18,
  f_walk_to:=t19,
  f_behind_ways:=t20,
  f_behind_part:=t21,
  f_end_of:=t22,
  f_rows_from:=t23,
  f_still_rises:=t24,
  f_rising_walk:=t25,
  f_parted_at_round:=t26,
  f_parts_by:=t27,
  f_filling_parts:=t28,
  f_settled:=t29,
  f_highest:=t30,
  f_trip_to:=t31,
  f_trips_to:=t32,
  f_covers:=t33,
  f_leads_within:=t34,
  f_is_closed:=t35,
  f_alone:=t36,
  f_numbers_in:=t37,
  f_level_by_spring:=t38,
  f_base_by:=t39,
  f_highest_by:=t40,
  f_last_spring:=t41,
  f_trip_by:=t42,
  f_is_spring_lid:=t43,
  f_is_part:=t44,
  f_needs_of:=t45,
  f_first_shares:=t46,
  f_shared:=t47,
  f_hand:=t48,
  f_next:=t49,
  f_take:=t50,
  f_draw:=t51,
  f_scale:=t52,
  f_change:=t53,
  f_store:=t54,
  f_land:=t55,
  f_table:=t56,
  f_springs:=t57,
  f_spring_case:=t58,
  f_walker:=t59,
  f_effect:=t60,
  f_times:=t61,
  f_arrive:=t62,
  f_arrive_by:=t63,
  f_law_is_whole:=t64,
  f_other:=t65,
  f_copied:=t66,
  f_tables:=t67,
  f_trip_good:=t68,
  f_law:=⟨fa,_,Fl,hfa,Fl.binds (fun _ _ _ _ _ _ us hl=>by obtain⟨_,rfl⟩:=c9 hl;rfl)⟩ }
 exact⟨A4n "law" "law" (A4w d5) (A0y d5) (C2 d5) .none kV69 dc69 pm69 an69 cd69 ct69,fun s v=>.of_eq rfl,fun base _ _=>D32 T⟩
end
theorem walk {l:PySem.W.OpenLaw} {q:Program} {loose:List Str} {XP:(Str->Option Value)->Heap->Prop} {YP:World->Heap->Prop} {d:DefRec} {K:Params->B3} (hn:l.most=some 63) (hdf:d.params.defaults=[])
  (hY:∀(w:World) (h:Heap),YP w h->(K w.params).In h)
  (F:∀(w:World) (mg:Str->Option Value) (fa:Addr) (h:Heap),(K w.params).In h->h.Ns mainGlobals mg->mg d.name=some (.ref fa)->
   ∃fd:FuncData,(∀(s:Shared) (u:Value),BindsTo s fd ⟨[u],[]⟩ [("_law_script",u)])/\∀base:Heap,(K w.params).In base->base.Ns mainGlobals mg->D0 l.prog w (K w.params) mg base CX0 14 fa fd ["_law_script"] (B13 (K w.params))) :
  PySem.W.WalkO q loose XP YP l.row.toRowW d [] (fun f vs=>PySem.call f vs):=
 L2.walk_of (n:=63) (k:=14) (x:= "_law_script") (CX:=fun _=>CX0) (sp:=fun w=>B13 (K w.params)) hn (by decide) hdf ⟨rfl,by decide,by decide,rfl⟩ hY F (fun _ _ a ns hl _ hS=>⟨a,ns,rfl,hS,hl,fun _=>rfl⟩) fun _ _ _ _ _ z=>z
end My
structure PySem.W.Fast:Prop where(tw11970323854352597401 tw13511249855380638766 tw12989054479342788307 tw12703224953978036610 tw17087518601915565244 tw8386298827873916055 tw1972670530342841865 tw1665682787192977030 tw3825908937159888201 tw13422386742001996066 tw13249943585007068227 tw16652484122724726515 tw3157684497957626103 tw9816926534321856687 tw12660284917511189732 tw5723210171727171189 tw136050346646109945 tw4985851569231852497 tw4119051179167513842 tw17551616007478979659 tw18418540014866801183 tw3644587587404958869 tw10507648254776239038 tw10955173074707498446 tw2449051558389094958 tw18423801073930454653 tw13816302573301886575 tw10430847592185629102 tw17291555453219186521 tw4271317069675481408 tw4058520954792365034 tw6272669996347822928 tw4369979287585560352 tw9520800843887554122 tw5279765623798908798 tw10218810440636840884 tw7962880905290815143 tw3864290425813241007 tw15325399334487358666 tw17145859926011445643 tw87120637059070931 tw9339036256913030396 tw14568328207890385996 tw6404411956589656473 tw809825173589822276 tw18177400089161629033 tw8357209843449686942 tw2471498767295971272 tw18163145678803823571 tw10166279795753583919 tw3511859030634039345 tw14066323547110520130 tw7790843213324798841 tw14407418531516220778 tw9682261386434838117 tw8413146224146300213 tw11784923383515307247 tw16374729584810047162 tw17837109090264057094 tw8157640999540043386 tw4699739165386631988 tw6116839664765562424 tw14053315398969754462 tw17949222682857293002 tw3643231458229004191 tw9560921667013481507 tw14454597981156104628 tw17500897481494076656 tw16221602702600624589 tw18323155813095507868 tw17329769988874950657 tw3851424242478086036 tw7899259874374086406 tw13268926367024733758 tw16439436351367867043 tw2332109270462720013 tw14270728208481769514 tw5791130222011014590 tw13074199429593937938 tw6894426064535009051 tw6043996491529523754 tw13696037571142061815 tw6162447212542977407 tw10849816399221948675 tw2630968738091518947 tw15687656451132354771 tw5968712223709472245 tw3269234623855053279 tw13059472505046183967 tw12838213885487321923 tw3570223453705928625 tw10449578191723585302 tw2875753261799058712 tw694338840869862593 tw7624495992802554513 tw6805247935456853732 tw8393436468502710249 tw9865163577896775817 tw1877995099465638370 tw15232992580275480117 tw12881099704445341107 tw14876482466606080186 tw9148932419508081732 tw6066587310506813402 tw8262946830405501193 tw7417314448465593210 tw372096324813515313 tw16077106856463952076 tw18217240232410753831 tw2338760835644887952 tw2207492496864053955 tw16758072605754124047 tw3012362711176888567 tw1973690214188283557 tw9752019768391112049 tw6980179921761920303 tw8078583019166909483 tw4454047685902368783 tw328172865344419254 tw10383222516399613101 tw352610554788797232 tw13685720646108147046 tw10331158402174766665 tw6504918640554432149 tw2559612994917042014 tw8585237577858792829 tw16051717117988630794 tw3076341510841045739 tw3799779070615007147 tw7998381423422994859 tw15370863549977243084 tw3888172339502505955 tw15648972854366850748 tw14522382622514547133 tw11540873086944858448 tw3890607420000417128 tw7419311005590986691 tw854553996030213086 tw3525980160235462506 tw9929727290888288453 tw17750839291711738736 tw10462774058069000667 tw10189278629163150779 tw8301020591482882058 tw489762695201914366 tw2391494616685428805 tw11354535950074428123 tw10179621799861396346 tw17824021898120961059 tw8905918133441664809 tw9410819334394659852 tw12360458333949211138 tw5502434754492546306 tw10161229942334825306 tw3118728493986388049 tw6916301189742597740 tw14561741200008127427 tw10707700347984093602 tw5944380833162952852 tw12435487555804755650 tw8710181406423073730 tw17207240161314088908 tw12128514668941683163 tw1283003198529372304 tw17247492380364402632 tw5260808564087217039 tw14471683325202133721 tw8572210618984095325 tw2037366372302804066 tw17938693702878241863 tw5278269761935777707 tw4056048548355512410 tw3071960451611897261 tw14363812967860105893 tw16221224566052663100 tw4141411880068202981 tw15792014722935684550 tw17481194574163267378 tw9506811620950306991 tw17239813406357292974 tw4842537280095826497 tw11069371924547097458 tw5777115175858570957 tw17143644518154596519 tw8862496101649001157 tw1009070090118122611 tw8360666710788664325 tw13981799515529283584 tw16334360806223268593 tw5761283912318787955 tw9430704085169538620 tw14279129356362787765 tw15516757478729279041 tw15913617465593587311 tw11517480981554490656 tw3537244357023396754 tw11844100462654319804 tw16774257991986330332 tw259050785434743151 tw5858671958109923894 tw13658470236831462389 tw17050249115327431751 tw2236211386865529049 tw8653900014142440788 tw5026294139177398838 tw3243383292523552462 tw16248772661433126411 tw13640075726159128678 tw6418363540595564165 tw4517781834255225389 tw14998007440076074910 tw16889370733903852610 tw7108886186994083725 tw783682222026742295 tw12432269183905970899 tw10559409153143972016 tw8891620405446264172 tw16189341432340345026 tw1781363973934453874 tw2855442476924750030 tw15140698864462755918 tw13012936542403080780 tw8421793567018094107 tw8434407412181648667 tw4188000245673908661 tw11162323616548163271 tw6883902712528230133 tw3608896034195111770 tw17301516168256095348 tw9397440709125220238 tw7957383939871191694 tw15303313979796343107 tw5122239731643721910 tw8179930712766082568 tw1900006351736115412 tw11046089119372972794 tw10243242116713380245 tw12820571558671645122:True)
open PySem PySem.W PyProof.Rows
set_option maxRecDepth 100000 in
set_option maxHeartbeats 0 in
theorem PySem.Challenge.cw_trudge_k88_springs_by_turns_holds : PySem.Challenge.rw_trudge_k88_springs_by_turns.Holds := by
 w_on;o_law;k_head;(case hw=>w_witness2)
 k_fill
 refine My.walk (l:=PySem.Challenge.rw_trudge_k88_springs_by_turns) rfl rfl (fun w h Y=>PySem.W.kIn_of Y) ?F
 case F=>
  intro w mg fa h KX G hmg
  refine' My.all_mk KX G hmg ?h0 ?h1 ?h2 ?h3 ?h4 ?h5 ?h6 ?h7 ?h8 ?h9 ?h10 ?h11 ?h12 ?h13 ?h14 ?h15 ?h16 ?h17 ?h18 ?h19 ?h20 ?h21 ?h22 ?h23 ?h24 ?h25 ?h26 ?h27 ?h28 ?h29 ?h30 ?h31 ?h32 ?h33 ?h34 ?h35 ?h36 ?h37 ?h38 ?h39 ?h40 ?h41 ?h42 ?h43 ?h44 ?h45 ?h46 ?h47 ?h48 ?h49 ?h50 ?h51 ?h52 ?h53 ?h54 ?h55 ?h56 ?h57 ?h58 ?h59 ?h60 ?h61 ?h62 ?h63 ?h64 ?h65 ?h66 ?h67 ?h68 ?a69 ?l69 ?c69 ?k69 ?q_MANY ?q_WAYS ?q_START ?q_END ?q_CHANGE ?q_PLACE_spots ?q_LEVEL ?q_LEAST ?q_GAIN ?q_TOP ?q_TABLE ?q_RISEN ?q_FROM ?q_BY ?q_NUMBERS ?q_TIMES ?q_PLACE_springs ?q_GIFT ?q_BEGIN ?q_GOAL ?q_USE ?z_abs ?z_all ?z_any ?z_bool ?z_enumerate ?z_int ?z_isinstance ?z_len ?z_list ?z_max ?z_min ?z_range ?z_reversed ?z_tuple ?z_zip
  all_goals try (exact⟨_,by k_is,_,⟨_,_,_,_,_,_,_,_,_,rfl,by k_is,by k_is⟩,by k_is⟩)
  (case a69=>k_is);(case l69=>k_is);(case c69=>k_is);(case k69=>k_is)
  (case q_MANY=>k_is);(case q_WAYS=>k_is);(case q_START=>k_is);(case q_END=>k_is);(case q_CHANGE=>k_is);(case q_PLACE_spots=>k_is);(case q_LEVEL=>k_is);(case q_LEAST=>k_is);(case q_GAIN=>k_is);(case q_TOP=>k_is);(case q_TABLE=>k_is);(case q_RISEN=>k_is);(case q_FROM=>k_is);(case q_BY=>k_is);(case q_NUMBERS=>k_is);(case q_TIMES=>k_is);(case q_PLACE_springs=>k_is);(case q_GIFT=>k_is);(case q_BEGIN=>k_is);(case q_GOAL=>k_is);(case q_USE=>k_is)
  (case z_abs=>k_is);(case z_all=>k_is);(case z_any=>k_is);(case z_bool=>k_is);(case z_enumerate=>k_is);(case z_int=>k_is);(case z_isinstance=>k_is);(case z_len=>k_is);(case z_list=>k_is);(case z_max=>k_is);(case z_min=>k_is);(case z_range=>k_is);(case z_reversed=>k_is);(case z_tuple=>k_is);(case z_zip=>k_is)
