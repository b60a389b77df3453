import PyProof.Rows.All
import Wide.All
import OpenK.AllK
import Wide.FinOn
import Lean
import PyProof.EqAt
import PyProof.EqKinds
import PyProof.NeData
import PyProof.TupleCall
import KE.KRevIter
import KE.KRevSl
import PyProof.MinMaxWalk
import PyProof.ZipIter
import PyProof.Rows.Range3
import PyProof.Rows.CallKwBuiltin
import PyProof.DictWalks
import PyProof.ReprRoads
import PyProof.ReprLen
import PyProof.CallFns
import KE.KEqDict
import PyProof.P3In
import PyProof.MeetsDictList
import PyProof.Cells
import KE.KDictSum
import KE.KDictOf
import PyProof.Rows.SortWalk
import PySem.Challenge.RW_trudge_k92_whole_as_told_at_once
set_option Elab.async false
set_option compiler.extract_closed false
set_option linter.all false
set_option maxRecDepth 100000
theorem KK{p:Prop}(h:p:=by decide +kernel):p:=h
theorem DD{p:Prop}(h:p:=by decide):p:=h
theorem OO{p:Prop}(h:p:=by lia):p:=h
set_option genInjectivity false
set_option genSizeOf false
open _root_.PySem.W renaming Frag->A9,nsIn->K0,findIn->N4,fnOf->P6,keepIn->Q4,mg_of->Q5,codeIn->T0,isFn->W3,mg_none_of->g5,kitOne->p6,kia_one->A0i,emptyDict->A3c,instObj->A5i,kitCls->A5p,plainGet->B2w,lookIn->B7a,hasDictIn->B7b,plainGet_of->C4e,callWith_K->C4f
open _root_.Or renaming inl->B3
open _root_.List renaming length_map->C6,mem_cons_of_mem->D3,mem_cons_self->D9,replicate->E5,length_cons->J8,getElem?_map->K3,getElem?_eq_getElem->M4,mem_cons->N3,size_toArray->O8,map_cons->Q9,mem_of_getElem?->R6,map_append->R7,mem_map->S5,range->T8,length_append->U6,nil_append->X5,length_set->Y6,set->g4,length_take->j6,length_range->j7,map_map->j8,mem_range->p5,length->p7,mem_append->A0g,mem_append_right->A0h,replicate_succ->A0j,lookup_cons->A0k,length_reverse->A0l,getElem?_eq_some_iff->A1d,getElem?_set_ne->A1e,append_nil->A1f,mem_singleton->A1h,map_take->A1i,length_replicate->A10,getElem?_eq_none->A11,getElem?_append_left->A3d,flatten_cons->A3e,getElem?_set->A3f,length_nil->A3g,eq_nil_of_length_eq_zero->A3i,Perm->A3j,getElem?_append_right->A5k,any_cons->A5o,mem_iff_getElem->A5q,cons_append->A5r,map->A5s,map_congr_left->A5t,lookup->A8q,nodup_cons->A8r,map_nil->A8s,append_assoc->A8t,reverse_cons->A8u,getElem?_cons_succ->A8v,take_add_one->A8w,find?_cons->A8x,tail_cons->B0l,tail_nil->B0m,getElem?_cons_zero->B0n,set_cons_zero->B0o,set_cons_succ->B0p,mem_filter->B2v,length_singleton->B2y,idxOf_lt_length_iff->B20,getElem?_range->B21,take_of_length_le->B22,map_reverse->B27,take_length->B28,append->B29,mem_filterMap->B68,filter_cons_of_pos->B7g,filter_cons_of_neg->B7h,sum_cons->B7i,filterMap_cons->C4c,mem_append_left->C4d,getElem?_replicate->C4g,getElem_idxOf->C4i,length_pos_iff->C4j,mem_zipIdx_iff_getElem?->C4k,length_filter_le->C4l
open _root_.Nat renaming le_refl->F9,zero_le->O7,ne_of_lt->Q1,lt_of_lt_of_le->X4,le_trans->b3,lt_irrefl->o9,le_succ->A1g,ne_of_gt->A5j,le_of_lt->A8o,min_eq_left->B23,lt_succ_self->B7d
open _root_.PySem.Heap renaming lt_size->G9,get?_push_of_some->O0,get?_push_size->T9,get?_update_other->A5m,size_push->B7c,get?_update_self->B7e
open _root_.Bool renaming false_ne_true->Q2,and_eq_true->A5n,not_true->B0r,not_false->B0s,false_eq_true->B2z,eq_iff_iff->B69
open _root_.PySem.PassesOwn renaming never->V5
open _root_.Int renaming le_refl->A0m,add_mul->A8y,toNat_natCast->B0k,le_trans->B24,natCast_add->B25,emod_nonneg->B26,mul_nonneg->B7j,emod_lt_of_pos->B7k,toNat_of_nonneg->C4m
open _root_.PySem.F renaming plainAttrs_list->A1j,slot_list_append->A8z,type_list_append->A80,slot_list_index->C4h
open _root_.Option renaming map_some->A12,map_eq_some_iff->A3h,bind_some->B0q
open _root_.PySem.Obj renaming mapSeq->A5l
open _root_.Array renaming length_toList->A8p,getElem?_toList->B7f
open _root_.PySem renaming mem_of_lookup->B2x
namespace L2
open PySem PySem.Spec PyProof.Rows
theorem el3 {α β γ:Type} {R T K:α->β->γ->Prop} {p:Prop} (h:∃a b c,R a b c/\T a b c/\K a b c) (f:∀a b c,R a b c->T a b c->K a b c->p):p:=h.elim λa h=>h.elim λb h=>h.elim λc h=>f a b c h.1 h.2.1 h.2.2
theorem el5 {α β:Type} {R T K:α->β->Prop} {p:Prop} (h:∃a b,R a b/\T a b/\K a b) (f:∀a b,R a b->T a b->K a b->p):p:=h.elim λa h=>h.elim λb h=>f a b h.1 h.2.1 h.2.2
theorem el2 {α:Type} {A B:α->Prop} {p:Prop} (h:∃a,A a/\B a) (f:∀a,A a->B a->p):p:=h.elim λa h=>f a h.1 h.2
abbrev Key:=Sum Int Str
def A13:Key->Value->Bool
 | .inl k,v=>Value.isInt k v
 | .inr x,v=>Value.isStrOf x v
def C4n (w:World):Key->Int
 | .inl k=>hashInt k
 | .inr x=>hashStr w x
theorem A0n:∀{k:Key} {v:Value},A13 k v=true->(∃i t,k=Sum.inl i/\v=Value.int i t)\/(∃x t,k=Sum.inr x/\v=Value.str x t)
 | .inl i,v,h=>by
  obtain⟨t,e⟩:=Value.isInt_shape (k:=i) (v:=v) h
  exact .inl ⟨i,t,rfl,e⟩
 | .inr x,v,h=>by
  obtain⟨t,e⟩:=Value.isStrOf_shape (x:=x) (v:=v) h
  exact .inr ⟨x,t,rfl,e⟩
theorem C4o (i:Int) (t:Tok):A13 (.inl i) (.int i t)=true:=by simp [A13,Value.isInt]
theorem C4p (x:Str) (t:Tok):A13 (.inr x) (.str x t)=true:=by simp [A13,Value.isStrOf]
theorem C4q (a b:Int):decide ((Sum.inl a:Key)=Sum.inl b)=(a == b):=by
 by_cases e:a=b
 ·subst e;simp
 ·have h:¬ (Sum.inl a:Key)=Sum.inl b:=λq=>e (Sum.inl.inj q)
  rw[decide_eq_false h]
  exact (beq_eq_false_iff_ne.mpr e).symm
theorem C4r (a b:Str):decide ((Sum.inr a:Key)=Sum.inr b)=decide (a=b):=by
 by_cases e:a=b
 ·subst e;simp
 ·have h:¬ (Sum.inr a:Key)=Sum.inr b:=λq=>e (Sum.inr.inj q)
  rw[decide_eq_false h,decide_eq_false e]
theorem C4s (a:Int) (b:Str):decide ((Sum.inl a:Key)=Sum.inr b)=false:=decide_eq_false (λq=>nomatch q)
theorem C4t (a:Str) (b:Int):decide ((Sum.inr a:Key)=Sum.inl b)=false:=decide_eq_false (λq=>nomatch q)
def X6 (prog:Program) (w:World):PySem.KeyKind prog w Key where
 is:=A13
 hash:=C4n w
 inj:=λv a b ha hb=>by
  rcases A0n ha with ⟨i,t,rfl,rfl⟩ | ⟨x,t,rfl,rfl⟩
  ·rcases A0n hb with ⟨j,u,rfl,e⟩ | ⟨y,u,rfl,e⟩
   ·injection e with e1 _;rw[e1]
   ·exact nomatch e
  ·rcases A0n hb with ⟨j,u,rfl,e⟩ | ⟨y,u,rfl,e⟩
   ·exact nomatch e
   ·injection e with e1 _;rw[e1]
 byValue:=λk v h=>by
  rcases A0n h with ⟨i,t,rfl,rfl⟩ | ⟨x,t,rfl,rfl⟩ <;> rfl
 pyHash:=λhv h=>by
  rcases A0n hv with ⟨i,t,rfl,rfl⟩ | ⟨x,t,rfl,rfl⟩
  ·exact wpAny_pyHash_int h
  ·exact wpAny_pyHash_str h
 eqBool:=λhu hv h=>by
  rcases A0n hu with ⟨i,t,rfl,rfl⟩ | ⟨x,t,rfl,rfl⟩
  ·rcases A0n hv with ⟨j,u,rfl,rfl⟩ | ⟨y,u,rfl,rfl⟩
   ·rw[C4q] at h;exact wpAny_eqBool_int h
   ·rw[C4s] at h;exact SeqAt.EqAt.int_str i t y u _ _ _ _ h
  ·rcases A0n hv with ⟨j,u,rfl,rfl⟩ | ⟨y,u,rfl,rfl⟩
   ·rw[C4t] at h;exact SeqAt.EqAt.str_int x t j u _ _ _ _ h
   ·rw[C4r] at h;exact wpAny_eqBool_str h
 «strs»:=λk x t v h=>by
  rcases A0n h with ⟨i,u,rfl,e⟩ | ⟨y,u,rfl,e⟩
  ·exact nomatch e
  ·injection e with e1 _
   subst e1
   cases v <;> rfl
theorem C4u (prog:Program) (w:World) (k:Key) (v:Value):(X6 prog w).is k v=A13 k v:=rfl
theorem C4v (prog:Program) (w:World) (i:Int) (t:Tok):(X6 prog w).is (.inl i) (.int i t)=true:=C4o i t
theorem C4w (prog:Program) (w:World) (x:Str) (t:Tok):(X6 prog w).is (.inr x) (.str x t)=true:=C4p x t
set_option genInjectivity true in
inductive V where
 | non | bl (b:Bool) | int (i:Int) | str (x:Str) | byt (b:Array UInt8) | flt (b:UInt64) | ref (a:Addr) | ty (n:String)
 deriving DecidableEq
def E1:V->Value->Prop
 | .non,u=>u=Value.none
 | .bl b,u=>u=Value.bool b
 | .int i,u=>∃t,u=Value.int i t
 | .str x,u=>∃t,u=Value.str x t
 | .byt b,u=>∃t,u=Value.bytes b t
 | .flt b,u=>∃t,u=Value.float b t
 | .ref a,u=>u=Value.ref a
 | .ty n,u=>u=Value.type n
abbrev D5:List V->List Value->Prop:=Paired E1
theorem D5.length {xs:List V} {us:List Value} (r:D5 xs us):xs.length=us.length:=Paired.length r
theorem D5.get:∀{xs:List V} {us:List Value} {i:Nat} {x:V},D5 xs us->xs[i]?=some x->∃u,us[i]?=some u/\E1 x u
 | _,_,_,_,.nil,e=>by simp at e
 | _,_,0,_,.cons r _,e=>by simp at e;subst e;exact⟨_,rfl,r⟩
 | _,_,i + 1,x,.cons _ t,e=>by
  obtain⟨u,h1,h2⟩:=D5.get (i:=i) (x:=x) t (by simpa using e)
  exact⟨u,by simpa using h1,h2⟩
theorem D5.set {x:V} {u:Value} (r:E1 x u):∀{xs:List V} {us:List Value} (i:Nat),D5 xs us->D5 (xs.set i x) (us.set i u)
 | _,_,_,.nil=>.nil
 | _,_,0,.cons _ t=>.cons r t
 | _,_,i + 1,.cons q t=>.cons q (D5.set r i t)
theorem D5.append {xs ys:List V} {us ws:List Value} (h:D5 xs us) (s:D5 ys ws):D5 (xs++ys) (us++ws):=by
 induction h with
 | nil=>exact s
 | cons r t ih=>exact .cons r ih
theorem D5.take:∀{xs:List V} {us:List Value} (n:Nat),D5 xs us->D5 (xs.take n) (us.take n)
 | _,_,0,_=>.nil
 | _,_,_ + 1,.nil=>.nil
 | _,_,n + 1,.cons r t=>.cons r (D5.take n t)
theorem D5.drop:∀{xs:List V} {us:List Value} (n:Nat),D5 xs us->D5 (xs.drop n) (us.drop n)
 | _,_,0,r=>r
 | _,_,_ + 1,.nil=>.nil
 | _,_,n + 1,.cons _ t=>D5.drop n t
def W4:Option V->Option Value->Prop
 | some v,some u=>E1 v u
 | none,none=>True
 | _,_=>False
def KV {κ:Type}:List (κ×V)->List (κ×Value)->Prop:=Paired λ(p:κ×V) (q:κ×Value)=>p.1=q.1/\E1 p.2 q.2
def kV:Key->V
 | .inl i=>.int i
 | .inr x=>.str x
inductive HO where
 | lst (xs:List V)
 | tup (xs:List V)
 | dK (kvs:List (Key×V)) | dT (kvs:List (List Key×V))
 | set (S:Int->Bool) (n:Nat)
 | ins (C dx:Addr) (fs:List (Str×V))
 | own (x:Addr)
 | xd (fs:List (Str×V))
 | met (f x:Addr)
 | rng (lo hi:Int)
 | frz (o:Obj) (u:HO)
 | tbl (ps:Array Value)
 | ext (φ:Heap->Prop)
abbrev Hp:=Addr->Option HO
def upd (H:Hp) (a:Addr) (o:HO):Hp:=λb=>if b=a then some o else H b
theorem B6 {H:Hp} {a:Addr} {o:HO}:upd H a o a=some o:=by unfold upd;rw[if_pos rfl]
theorem B8 {H:Hp} {a b:Addr} {o:HO} (h:b≠a):upd H a o b=H b:=by unfold upd;rw[if_neg h]
theorem B7l {H:Hp} {a b:Addr} {o u:HO} (h:H a=some o) (h':H b=some u) (d:o≠u):a≠b:=by
 intro e;subst e;rw[h] at h';exact d (Option.some.inj h')
theorem g6 {H:Hp} {a b:Addr} {o:HO} (h:H a=some o) (h':H b=none):a≠b:=by
 intro e;subst e;rw[h] at h';cases h'
section
variable (P:Program) (w:World)
def N5 (H:Hp) (h:Heap) (a:Addr):HO->Prop
 | .lst xs=>xs.length<=sizeLine/\∃(its:List Value) (n:Nat),D5 xs its/\h.get? a=some { cls:=.type "list",data:=.seq its.toArray n }
 | .tup xs=>xs.length<=sizeLine/\∃its:List Value,D5 xs its/\IsTup h a its.toArray
 | .dK kvs=>kvs.length<=sizeLine/\(a == sysModules)=false/\∃vs,KV kvs vs/\h.DictOf (X6 P w) a vs
 | .dT kvs=>kvs.length<=sizeLine/\(a == sysModules)=false/\∃xs:List (List Key×Addr×Value),
   Paired (λ(p:List Key×V) (q:List Key×Addr×Value)=>p.1=q.1/\H q.2.1=some (.tup (p.1.map kV))/\E1 p.2 q.2.2) kvs xs/\
   ∃o es ep,h.get? a=some o/\o.ExactDict/\o.data=.dict es ep/\es.toList=xs.map (entryOfKey (tupleKind (X6 P w)))/\(xs.map (·.1)).Nodup
 | .set S n=>h.SetOf (intKind P w) a S n
 | .ins C dx fs=>H dx=some (.own a)/\fs.length<=1000/\dx≠a/\h.get? a=some (A5i C dx)/\
   ∃mA,h.Ns1 dx mA/\(∀f,W4 (fs.lookup f) (mA f))/\PySem.Within mA (fs.map (·.1))
 | .own _=>∃o,h.get? a=some o
 | .xd fs=>∃mA,h.Ns1 a mA/\∀f,W4 (fs.lookup f) (mA f)
 | .rng lo hi=>∃t u v,h.get? a=some { cls:=.type "range",data:=.fields #[.int lo t,.int hi u,.int 1 v] }
 | .frz o u=>h.get? a=some o/\N5 H h a u
 | .tbl ps=>h.get? a=some { cls:=.none,data:=.fields ps }
 | .met f x=>h.get? a=some (PySem.W.methodObj (.ref f) (.ref x))
 | .ext φ=>φ h/\(∃o,h.get? a=some o)/\∀h1 h2:Heap,φ h1->(∀o,h1.get? a=some o->h2.get? a=some o)->φ h2
def HOk (H:Hp) (h:Heap):Prop:=∀a o,H a=some o->N5 P w H h a o
end
section
variable {P:Program} {w:World} {H H':Hp} {h h':Heap} {a:Addr} {o:HO}
theorem N5.lt (x:N5 P w H h a o):a < h.objs.size:=by
 cases o with
 | lst xs=>obtain⟨_,_,_,_,e⟩:=x;exact G9 e
 | tup xs=>obtain⟨_,_,_,p⟩:=x;exact p.lt
 | dK kvs=>obtain⟨_,_,_,_,o,_,_,e,_⟩:=x;exact G9 e
 | dT kvs=>obtain⟨_,_,_,_,o,_,_,e,_⟩:=x;exact G9 e
 | set S n=>obtain⟨o,_,_,_,e,_⟩:=x;exact G9 e
 | ins C dx fs=>obtain⟨_,_,_,e,_⟩:=x;exact G9 e
 | own y=>obtain⟨_,e⟩:=x;exact G9 e
 | xd fs=>obtain⟨_,⟨_,_,_,e,_⟩,_⟩:=x;exact G9 e
 | rng lo hi=>obtain⟨_,_,_,e⟩:=x;exact G9 e
 | frz ob u=>obtain⟨e,_⟩:=x;exact G9 e
 | tbl ps=>exact G9 (show h.get? a=some _ from x)
 | met f y=>exact G9 (show h.get? a=some _ from x)
 | ext φ=>obtain⟨_,⟨_,e⟩,_⟩:=x;exact G9 e
theorem Paired.mapP {α β:Type} {F G:α->β->Prop} {l₁:List α} {l₂:List β} (h:Paired F l₁ l₂) (f:∀a b,F a b->G a b):Paired G l₁ l₂:=by
 induction h with
 | nil=>exact .nil
 | cons r t ih=>exact .cons (f _ _ r) ih
theorem N5.stay (x:N5 P w H h a o) (k:∀b u,(b=a\/H b=some (.own a))->h.get? b=some u->h'.get? b=some u)
  (ho:∀b,H b=some (.own a)->H' b=some (.own a)) (ht:∀b xs,H b=some (.tup xs)->H' b=some (.tup xs)):N5 P w H' h' a o:=by
 induction o with
 | lst xs=>obtain⟨z,its,n,r,e⟩:=x;exact⟨z,its,n,r,k _ _ (.inl rfl) e⟩
 | tup xs=>obtain⟨z,its,r,ob,e,c⟩:=x;exact⟨z,its,r,ob,k _ _ (.inl rfl) e,c⟩
 | dK kvs=>obtain⟨z,y,vs,r,ob,es,ep,e,c⟩:=x;exact⟨z,y,vs,r,ob,es,ep,k _ _ (.inl rfl) e,c⟩
 | dT kvs=>
  obtain⟨z,y,xs,r,ob,es,ep,e,c⟩:=x
  exact⟨z,y,xs,Paired.mapP r λp q z=>⟨z.1,ht _ _ z.2.1,z.2.2⟩,ob,es,ep,k _ _ (.inl rfl) e,c⟩
 | set S n=>obtain⟨ob,es,ep,t,e,c⟩:=x;exact⟨ob,es,ep,t,k _ _ (.inl rfl) e,c⟩
 | ins C dx fs=>
  obtain⟨d,z,ne,e,mA,⟨od,es,ep,e2,c⟩,r⟩:=x
  exact⟨ho _ d,z,ne,k _ _ (.inl rfl) e,mA,⟨od,es,ep,k _ _ (.inr d) e2,c⟩,r⟩
 | own y=>obtain⟨ob,e⟩:=x;exact⟨ob,k _ _ (.inl rfl) e⟩
 | xd fs=>obtain⟨mA,⟨od,es,ep,e,c⟩,r⟩:=x;exact⟨mA,⟨od,es,ep,k _ _ (.inl rfl) e,c⟩,r⟩
 | rng lo hi=>obtain⟨t,u,v,e⟩:=x;exact⟨t,u,v,k _ _ (.inl rfl) e⟩
 | frz ob u ih=>obtain⟨e,q⟩:=x;exact⟨k _ _ (.inl rfl) e,ih q⟩
 | tbl ps=>
  have e:h.get? a=some { cls:=.none,data:=.fields ps }:=x
  show h'.get? a=some { cls:=.none,data:=.fields ps }
  exact k a _ (.inl rfl) e
 | met f y=>
  have e:h.get? a=some (PySem.W.methodObj (.ref f) (.ref y)):=x
  show h'.get? a=some (PySem.W.methodObj (.ref f) (.ref y))
  exact k a _ (.inl rfl) e
 | ext φ=>obtain⟨p,⟨o,e⟩,st⟩:=x;exact⟨st _ _ p λo q=>k _ _ (.inl rfl) q,⟨o,k _ _ (.inl rfl) e⟩,st⟩
theorem HOk.lt (x:HOk P w H h) (e:H a=some o):a < h.objs.size:=(x a o e).lt
theorem HOk.fresh (x:HOk P w H h) (e:h.objs.size<=a):H a=none:=by
 cases q:H a with
 | none=>rfl
 | some u=>exact absurd (X4 (x.lt q) e) (o9 _)
theorem HOk.kept (x:HOk P w H h) (k:∀b u,h.get? b=some u->h'.get? b=some u):HOk P w H h':=λa o e=>
 (x a o e).stay (λb u _ q=>k b u q) (λ_ q=>q) λ_ _ q=>q
theorem HOk.laid (x:HOk P w H h) (k:∀b u,h.get? b=some u->h'.get? b=some u) (hp:h.objs.size<=a) (new:N5 P w (upd H a o) h' a o):HOk P w (upd H a o) h':=λb u e=>by
 have hn:=x.fresh hp
 by_cases hb:b=a
 ·subst hb;rw[B6] at e;cases e;exact new
 ·rw[B8 hb] at e
  exact (x b u e).stay (λc v _ q=>k c v q) (λc q=>by rw[B8 (g6 q hn)];exact q) λc xs q=>by rw[B8 (g6 q hn)];exact q
end
def Rd (H:Hp) (a:Addr) (u:HO):Prop:=H a=some u\/∃o,H a=some (.frz o u)
theorem Rd.ok {P:Program} {w:World} {H:Hp} {h:Heap} {a:Addr} {u:HO} (r:Rd H a u) (x:HOk P w H h):N5 P w H h a u:=by
 rcases r with r | ⟨o,r⟩
 ·exact x a u r
 ·obtain⟨_,q⟩:=x a _ r
  exact q
def Mut:Option HO->Prop
 | some (.lst _)=>True
 | some (.dK _)=>True
 | some (.dT _)=>True
 | some (.set _ _)=>True
 | some (.ins _ _ _)=>True
 | some (.ext _)=>True
 | _=>False
section
variable {P:Program} {w:World} {H:Hp} {h h':Heap} {x e:Addr} {o':HO}
theorem HOk.write (ok:HOk P w H h) (mu:Mut (H x)) (he:e=x\/H e=some (.own x)) (k:∀b u,b≠e->h.get? b=some u->h'.get? b=some u) (heo:∃u,h'.get? e=some u)
  (new:N5 P w (upd H x o') h' x o'):HOk P w (upd H x o') h':=λb u q=>by
 have nown:∀c y,H c=some (.own y)->c≠x:=λc y r z=>by subst z;rw[r] at mu;exact mu
 have ntup:∀c xs,H c=some (.tup xs)->c≠x:=λc xs r z=>by subst z;rw[r] at mu;exact mu
 by_cases hb:b=x
 ·subst hb;rw[B6] at q;cases q;exact new
 ·rw[B8 hb] at q
  by_cases hbe:b=e
  ·have q':H b=some (.own x):=by
    rcases he with z | z
    ·exact absurd (hbe.trans z) hb
    ·rw[hbe];exact z
   rw[q] at q';cases q'
   obtain⟨v,hv⟩:=heo
   exact⟨v,by rw[hbe];exact hv⟩
  ·refine (ok b u q).stay (λc v hc r=>k c v ?_ r) (λc r=>by rw[B8 (nown c b r)];exact r) λc xs r=>by rw[B8 (ntup c xs r)];exact r
   rcases hc with rfl | hc
   ·exact hbe
   ·rintro rfl
    rcases he with z | z
    ·exact nown c b hc z
    ·rw[hc] at z;cases z;exact hb rfl
end
structure Un (fs ex:List Addr) (H H':Hp) (h h':Heap):Prop where
 keep:∀b o,h.get? b=some o->H b=none->b∉fs->b∉ex->h'.get? b=some o
 slot:∀b o,h.get? b=some o->H b=none->b∈fs->b∉ex->∃sl,h'.get? b=some { o with slots:=sl }
 free:∀b o,h.get? b=some o->H b=none->b∉ex->H' b=none
 there:∀b o,h.get? b=some o->b∉ex->∃o',h'.get? b=some o'
 tups:∀b xs,H b=some (.tup xs)->H' b=some (.tup xs)
 frzs:∀b o u,H b=some (.frz o u)->H' b=some (.frz o u)
 tbls:∀b ps,H b=some (.tbl ps)->∃more,H' b=some (.tbl (ps++more))
section
variable {fs fs' ex ex':List Addr} {H H1 H2:Hp} {h h1 h2 h':Heap} {a x e:Addr} {o:HO}
theorem Un.any (u:Un fs ex H H1 h h1) {b:Addr} {ob:Obj} (q:h.get? b=some ob) (n:H b=none) (hx:b∉ex):∃sl,h1.get? b=some { ob with slots:=sl }:=by
 by_cases hb:b∈fs
 ·exact u.slot b ob q n hb hx
 ·exact⟨ob.slots,u.keep b ob q n hb hx⟩
theorem Un.kept (k:∀b u,h.get? b=some u->h'.get? b=some u):Un fs ex H H h h':=
 ⟨λb ob q _ _ _=>k b ob q,λb ob q _ _ _=>⟨ob.slots,k b ob q⟩,λ_ _ _ n _=>n,λb ob q _=>⟨ob,k b ob q⟩,λ_ _ q=>q,λ_ _ _ q=>q,λ_ ps q=>⟨#[],by rw[q];simp⟩⟩
theorem Un.refl:Un fs ex H H h h:=Un.kept λ_ _ q=>q
theorem Un.laid (k:∀b u,h.get? b=some u->h'.get? b=some u) (hp:h.objs.size<=a) (hn:H a=none):Un fs ex H (upd H a o) h h' where
 keep:=λb u q _ _ _=>k b u q
 slot:=λb u q _ _ _=>⟨u.slots,k b u q⟩
 free:=λb u q n _=>by rw[B8 (Q1 (X4 (G9 q) hp))];exact n
 there:=λb u q _=>⟨u,k b u q⟩
 tups:=λb xs q=>by rw[B8 (g6 q hn)];exact q
 frzs:=λb u xs q=>by rw[B8 (g6 q hn)];exact q
 tbls:=λb ps q=>⟨#[],by rw[B8 (g6 q hn),q];simp⟩
theorem Un.write (mu:Mut (H x)) (he:e=x\/H e=some (.own x)) (k:∀b u,b≠e->h.get? b=some u->h'.get? b=some u) (heo:∃u,h'.get? e=some u):Un fs ex H (upd H x o) h h':=by
 have hx:∀b,H b=none->b≠x:=λb n z=>by subst z;rw[n] at mu;exact mu
 have hb:∀b,H b=none->b≠e:=λb n z=>by
  subst z
  rcases he with r | r
  ·exact hx b n r
  ·rw[n] at r;cases r
 have hm:∀b u,H b=some u->¬ Mut (some u)->b≠x:=λb u q nm z=>by subst z;rw[q] at mu;exact nm mu
 refine⟨λb u q n _ _=>k b u (hb b n) q,λb u q n _ _=>⟨u.slots,k b u (hb b n) q⟩,λb u q n _=>by rw[B8 (hx b n)];exact n,λb u q _=>?_,
  λb xs q=>by rw[B8 (hm b _ q λz=>z)];exact q,λb u xs q=>by rw[B8 (hm b _ q λz=>z)];exact q,λb ps q=>⟨#[],by rw[B8 (hm b _ q λz=>z),q];simp⟩⟩
 by_cases hbe:b=e
 ·subst hbe;exact heo
 ·exact⟨u,k b u hbe q⟩
end
def trk (h:Heap) (H:Hp):List Addr:=(T8 h.objs.size).filter λa=>(H a).isSome
def A1k (h:Heap) (H:Hp):Heap:=PySem.W.hideAll h (trk h H)
theorem C4x (h:Heap) (H:Hp):(A1k h H).objs.size=h.objs.size:=PySem.W.hideAll_size _ _
theorem C4y {h:Heap} {H:Hp} {b:Addr} {o:Obj} (e:h.get? b=some o) (n:H b=none):(A1k h H).get? b=some o:=
 PySem.W.hideAll_get _ e λhm=>by
  have q:(H b).isSome=true:=(B2v.mp hm).2
  rw[n] at q;simp at q
theorem C4z {h:Heap} {H:Hp} {b:Addr} {o:Obj} (e:(A1k h H).get? b=some o):h.get? b=some o/\H b=none:=by
 have e':h.get? b=some o:=PySem.W.of_hideAll (trk h H) e
 refine⟨e',?_⟩
 cases q:H b with
 | none=>rfl
 | some x=>
  have hm:b∈trk h H:=B2v.mpr ⟨p5.mpr (G9 e'),by simp [q]⟩
  have z:(A1k h H).get? b=none:=PySem.W.hideAll_none (trk h H) hm
  rw[z] at e;cases e
def C40 (g h:Heap) (L:Addr):List (Addr×Obj):=(T8 h.objs.size).filterMap λa=>if a=L\/(g.get? a).isSome=true then none else (h.get? a).map λo=>(a,o)
def T1 (g h:Heap) (L d:Addr):List (Addr×Obj):=(C40 g h L).filter λp=>decide (p.1≠d)
structure Mod (K:A9) (mg:Str->Option Value) (base:Heap):Prop where
 kin:K.In base
 glob:base.Ns mainGlobals mg
 blt:∃mb,base.Ns builtinsNs mb/\∀x:Str,x≠ "__name__" ->mb x=bootBuiltins x
 nolimit:base.NoLimit
structure Cx where
 prog:Program
 w:World
 K:A9
 mg:Str->Option Value
 base:Heap
 A:Around
 N:List Str
 s₀:Shared
 H₀:Hp
 env:Env
 outer:List Env
 stack:List Env
 ex:List Addr
 fn:Str->Bool
 calm:Bool
 pn:List (Addr×Obj)
 xe:Value->Shared->Prop
def frs (l:List Env):List Addr:=l.filterMap (·.frame)
abbrev Cx.fs (X:Cx):List Addr:=frs X.outer
def Vis (sc:Scope) (x:Str):Prop:=sc.names.lookup x=some .local\/sc.names.lookup x=some .cell\/sc.names.lookup x=some .free
def Loc (sc:Scope) (x:Str):Prop:=sc.names.lookup x=some .local\/sc.names.lookup x=some .cell
def B7m (env:Env) (h:Heap) (m:Str->Option Value) (x:Str) (u:Value):Prop:=
 (env.kindOf x=some .local/\m x=some u)\/((env.kindOf x=some .cell\/env.kindOf x=some .free)/\∃c,env.cells.lookup x=some c/\h.IsCell c (some u))
structure Cx.Ok (X:Cx):Prop where
 mod:Mod X.K X.mg X.base
 kind:X.env.scope.kind=.function
 glob:X.env.globals=mainGlobals
 blt:X.env.builtins=builtinsNs
 above:X.s₀.heap.objs.size<=X.env.locals
 inj:∀x y c,X.env.cells.lookup x=some c->X.env.cells.lookup y=some c->x=y
 has:∀x,(X.env.kindOf x=some .cell\/X.env.kindOf x=some .free)->∃c,X.env.cells.lookup x=some c
 cab:∀x c,X.fn x=true->X.env.cells.lookup x=some c->X.s₀.heap.objs.size<=c
 hd:X.calm=true->X.A.handled=none
 frames:X.A.frames=some X.stack
 stk:X.stack=X.outer\/(X.stack=X.env::X.outer/\X.env.frame=some X.env.locals)
 exf:∀b∈X.ex,b≠X.env.locals/\∀x c,X.env.cells.lookup x=some c->c≠b
 bs:∀b o,X.base.get? b=some o->X.s₀.heap.get? b=some o/\X.H₀ b=none
 bsz:X.base.objs.size<=X.s₀.heap.objs.size
 noex:∀b o,X.base.get? b=some o->b∉X.ex
 exfs:∀b∈X.ex,b∉X.fs
 funs:X.s₀.heap.FunFrames X.base X.outer
 frf:∀b∈X.fs,X.H₀ b=none
structure Inv (X:Cx) (pins:List (Addr×Obj)) (σ:List (Option V)) (H:Hp) (s:Shared):Prop where
 ok:X.Ok
 os:s.os=X.s₀.os
 bare:AllBare s.gens
 base:Un X.fs X.ex X.H₀ H X.s₀.heap s.heap
 loc:∃m,s.heap.Ns X.env.locals m/\∀(i:Nat) (x:Str) (v:V),X.N[i]?=some x->σ[i]?=some (some v)->Vis X.env.scope x->∃u,E1 v u/\B7m X.env s.heap m x u
 cell:∀x c,X.env.cells.lookup x=some c->∃v,s.heap.IsCell c v
 free:H X.env.locals=none
 freeC:∀x c,X.env.cells.lookup x=some c->H c=none
 pin:∀p∈X.pn++pins,s.heap.get? p.1=some p.2/\H p.1=none/\p.1≠X.env.locals/\p.1∉X.fs/\∀v,p.2.data≠.cell v
 hok:HOk X.prog X.w H s.heap
 len:σ.length=X.N.length
section
variable {X:Cx} {pins:List (Addr×Obj)} {σ:List (Option V)} {H H':Hp} {s:Shared} {h':Heap}
theorem Cx.Ok.nofr (ok:X.Ok) {b:Addr} {o:Obj} (e:X.base.get? b=some o):b∉X.fs:=λhb=>by
 have:=(ok.funs.mem hb).1
 rw[e] at this;cases this
theorem Inv.bs (I:Inv X pins σ H s):∀b o,X.base.get? b=some o->s.heap.get? b=some o/\H b=none:=λb o e=>
 ⟨I.base.keep b o (I.ok.bs b o e).1 (I.ok.bs b o e).2 (I.ok.nofr e) (I.ok.noex b o e),I.base.free b o (I.ok.bs b o e).1 (I.ok.bs b o e).2 (I.ok.noex b o e)⟩
theorem Inv.bk (I:Inv X pins σ H s):∀b o,X.base.get? b=some o->s.heap.get? b=some o:=λb o e=>(I.bs b o e).1
theorem Inv.mod (I:Inv X pins σ H s):Mod X.K X.mg X.base:=I.ok.mod
theorem Inv.kIn (I:Inv X pins σ H s):X.K.In s.heap:=I.ok.mod.kin.keeps I.bk
theorem Inv.lt (I:Inv X pins σ H s):X.env.locals < s.heap.objs.size:=let ⟨_,hn,_⟩:=I.loc;hn.lt
theorem Inv.sz (I:Inv X pins σ H s):X.s₀.heap.objs.size<=s.heap.objs.size:=b3 I.ok.above (A8o I.lt)
theorem Inv.nofs (I:Inv X pins σ H s) {a:Addr} (h:s.heap.objs.size<=a):a∉X.fs:=λhb=>by
 obtain⟨_,o,ho,_⟩:=I.ok.funs.mem hb
 exact absurd (X4 (G9 ho) (b3 I.sz h)) (o9 _)
theorem Inv.cne (I:Inv X pins σ H s):∀x c,X.env.cells.lookup x=some c->c≠X.env.locals:=λx c e z=>by
 obtain⟨v,o,ho,hd⟩:=I.cell x c e
 obtain⟨m,⟨o',es,ep,ho',hd',_⟩,_⟩:=I.loc
 rw[z,ho'] at ho;cases ho;rw[hd'] at hd;cases hd
theorem Inv.funs (I:Inv X pins σ H s):s.heap.FunFrames X.base X.outer:=by
 have all:∀(l:List Env),(∀b∈frs l,b∈X.fs)->X.s₀.heap.FunFrames X.base l->s.heap.FunFrames X.base l:=by
  intro l
  induction l with
  | nil=>intro _ _;trivial
  | cons env r ih=>
   intro hs hl
   obtain⟨hk,⟨L,o,hf,hn,ho,hd⟩,hr⟩:=hl
   have hL:L∈X.fs:=hs L (by unfold frs;rw[C4c,hf];exact D9)
   obtain⟨sl,e⟩:=I.base.slot L o ho (I.ok.frf L hL) hL λz=>I.ok.exfs L z hL
   exact⟨hk,⟨L,_,hf,hn,e,hd⟩,ih (λb hb=>hs b (by unfold frs;rw[C4c,hf];exact D3 _ hb)) hr⟩
 exact all X.outer (λ_ hb=>hb) I.ok.funs
theorem Inv.stack (I:Inv X pins σ H s):s.heap.FunFrames X.base X.stack:=by
 rcases I.ok.stk with e | ⟨e,hf⟩
 ·rw[e];exact I.funs
 ·rw[e]
  obtain⟨m,hn,_⟩:=I.loc
  refine .cons (by rw[I.ok.kind];decide) hf hn ?_ I.funs
  exact Heap.get?_none_of_le (b3 I.ok.bsz I.ok.above)
theorem Inv.stkSub (I:Inv X pins σ H s):∀b∈frs X.stack,b∈X.env.locals::X.fs:=λb hb=>by
 rcases I.ok.stk with e | ⟨e,hf⟩
 ·rw[e] at hb;exact D3 _ hb
 ·rw[e] at hb
  unfold frs at hb
  rw[C4c,hf] at hb
  exact hb
theorem Inv.stkFree (I:Inv X pins σ H s):∀b∈frs X.stack,H b=none:=λb hb=>by
 rcases N3.mp (I.stkSub b hb) with e | hb
 ·rw[e];exact I.free
 ·obtain⟨_,o,ho,_⟩:=I.ok.funs.mem hb
  exact I.base.free b o ho (I.ok.frf b hb) λz=>I.ok.exfs b z hb
theorem Inv.step {g':Array GenState} {t':Nat} {d':Drawn} {ch:List Addr} (I:Inv X pins σ H s)
  (hch:∀b∈ch,(b∈X.ex\/X.s₀.heap.objs.size<=b)/\b≠X.env.locals/\(∀x c,X.env.cells.lookup x=some c->c≠b)/\∀p∈X.pn++pins,p.1≠b)
  (keep:∀b o,b≠X.env.locals->b∉X.fs->b∉ch->s.heap.get? b=some o->H b=none->h'.get? b=some o)
  (slot:∀b o,b≠X.env.locals->b∈X.fs->b∉ch->s.heap.get? b=some o->H b=none->∃sl,h'.get? b=some { o with slots:=sl }) (free:∀b o,b∉ch->s.heap.get? b=some o->H b=none->H' b=none)
  (there:∀b o,b∉ch->s.heap.get? b=some o->∃o',h'.get? b=some o')
  (tups:∀b xs,H b=some (.tup xs)->H' b=some (.tup xs)) (frzs:∀b o u,H b=some (.frz o u)->H' b=some (.frz o u)) (tbls:∀b ps,H b=some (.tbl ps)->∃more,H' b=some (.tbl (ps++more)))
  (ns:∀m,s.heap.Ns X.env.locals m->h'.Ns X.env.locals m) (hok:HOk X.prog X.w H' h') (hg:AllBare g') :
  Inv X pins σ H' { s with heap:=h',gens:=g',drawn:=d',toks:=t' }:=by
 have neL:∀b o,X.s₀.heap.get? b=some o->b≠X.env.locals:=λb o e=>Q1 (X4 (G9 e) I.ok.above)
 have neC:∀b o,X.s₀.heap.get? b=some o->b∉X.ex->b∉ch:=λb o e hx hb=>by
  rcases (hch b hb).1 with z | z
  ·exact hx z
  ·exact absurd (X4 (G9 e) z) (o9 _)
 have cellK:∀x c,X.env.cells.lookup x=some c->∀v,s.heap.IsCell c v->h'.IsCell c v:=λx c e v zz1=>el2 zz1 λo ho hd=>by
  have nch:c∉ch:=λz=>(hch c z).2.2.1 x c e rfl
  by_cases hc:c∈X.fs
  ·obtain⟨sl,q⟩:=slot c o (I.cne x c e) hc nch ho (I.freeC x c e)
   exact⟨_,q,hd⟩
  ·exact⟨o,keep c o (I.cne x c e) hc nch ho (I.freeC x c e),hd⟩
 refine⟨I.ok,I.os,hg,⟨λb o e n hb hx=>?_,λb o e n hb hx=>?_,λb o e n hx=>?_,λb o e hx=>?_,λb xs e=>tups b xs (I.base.tups b xs e),λb o xs e=>frzs b o xs (I.base.frzs b o xs e),λb ps e=>?_⟩,?_,λx c e=>?_,?_,λx c e=>?_,λp hp=>?_,hok,I.len⟩
 ·exact keep b o (neL b o e) hb (neC b o e hx) (I.base.keep b o e n hb hx) (I.base.free b o e n hx)
 ·obtain⟨sl,e1⟩:=I.base.slot b o e n hb hx
  obtain⟨sl',e2⟩:=slot b _ (neL b o e) hb (neC b o e hx) e1 (I.base.free b o e n hx)
  exact⟨sl',e2⟩
 ·obtain⟨o',e1⟩:=I.base.there b o e hx
  exact free b o' (neC b o e hx) e1 (I.base.free b o e n hx)
 ·obtain⟨o',e1⟩:=I.base.there b o e hx
  exact there b o' (neC b o e hx) e1
 ·obtain⟨m1,e1⟩:=I.base.tbls b ps e
  obtain⟨m2,e2⟩:=tbls b _ e1
  exact⟨m1++m2,by rw[e2,Array.append_assoc]⟩
 ·obtain⟨m,hn,hl⟩:=I.loc
  refine⟨m,ns m hn,λi x v e1 e2 e3=>?_⟩
  obtain⟨u,r,l⟩:=hl i x v e1 e2 e3
  refine⟨u,r,?_⟩
  rcases l with l | ⟨k,c,e,z⟩
  ·exact .inl l
  ·exact .inr ⟨k,c,e,cellK x c e _ z⟩
 ·obtain⟨v,z⟩:=I.cell x c e
  exact⟨v,cellK x c e v z⟩
 ·obtain⟨m,⟨o,_,_,ho,_⟩,_⟩:=I.loc
  exact free _ o (λz=>(hch _ z).2.1 rfl) ho I.free
 ·obtain⟨v,o,ho,hd⟩:=I.cell x c e
  exact free c o (λz=>(hch c z).2.2.1 x c e rfl) ho (I.freeC x c e)
 ·obtain⟨e,n,ne,nf,d⟩:=I.pin p hp
  have nch:p.1∉ch:=λz=>(hch p.1 z).2.2.2 p hp rfl
  exact⟨keep p.1 p.2 ne nf nch e n,free p.1 p.2 nch e n,ne,nf,d⟩
theorem Inv.un {t':Nat} (I:Inv X pins σ H s) (u:Un X.fs [] H H' s.heap h') (hok:HOk X.prog X.w H' h'):Inv X pins σ H' { s with heap:=h',toks:=t' }:=by
 obtain⟨m,⟨o,es,ep,ho,r⟩,_⟩:=id I.loc
 obtain⟨sl,hL⟩:=u.any ho I.free (by simp)
 exact I.step (g':=s.gens) (d':=s.drawn) (ch:=[]) (λ_ z=>nomatch z) (λb o _ hb _ e n=>u.keep b o e n hb (by simp)) (λb o _ hb _ e n=>u.slot b o e n hb (by simp)) (λb o _ e n=>u.free b o e n (by simp)) (λb o _ e=>u.there b o e (by simp)) u.tups u.frzs u.tbls (λm' hm=>by
  obtain⟨o',es',ep',ho',r'⟩:=hm
  rw[ho] at ho';cases ho'
  exact⟨_,es',ep',hL,r'⟩) hok I.bare
theorem Inv.call {g':Array GenState} {t':Nat} {d':Drawn} {ch:List Addr} (I:Inv X pins σ H s) (u:Un (frs X.stack) ch H H' s.heap h') (hok:HOk X.prog X.w H' h') (hg:AllBare g')
  (hch:∀b∈ch,(b∈X.ex\/X.s₀.heap.objs.size<=b)/\b≠X.env.locals/\(∀x c,X.env.cells.lookup x=some c->c≠b)/\∀p∈X.pn++pins,p.1≠b) :
  Inv X pins σ H' { s with heap:=h',gens:=g',drawn:=d',toks:=t' }:=by
 obtain⟨m,⟨o,es,ep,ho,r⟩,_⟩:=id I.loc
 obtain⟨sl,hL⟩:=u.any ho I.free λz=>(hch _ z).2.1 rfl
 exact I.step (ch:=ch) hch (λb o hL hb hc e n=>u.keep b o e n (λz=>(N3.mp (I.stkSub b z)).elim hL hb) hc) (λb o _ _ hc e n=>u.any e n hc) (λb o hc e n=>u.free b o e n hc) (λb o hc e=>u.there b o e hc) u.tups u.frzs u.tbls (λm' hm=>by
  obtain⟨o',es',ep',ho',r'⟩:=hm
  rw[ho] at ho';cases ho'
  exact⟨_,es',ep',hL,r'⟩) hok hg
theorem Inv.turned {t':Nat} {it:Addr} (I:Inv X pins σ H s) (k:∀b o,b≠it->s.heap.get? b=some o->h'.get? b=some o) (hn:H it=none) (hL:it≠X.env.locals)
  (h1:it∈X.ex\/X.s₀.heap.objs.size<=it) (h2:∀x c,X.env.cells.lookup x=some c->c≠it) (h3:∀p∈X.pn++pins,p.1≠it):Inv X pins σ H { s with heap:=h',toks:=t' }:=by
 have nit:∀b u,H b=some u->b≠it:=λb u e z=>by rw[z,hn] at e;cases e
 refine I.step (g':=s.gens) (d':=s.drawn) (ch:=[it]) (λb hb=>?_) (λb o _ _ hc e _=>k b o (λz=>hc (by simp [z])) e) (λb o _ _ hc e _=>⟨o.slots,k b o (λz=>hc (by simp [z])) e⟩) (λ_ _ _ _ n=>n)
  (λb o hc e=>⟨o,k b o (λz=>hc (by simp [z])) e⟩) (λ_ _ e=>e) (λ_ _ _ e=>e) (λb ps e=>⟨#[],by rw[e];simp⟩) (λm hm=>?_) (λb u e=>?_) I.bare
 ·have e:b=it:=by simpa using hb
  subst e
  exact⟨h1,hL,h2,h3⟩
 ·obtain⟨o,es,ep,ho,r⟩:=hm
  exact⟨o,es,ep,k _ o (Ne.symm hL) ho,r⟩
 ·refine (I.hok b u e).stay (λc v hc q=>k c v ?_ q) (λ_ q=>q) λ_ _ q=>q
  rcases hc with z | z
  ·rw[z];exact nit b u e
  ·exact nit c _ z
theorem Inv.tok (I:Inv X pins σ H s) (t:Nat):Inv X pins σ H { s with toks:=t }:=I.un (h':=s.heap) (t':=t) Un.refl I.hok
theorem Inv.kept {t':Nat} (I:Inv X pins σ H s) (k:∀b u,s.heap.get? b=some u->h'.get? b=some u):Inv X pins σ H { s with heap:=h',toks:=t' }:=I.un (Un.kept k) (I.hok.kept k)
theorem Inv.laid {a:Addr} {o:HO} {t':Nat} (I:Inv X pins σ H s) (k:∀b u,s.heap.get? b=some u->h'.get? b=some u) (hp:s.heap.objs.size<=a) (new:N5 X.prog X.w (upd H a o) h' a o) :
  Inv X pins σ (upd H a o) { s with heap:=h',toks:=t' }:=I.un (Un.laid k hp (I.hok.fresh hp)) (I.hok.laid k hp new)
theorem Inv.write {x e:Addr} {o:HO} {t':Nat} (I:Inv X pins σ H s) (mu:Mut (H x)) (he:e=x\/H e=some (.own x)) (k:∀b u,b≠e->s.heap.get? b=some u->h'.get? b=some u) (heo:∃u,h'.get? e=some u)
  (new:N5 X.prog X.w (upd H x o) h' x o):Inv X pins σ (upd H x o) { s with heap:=h',toks:=t' }:=I.un (Un.write mu he k heo) (I.hok.write mu he k heo new)
theorem Inv.weak {σ':List (Option V)} (I:Inv X pins σ H s) (hl:σ'.length=σ.length) (w:∀(i:Nat) v,σ'[i]?=some (some v)->σ[i]?=some (some v)):Inv X pins σ' H s:=
 ⟨I.ok,I.os,I.bare,I.base,let ⟨m,hn,hl'⟩:=I.loc;⟨m,hn,λi x v e1 e2 e3=>hl' i x v e1 (w i v e2) e3⟩,I.cell,I.free,I.freeC,I.pin,I.hok,hl.trans I.len⟩
theorem Inv.pins_of {pins':List (Addr×Obj)} (I:Inv X pins σ H s) (h:∀p∈pins',s.heap.get? p.1=some p.2/\H p.1=none/\p.1≠X.env.locals/\p.1∉X.fs/\∀v,p.2.data≠.cell v):Inv X pins' σ H s:=
 ⟨I.ok,I.os,I.bare,I.base,I.loc,I.cell,I.free,I.freeC,λp hp=>(A0g.mp hp).elim (λz=>I.pin p (C4d _ z)) (h p),I.hok,I.len⟩
theorem B0t {N:List Str} (hN:N.Nodup) {i j:Nat} {x:Str} (a:N[i]?=some x) (b:N[j]?=some x):i=j:=by
 obtain⟨h1,e1⟩:=A1d.mp a
 obtain⟨h2,e2⟩:=A1d.mp b
 exact (List.getElem_inj hN).mp (e1.trans e2.symm)
theorem B7n {M:Model} {A:Around} {E:Value->Shared->Prop} {i:Nat} {x:Str} {v:V} {u:Value} {Q:Unit->Shared->Prop} (I:Inv X pins σ H s) (hN:X.N.Nodup) (hi:X.N[i]?=some x) (hx:Loc X.env.scope x) (r:E1 v u)
  (h:∀s',Inv X pins (σ.set i (some v)) H s'->(∃a,Heap.SameBut a s.heap s'.heap/\(a=X.env.locals\/X.env.cells.lookup x=some a))->Q () s') (hf:X.fn x=true\/X.env.scope.names.lookup x=some .local:=by first | exact .inl rfl | exact .inr rfl | assumption):wpAny M A (storeName X.env x u) Q E s:=by
 obtain⟨m,hn,hl⟩:=id I.loc
 have hcls:(X.env.scope.kind == .class||(X.env.scope.kind == .module&&X.env.locals != X.env.globals))=false:=by rw[I.ok.kind];rfl
 have hiσ:i < σ.length:=by rw[I.len];exact (A1d.mp hi).1
 have cne:=I.cne
 have tracked:∀{a:Addr} {h':Heap},(∃o,s.heap.get? a=some o/\H a=none)->Heap.SameBut a s.heap h'->HOk X.prog X.w H h':=λ{a h'} ha hs b ob e=>by
  obtain⟨_,_,hfree⟩:=ha
  refine (I.hok b ob e).stay (λc w' hc q=>(hs.2 c ?_).trans q) (λ_ q=>q) λ_ _ q=>q
  rintro rfl
  rcases hc with rfl | hc
  ·rw[hfree] at e;cases e
  ·rw[hfree] at hc;cases hc
 rcases hx with hk | hk
 ·refine wpAny_storeName_local hk hn (λh' hn' hs=>?_) hcls
  obtain⟨oL,_,_,hoL,_⟩:=id hn
  refine h _ ⟨I.ok,I.os,I.bare,⟨λb o e n hb hx=>?_,λb o e n hb hx=>?_,I.base.free,λb o e hx=>?_,I.base.tups,I.base.frzs,I.base.tbls⟩,⟨_,hn',λj y v' e1 e2 e3=>?_⟩,λy c e=>?_,I.free,I.freeC,λp hp=>?_,tracked ⟨oL,hoL,I.free⟩ hs,by simpa using I.len⟩ ⟨_,hs,.inl rfl⟩
  ·exact (hs.2 b (Q1 (X4 (G9 e) I.ok.above))).trans (I.base.keep b o e n hb hx)
  ·obtain⟨sl,e1⟩:=I.base.slot b o e n hb hx
   exact⟨sl,(hs.2 b (Q1 (X4 (G9 e) I.ok.above))).trans e1⟩
  ·obtain⟨o',e1⟩:=I.base.there b o e hx
   exact⟨o',(hs.2 b (Q1 (X4 (G9 e) I.ok.above))).trans e1⟩
  ·by_cases hj:j=i
   ·subst hj
    rw[hi] at e1;cases e1
    rw[List.getElem?_set_self hiσ] at e2
    cases e2
    exact⟨u,r,.inl ⟨hk,by simp⟩⟩
   ·rw[A1e (Ne.symm hj)] at e2
    obtain⟨u',r',q⟩:=hl j y v' e1 e2 e3
    refine⟨u',r',?_⟩
    rcases q with ⟨k,e⟩ | ⟨k,c,e,z⟩
    ·refine .inl ⟨k,?_⟩
     have:y≠x:=λe=>hj (B0t hN e1 (e▸hi))
     simp [this,e]
    ·exact .inr ⟨k,c,e,z.sameBut hs (cne y c e)⟩
  ·obtain⟨w',z⟩:=I.cell y c e
   exact⟨w',z.sameBut hs (cne y c e)⟩
  ·obtain⟨e,n,ne,nf,d⟩:=I.pin p hp
   exact⟨(hs.2 p.1 ne).trans e,n,ne,nf,d⟩
 ·have hfn:X.fn x=true:=by
   rcases hf with z | z
   ·exact z
   ·rw[z] at hk;cases hk
  obtain⟨c,hc⟩:=I.ok.has x (.inl hk)
  obtain⟨w',z⟩:=I.cell x c hc
  refine wpAny_storeName_cell I.ok.kind hk hc z (λh' hc' hs=>?_)
  obtain⟨oc,hoc,hocd⟩:=id z
  refine h { s with heap:=h' } ⟨I.ok,I.os,I.bare,⟨λb o e n hb hx=>?_,λb o e n hb hx=>?_,I.base.free,λb o e hx=>?_,I.base.tups,I.base.frzs,I.base.tbls⟩,⟨m,hn.sameBut hs (Ne.symm (cne x c hc)),λj y v' e1 e2 e3=>?_⟩,λy c' e=>?_,I.free,I.freeC,λp hp=>?_,tracked ⟨oc,hoc,I.freeC x c hc⟩ hs,by simpa using I.len⟩ ⟨c,hs,.inr hc⟩
  ·exact (hs.2 b (Q1 (X4 (G9 e) (I.ok.cab x c hfn hc)))).trans (I.base.keep b o e n hb hx)
  ·obtain⟨sl,e1⟩:=I.base.slot b o e n hb hx
   exact⟨sl,(hs.2 b (Q1 (X4 (G9 e) (I.ok.cab x c hfn hc)))).trans e1⟩
  ·obtain⟨o',e1⟩:=I.base.there b o e hx
   exact⟨o',(hs.2 b (Q1 (X4 (G9 e) (I.ok.cab x c hfn hc)))).trans e1⟩
  ·by_cases hj:j=i
   ·subst hj
    rw[hi] at e1;cases e1
    rw[List.getElem?_set_self hiσ] at e2
    cases e2
    exact⟨u,r,.inr ⟨.inl hk,c,hc,hc'⟩⟩
   ·rw[A1e (Ne.symm hj)] at e2
    obtain⟨u',r',q⟩:=hl j y v' e1 e2 e3
    refine⟨u',r',?_⟩
    rcases q with q | ⟨k,c',e,z'⟩
    ·exact .inl q
    ·refine .inr ⟨k,c',e,z'.sameBut hs ?_⟩
     rintro rfl
     exact hj (B0t hN e1 (I.ok.inj _ _ _ e hc▸hi))
  ·by_cases hcc:c'=c
   ·subst hcc;exact⟨_,hc'⟩
   ·obtain⟨w2,z2⟩:=I.cell y c' e
    exact⟨w2,z2.sameBut hs hcc⟩
  ·obtain⟨e,n,ne,nf,d⟩:=I.pin p hp
   refine⟨(hs.2 p.1 ?_).trans e,n,ne,nf,d⟩
   intro q
   rw[q,hoc] at e
   have q':oc=p.2:=Option.some.inj e
   exact d w' (by rw[<-q'];exact hocd)
theorem A5u {M:Model} {A:Around} {E:Value->Shared->Prop} {i:Nat} {x:Str} {v:V} {u:Value} {Q:Unit->Shared->Prop} (I:Inv X pins σ H s) (hN:X.N.Nodup) (hi:X.N[i]?=some x) (hx:Loc X.env.scope x) (r:E1 v u)
  (h:∀s',Inv X pins (σ.set i (some v)) H s'->Q () s') (hf:X.fn x=true\/X.env.scope.names.lookup x=some .local:=by first | exact .inl rfl | exact .inr rfl | assumption):wpAny M A (storeName X.env x u) Q E s:=
 B7n I hN hi hx r (λs' I' _=>h s' I') hf
theorem Inv.call' {s':Shared} {ch:List Addr} (I:Inv X pins σ H s) (ho:s'.os=s.os) (u:Un (frs X.stack) ch H H' s.heap s'.heap) (hok:HOk X.prog X.w H' s'.heap) (hg:AllBare s'.gens)
  (hch:∀b∈ch,(b∈X.ex\/X.s₀.heap.objs.size<=b)/\b≠X.env.locals/\(∀x c,X.env.cells.lookup x=some c->c≠b)/\∀p∈X.pn++pins,p.1≠b):Inv X pins σ H' s':=by
 obtain⟨h',g',d',t',o'⟩:=s'
 have e:o'=s.os:=ho
 subst e
 exact I.call (g':=g') (t':=t') (d':=d') u hok hg hch
end
abbrev XK:=Value->Option Addr->Hp->Prop
abbrev St:=List (Option V)
abbrev VK:=V->Hp->Prop
abbrev TE:=St->Hp->VK->Prop
abbrev TT:=St->Hp->(Bool->Hp->Prop)->Prop
abbrev TA:=St->Hp->(List V->Hp->Prop)->Prop
structure j9 where
 nx:St->Hp->Prop
 rt:VK
 bk:St->Hp->Prop:=λ_ _=>False
 ct:St->Hp->Prop:=λ_ _=>False
abbrev TS:=j9->St->Hp->Prop
def EP (X:Cx) (pins:List (Addr×Obj)) (σ:St) (Q:VK) (u:Value) (s':Shared):Prop:=∃v H',Inv X pins σ H' s'/\E1 v u/\Q v H'
def TP (X:Cx) (pins:List (Addr×Obj)) (σ:St) (Q:Bool->Hp->Prop) (b:Bool) (s':Shared):Prop:=∃H',Inv X pins σ H' s'/\Q b H'
def AP (X:Cx) (pins:List (Addr×Obj)) (σ:St) (Q:List V->Hp->Prop) (us:List Value) (s':Shared):Prop:=∃vs H',Inv X pins σ H' s'/\D5 vs us/\Q vs H'
def SP (X:Cx) (pins:List (Addr×Obj)) (D:j9) (f:Flow) (s':Shared):Prop:=
 match f with
 | .next=>∃σ' H',Inv X pins σ' H' s'/\D.nx σ' H'
 | .brk=>∃σ' H',Inv X pins σ' H' s'/\D.bk σ' H'
 | .cont=>∃σ' H',Inv X pins σ' H' s'/\D.ct σ' H'
 | .ret u=>∃v σ' H',Inv X pins σ' H' s'/\E1 v u/\D.rt v H'
def PE (X:Cx) (e:Expr) (t:TE):Prop:=
 ∀(pins:List (Addr×Obj)) (s:Shared) (σ:St) (H:Hp) (Q:VK),Inv X pins σ H s->t σ H Q->wpAny (model X.prog X.w) X.A (eval e X.env) (EP X pins σ Q) X.xe s
def PT (X:Cx) (e:Expr) (t:TT):Prop:=
 ∀(pins:List (Addr×Obj)) (s:Shared) (σ:St) (H:Hp) (Q:Bool->Hp->Prop),Inv X pins σ H s->t σ H Q->wpAny (model X.prog X.w) X.A (isTrue e X.env (eval e X.env)) (TP X pins σ Q) X.xe s
def PW (X:Cx) (e:Expr) (t:TT):Prop:=
 ∀(whole:Sem Value) (pins:List (Addr×Obj)) (s:Shared) (σ:St) (H:Hp) (Q:Bool->Hp->Prop),Inv X pins σ H s->t σ H Q->wpAny (model X.prog X.w) X.A (isTrue e X.env whole) (TP X pins σ Q) X.xe s
theorem PW.pt {X:Cx} {e:Expr} {t:TT} (h:PW X e t):PT X e t:=h _
def PA (X:Cx) (es:List Expr) (t:TA):Prop:=
 ∀(pos:Pos) (pins:List (Addr×Obj)) (s:Shared) (σ:St) (H:Hp) (Q:List V->Hp->Prop),Inv X pins σ H s->t σ H Q->wpAny (model X.prog X.w) X.A (spliced (backTo pos (starEach es X.env))) (AP X pins σ Q) X.xe s
def PS (X:Cx) (st:Stmt) (t:TS):Prop:=
 ∀(pins:List (Addr×Obj)) (s:Shared) (σ:St) (H:Hp) (D:j9),Inv X pins σ H s->t D σ H->wpAny (model X.prog X.w) X.A (exec st X.env) (SP X pins D) X.xe s
def PSs (X:Cx) (st:List Stmt) (t:TS):Prop:=
 ∀(pins:List (Addr×Obj)) (s:Shared) (σ:St) (H:Hp) (D:j9),Inv X pins σ H s->t D σ H->wpAny (model X.prog X.w) X.A (execs st X.env) (SP X pins D) X.xe s
theorem thn {α:Type} {t:Sem α} {Q Q':α->Shared->Prop} {M:Model} {A:Around} {E:Value->Shared->Prop} {s:Shared} (h:wpAny M A t Q E s) (hQ:∀a s,Q a s->Q' a s):wpAny M A t Q' E s:=wpAny_mono h hQ λ_ _ x=>x
section
variable {X:Cx}
def U7 (i:Nat):TE:=fun σ H Q=>∃v,σ[i]?=some (some v)/\Q v H
def tC (v:V):TE:=λ_ H Q=>Q v H
theorem C41 {i:Nat} {x:Str} {pos:Pos} (hN:X.N[i]?=some x) (hv:Vis X.env.scope x) (hd:(x == ("__debug__" : Str))=false:=by decide) (hcd:(x == ("__classdict__" : Str))=false:=by decide):PE X (.Name x pos) (U7 i):=by
 intro pins s σ H Q I h
 obtain⟨v,e,h⟩:=h
 obtain⟨m,hn,hl⟩:=I.loc
 obtain⟨u,r,l⟩:=hl i x v hN e hv
 have fin:EP X pins σ Q u s:=⟨v,H,I,r,h⟩
 rcases l with ⟨hk,hm⟩ | ⟨hk,c,hc,hcell⟩
 ·exact wpAny_Name (wpAny_loadName_local I.ok.kind hk hn hm fin) hd
 ·rcases hk with hk | hk
  ·exact wpAny_Name (wpAny_loadName_cell I.ok.kind hk hc hcell fin) hd
  ·exact wpAny_Name (wpAny_loadName_free I.ok.kind hk hc hcell fin hcd) hd
theorem A8 {i j pos}:PE X (.Constant (.int i) j pos) (tC (.int i)):=λ_ _ _ H _ I h=>wpAny_Constant_int ⟨.int i,H,I.tok _,⟨_,rfl⟩,h⟩
theorem A0o {b j pos}:PE X (.Constant (.bool b) j pos) (tC (.bl b)):=λ_ _ _ H _ I h=>Constant_bool ⟨.bl b,H,I,rfl,h⟩
theorem A0p {j pos}:PE X (.Constant .none j pos) (tC .non):=λ_ _ _ H _ I h=>Constant_none ⟨.non,H,I,rfl,h⟩
theorem Y7 {x j pos}:PE X (.Constant (.str x) j pos) (tC (.str x)):=λ_ _ _ H _ I h=>Calls.Constant_str ⟨.str x,H,I.tok _,⟨_,rfl⟩,h⟩
def Gl (X:Cx) (x:Str):Prop:=X.env.kindOf x=some .globalImplicit
theorem B3a {E:Value->Shared->Prop} {pins:List (Addr×Obj)} {s:Shared} {σ:St} {H:Hp} {x:Str} {u:Value} {pos:Pos} {Q:Value->Shared->Prop} (I:Inv X pins σ H s) (hg:Gl X x) (hm:X.mg x=some u) (h:Q u s)
  (hd:(x == ("__debug__" : Str))=false:=by decide):wpAny (model X.prog X.w) X.A (eval (.Name x pos) X.env) Q E s:=
 Calls.Name_function_global I.ok.kind hg (Calls.loadGlobal_global (by rw[I.ok.glob];exact I.mod.glob.keeps I.bk) hm h) hd
theorem A1l {E:Value->Shared->Prop} {pins:List (Addr×Obj)} {s:Shared} {σ:St} {H:Hp} {x:Str} {u:Value} {pos:Pos} {Q:Value->Shared->Prop} (I:Inv X pins σ H s) (hg:Gl X x) (hm:X.mg x=none) (hv:bootBuiltins x=some u) (h:Q u s)
  (hn:x≠ "__name__" :=by decide) (hd:(x == ("__debug__" : Str))=false:=by decide):wpAny (model X.prog X.w) X.A (eval (.Name x pos) X.env) Q E s:=by
 obtain⟨mb,h1,h2⟩:=I.mod.blt
 exact Calls.Name_function_global I.ok.kind hg (Calls.loadGlobal_builtin (by rw[I.ok.glob];exact I.mod.glob.keeps I.bk) hm (by rw[I.ok.blt];exact h1.keeps I.bk) ((h2 x hn).trans hv) h) hd
theorem D0 {x:Str} {v:V} {u:Value} {pos:Pos} (hg:Gl X x) (hm:X.mg x=some u) (r:E1 v u) (hd:(x == ("__debug__" : Str))=false:=by decide):PE X (.Name x pos) (tC v):=
 λ_ _ _ H _ I h=>B3a I hg hm ⟨v,H,I,r,h⟩ hd
theorem A0q {x:Str} {v:V} {u:Value} {pos:Pos} (hg:Gl X x) (hm:X.mg x=none) (hv:bootBuiltins x=some u) (r:E1 v u) (hn:x≠ "__name__" :=by decide) (hd:(x == ("__debug__" : Str))=false:=by decide):PE X (.Name x pos) (tC v):=
 λ_ _ _ H _ I h=>A1l I hg hm hv ⟨v,H,I,r,h⟩ hn hd
variable {a b:Expr} {ta tb:TE} {pos:Pos}
def PC (X:Cx) (op:CmpOp) (a b:Expr) (t:TE):Prop:=
 ∀(pins:List (Addr×Obj)) (s:Shared) (σ:St) (H:Hp) (Q:VK),Inv X pins σ H s->t σ H Q->
  wpAny (model X.prog X.w) X.A (eval a X.env) (λv s₁=>wpAny (model X.prog X.w) X.A (eval b X.env) (λu s₂=>wpAny (model X.prog X.w) X.A (compareOp op v u) (EP X pins σ Q) X.xe s₂) X.xe s₁) X.xe s
def tB (t:TE):TT:=fun σ H Q=>t σ H λx H1=>∃c,x=.bl c/\Q c H1
theorem B3b {op:CmpOp} {t:TE} (h:PC X op a b t) (h1:behindInMarks op b=false:=by first | exact nobehind _ DD DD | rfl):PT X (.Compare a [op] [b] pos) (tB t):=by
 intro pins s σ H Q I hw
 refine wpAny_isTrue_Compare1 (thn (h pins s σ H _ I hw) λv s1 h1=>thn h1 λu s2 h2=>thn h2 λc s3 zz6=>el5 zz6 λx H1 I1 r1 q1=>?_) h1
 obtain⟨d,rfl,q⟩:=q1
 cases r1
 exact wpAny_truthy_bool ⟨H1,I1,q⟩
theorem b4 {e:Expr} {t:TE} (h:PE X e t) (he:∀whole,isTrue e X.env whole=(do let v <-whole;standAt e.pos;holding [v] (truthy v)):=by intro _;rfl):PT X e (tB t):=by
 intro pins s σ H Q I hw
 refine isTrue_plain (thn (h pins s σ H _ I hw) λv s1 zz7=>el5 zz7 λx H1 I1 r1 q1=>?_) (he _)
 obtain⟨d,rfl,q⟩:=q1
 cases r1
 exact wpAny_truthy_bool ⟨H1,I1,q⟩
variable {tA tB':TT} {T1:List Expr}
def B7o (t u:TT):TT:=fun σ H Q=>t σ H λc H1=>if c=true then u σ H1 Q else Q false H1
def tOr (t u:TT):TT:=fun σ H Q=>t σ H λc H1=>if c=true then Q true H1 else u σ H1 Q
def C42 (t:TT):TT:=fun σ H Q=>t σ H λc H1=>Q (!c) H1
theorem A81 (ha:PT X a tA):PW X (.BoolOp .And [a] pos) tA:=by
 intro wh pins s σ H Q I h
 refine isTrue_and (thn (ha pins s σ H Q I h) λc s1 e=>?_)
 cases c with
 | true=>exact isTrue_and_nil e
 | false=>exact e
theorem A14 (ha:PT X a tA):PW X (.BoolOp .Or [a] pos) tA:=by
 intro wh pins s σ H Q I h
 refine isTrue_or (thn (ha pins s σ H Q I h) λc s1 e=>?_)
 cases c with
 | false=>exact isTrue_or_nil e
 | true=>exact e
theorem A82 (ha:PT X a tA) (hb:PW X (.BoolOp .And (b::T1) pos) tB'):PW X (.BoolOp .And (a::b::T1) pos) (B7o tA tB'):=by
 intro wh pins s σ H Q I h
 refine isTrue_and (thn (ha pins s σ H _ I h) λc s1 zz8=>el2 zz8 λH1 I1 q1=>?_)
 cases c with
 | true=>exact hb wh pins s1 σ H1 Q I1 q1
 | false=>exact⟨H1,I1,q1⟩
theorem A0r (ha:PT X a tA) (hb:PW X (.BoolOp .Or (b::T1) pos) tB'):PW X (.BoolOp .Or (a::b::T1) pos) (tOr tA tB'):=by
 intro wh pins s σ H Q I h
 refine isTrue_or (thn (ha pins s σ H _ I h) λc s1 zz9=>el2 zz9 λH1 I1 q1=>?_)
 cases c with
 | true=>exact⟨H1,I1,q1⟩
 | false=>exact hb wh pins s1 σ H1 Q I1 q1
theorem b5 (ha:PT X a tA):PT X (.UnaryOp .Not a pos) (C42 tA):=by
 intro pins s σ H Q I h
 exact isTrue_not (ha pins s σ H (λc H1=>Q (!c) H1) I h)
def C43 (ta tb:TE):TE:=fun σ H Q=>ta σ H λx H1=>∃c,x=.bl c/\if c=true then tb σ H1 Q else Q (.bl false) H1
def C44 (ta tb:TE):TE:=fun σ H Q=>ta σ H λx H1=>∃c,x=.bl c/\if c=true then Q (.bl true) H1 else tb σ H1 Q
def C45 (ta:TE):TE:=fun σ H Q=>ta σ H λx H1=>∃c,x=.bl c/\Q (.bl (!c)) H1
theorem B7p {op} {t:TE} (h:PE X a t):PE X (.BoolOp op [a] pos) t:=λpins s σ H Q I hw=>BoolOp_one (h pins s σ H Q I hw)
theorem B7q (ha:PE X a ta) (hb:PE X (.BoolOp .And (b::T1) pos) tb):PE X (.BoolOp .And (a::b::T1) pos) (C43 ta tb):=by
 intro pins s σ H Q I h
 refine BoolOp_and (thn (ha pins s σ H _ I h) λv s1 zz10=>el5 zz10 λx H1 I1 r1 q1=>?_)
 obtain⟨c,rfl,q1⟩:=q1
 cases r1
 refine wpAny_truthy_bool ?_
 cases c with
 | true=>exact hb pins s1 σ H1 Q I1 q1
 | false=>exact⟨.bl false,H1,I1,rfl,q1⟩
theorem C46 (ha:PE X a ta) (hb:PE X (.BoolOp .Or (b::T1) pos) tb):PE X (.BoolOp .Or (a::b::T1) pos) (C44 ta tb):=by
 intro pins s σ H Q I h
 refine BoolOp_or (thn (ha pins s σ H _ I h) λv s1 zz11=>el5 zz11 λx H1 I1 r1 q1=>?_)
 obtain⟨c,rfl,q1⟩:=q1
 cases r1
 refine wpAny_truthy_bool ?_
 cases c with
 | false=>exact hb pins s1 σ H1 Q I1 q1
 | true=>exact⟨.bl true,H1,I1,rfl,q1⟩
theorem C47 (ha:PE X a ta):PE X (.UnaryOp .Not a pos) (C45 ta):=by
 intro pins s σ H Q I h
 refine UnaryOp_ (thn (ha pins s σ H _ I h) λv s1 zz12=>el5 zz12 λx H1 I1 r1 q1=>?_)
 obtain⟨c,rfl,q1⟩:=q1
 cases r1
 exact not_of (wpAny_truthy_bool ⟨.bl (!c),H1,I1,rfl,q1⟩)
def tIf (t:TT) (ta tb:TE):TE:=fun σ H Q=>t σ H λc H1=>if c=true then ta σ H1 Q else tb σ H1 Q
theorem B7r {c:Expr} (hc:PT X c tA) (ha:PE X a ta) (hb:PE X b tb):PE X (.IfExp c a b pos) (tIf tA ta tb):=by
 intro pins s σ H Q I h
 refine wpAny_IfExp (thn (hc pins s σ H _ I h) λd s1 zz13=>el2 zz13 λH1 I1 q1=>?_)
 cases d with
 | true=>exact ha pins s1 σ H1 Q I1 q1
 | false=>exact hb pins s1 σ H1 Q I1 q1
end
def SqL (K:A9) (H:Hp) (a:Addr) (xs:List V):Prop:=
 Rd H a (.lst xs)\/
  ∃(o:Obj) (its:Array Value) (n:Nat),K.lookup a=some o/\o.cls=.type "list" /\o.dict=none/\o.data=.seq its n/\its.size<=sizeLine/\D5 xs its.toList
def SqT (K:A9) (H:Hp) (a:Addr) (xs:List V):Prop:=
 Rd H a (.tup xs)\/
  ∃(o:Obj) (its:Array Value) (n:Nat),K.lookup a=some o/\o.cls=.type "tuple" /\o.data=.seq its n/\its.size<=sizeLine/\D5 xs its.toList
def C48:Value->Option V
 | .none=>some .non
 | .bool b=>some (.bl b)
 | .int i _=>some (.int i)
 | .str x _=>some (.str x)
 | .bytes b _=>some (.byt b)
 | .float b _=>some (.flt b)
 | .ref a=>some (.ref a)
 | .type n=>some (.ty n)
 | _=>none
theorem E1.abs {x:V} {u:Value} (r:E1 x u):C48 u=some x:=by
 cases x with
 | non=>cases r;rfl
 | bl _=>cases r;rfl
 | int _=>obtain⟨t,rfl⟩:=r;rfl
 | str _=>obtain⟨t,rfl⟩:=r;rfl
 | byt _=>obtain⟨t,rfl⟩:=r;rfl
 | flt _=>obtain⟨t,rfl⟩:=r;rfl
 | ref _=>cases r;rfl
 | ty _=>cases r;rfl
theorem E1.inj {x y:V} {u:Value} (r:E1 x u) (q:E1 y u):x=y:=Option.some.inj (r.abs.symm.trans q.abs)
theorem D5.inj {xs ys:List V} {us:List Value} (h:D5 xs us) (k:D5 ys us):xs=ys:=by
 induction h generalizing ys with
 | nil=>cases k;rfl
 | cons r t ih=>
  cases k with
  | cons r' t'=>rw[r.inj r',ih t']
section
variable {X:Cx} {pins:List (Addr×Obj)} {σ:St} {H:Hp} {s:Shared} {a:Addr} {xs ys:List V}
theorem SqL.of {K:A9} (h:H a=some (.lst xs)):SqL K H a xs:=.inl (.inl h)
theorem SqT.of {K:A9} (h:H a=some (.tup xs)):SqT K H a xs:=.inl (.inl h)
theorem Inv.list (I:Inv X pins σ H s) (h:SqL X.K H a xs):∃its:List Value,D5 xs its/\PlainL s.heap a its.toArray/\xs.length<=sizeLine:=by
 rcases h with h | ⟨o,its,n,hk,hc,hd,hs,hz,r⟩
 ·obtain⟨z,its,n,r,e⟩:=h.ok I.hok
  exact⟨its,r,⟨_,n,e,rfl,rfl,rfl⟩,z⟩
 ·refine⟨its.toList,r,⟨o,n,I.kIn a o hk,hc,hd,by simpa using hs⟩,?_⟩
  have e:=r.length
  simp only[A8p] at e
  lia
theorem Inv.tuple (I:Inv X pins σ H s) (h:SqT X.K H a xs):∃its:List Value,D5 xs its/\IsTup s.heap a its.toArray/\xs.length<=sizeLine:=by
 rcases h with h | ⟨o,its,n,hk,hc,hs,hz,r⟩
 ·obtain⟨z,its,r,p⟩:=h.ok I.hok
  exact⟨its,r,p,z⟩
 ·refine⟨its.toList,r,⟨o,I.kIn a o hk,hc,n,by simpa using hs⟩,?_⟩
  have e:=r.length
  simp only[A8p] at e
  lia
theorem Inv.list_inj (I:Inv X pins σ H s) (h:SqL X.K H a xs) (h':SqL X.K H a ys):xs=ys:=by
 obtain⟨its,r,⟨o,n,e,_,_,d⟩,_⟩:=I.list h
 obtain⟨its',r',⟨o',n',e',_,_,d'⟩,_⟩:=I.list h'
 rw[e] at e';cases e'
 rw[d] at d'
 injection d' with d1 _
 have:its=its':=by simpa using congrArg Array.toList d1
 subst this
 exact r.inj r'
end
abbrev Cx.wish (X:Cx) (E:Value->Shared->Prop):Cx:={ X with xe:=E }
abbrev Cx.nox (X:Cx):Cx:=X.wish λ_ _=>False
theorem Cx.Ok.wish {X:Cx} (ok:X.Ok) (E:Value->Shared->Prop):(X.wish E).Ok:=
 ⟨ok.mod,ok.kind,ok.glob,ok.blt,ok.above,ok.inj,ok.has,ok.cab,ok.hd,ok.frames,ok.stk,ok.exf,ok.bs,ok.bsz,ok.noex,ok.exfs,ok.funs,ok.frf⟩
theorem Cx.Ok.unwish {X:Cx} {E:Value->Shared->Prop} (ok:(X.wish E).Ok):X.Ok:=
 ⟨ok.mod,ok.kind,ok.glob,ok.blt,ok.above,ok.inj,ok.has,ok.cab,ok.hd,ok.frames,ok.stk,ok.exf,ok.bs,ok.bsz,ok.noex,ok.exfs,ok.funs,ok.frf⟩
section
variable {X:Cx} {pins:List (Addr×Obj)} {σ:St} {H:Hp} {s:Shared} {E:Value->Shared->Prop}
theorem Inv.wish (I:Inv X pins σ H s) (E:Value->Shared->Prop):Inv (X.wish E) pins σ H s:=⟨I.ok.wish E,I.os,I.bare,I.base,I.loc,I.cell,I.free,I.freeC,I.pin,I.hok,I.len⟩
theorem Inv.unwish (I:Inv (X.wish E) pins σ H s):Inv X pins σ H s:=⟨I.ok.unwish,I.os,I.bare,I.base,I.loc,I.cell,I.free,I.freeC,I.pin,I.hok,I.len⟩
theorem SP.unwish {D:j9} {f:Flow} {s':Shared} (h:SP (X.wish E) pins D f s'):SP X pins D f s':=by
 cases f with
 | next=>obtain⟨σ',H',I,q⟩:=h;exact⟨σ',H',I.unwish,q⟩
 | brk=>obtain⟨σ',H',I,q⟩:=h;exact⟨σ',H',I.unwish,q⟩
 | cont=>obtain⟨σ',H',I,q⟩:=h;exact⟨σ',H',I.unwish,q⟩
 | ret u=>obtain⟨v,σ',H',I,r,q⟩:=h;exact⟨v,σ',H',I.unwish,r,q⟩
theorem PSs.nox {st:List Stmt} {t:TS} (h:PSs X.nox st t):PSs X st t:=λpins s σ H D I hw=>
 wpAny_mono (h pins s σ H D (I.wish _) hw) (λ_ _ q=>q.unwish) λ_ _ z=>False.elim z
end
section
variable {X:Cx} {st:Stmt} {T1:List Stmt} {t u:TS} {e:Expr} {te:TE} {pos:Pos}
def C49:TS:=λD σ H=>D.nx σ H
def A83 (t u:TS):TS:=λD σ H=>t { D with nx:=u D } σ H
theorem K4:PSs X [] C49:=λ_ _ σ H _ I h=>wpAny_execs_nil ⟨σ,H,I,h⟩
theorem B9 (h1:PS X st t) (h2:PSs X T1 u):PSs X (st::T1) (A83 t u):=by
 intro pins s σ H D I h
 refine wpAny_execs_cons (thn (h1 pins s σ H { D with nx:=u D } I h) λf s1 q=>?_)
 cases f with
 | next=>
  obtain⟨σ',H',I',q⟩:=q
  exact h2 pins s1 σ' H' D I' q
 | ret v=>exact q
 | brk=>exact q
 | cont=>exact q
theorem D7 (h1:PS X st t):PSs X [st] t:=by
 intro pins s σ H D I h
 refine wpAny_execs_cons (thn (h1 pins s σ H D I h) λf s1 q=>?_)
 cases f with
 | next=>exact wpAny_execs_nil q
 | ret v=>exact q
 | brk=>exact q
 | cont=>exact q
theorem Inv.quiet {pins:List (Addr×Obj)} {σ:St} {H:Hp} {s:Shared} (I:Inv X pins σ H s):interactive X.env=false:=by simp [interactive,I.ok.kind]
def B7s (te:TE):TS:=λD σ H=>te σ H λ_ H1=>D.nx σ H1
theorem V6 (he:PE X e te) (hs:swapsWith e none pos.line X.env=pure false:=by rfl):PS X (.Expr e pos) (B7s te):=by
 intro pins s σ H D I h
 exact wpAny_Expr_any (thn (he pins s σ H _ I h) λv s1 zz20=>el5 zz20 λx H1 I1 r1 q1=>⟨σ,H1,I1,q1⟩) I.quiet hs
def C5a (te:TE):TS:=λD σ H=>te σ H D.rt
theorem F7 (he:PE X e te):PS X (.Return (some e) pos) (C5a te):=by
 intro pins s σ H D I h
 exact wpAny_Return_some (thn (he pins s σ H _ I h) λv s1 zz21=>el5 zz21 λx H1 I1 r1 q1=>⟨x,σ,H1,I1,r1,q1⟩)
def B7t (c:TT) (t u:TS):TS:=λD σ H=>c σ H λb H1=>if b=true then t D σ H1 else u D σ H1
theorem K1 {c:Expr} {a b:List Stmt} {tc:TT} (hc:PT X c tc) (ha:PSs X a t) (hb:PSs X b u):PS X (.If c a b pos) (B7t tc t u):=by
 intro pins s σ H D I h
 refine wpAny_If (thn (hc pins s σ H _ I h) λd s1 zz22=>el2 zz22 λH1 I1 q1=>?_)
 cases d with
 | true=>exact ha pins s1 σ H1 D I1 q1
 | false=>exact hb pins s1 σ H1 D I1 q1
end
abbrev TG:=V->St->Hp->(St->Hp->Prop)->Prop
abbrev TGs:=List V->St->Hp->(St->Hp->Prop)->Prop
def PG (X:Cx) (target:Expr) (t:TG):Prop:=
 ∀(pins:List (Addr×Obj)) (s:Shared) (σ:St) (H:Hp) (v:V) (u:Value) (Q:St->Hp->Prop),Inv X pins σ H s->E1 v u->t v σ H Q->
  wpAny (model X.prog X.w) X.A (assign target X.env u) (λ_ s'=>∃σ' H',Inv X pins σ' H' s'/\Q σ' H') X.xe s
def PGs (X:Cx) (ts:List Expr) (t:TGs):Prop:=
 ∀(pins:List (Addr×Obj)) (s:Shared) (σ:St) (H:Hp) (vs:List V) (us:List Value) (Q:St->Hp->Prop),Inv X pins σ H s->D5 vs us->t vs σ H Q->
  wpAny (model X.prog X.w) X.A (assignInOrder ((assignEach ts X.env).map (·.2)) us) (λ_ s'=>∃σ' H',Inv X pins σ' H' s'/\Q σ' H') X.xe s
abbrev A84:=V->V->V->Hp->(Hp->Prop)->Prop
def B3c (X:Cx) (t:A84):Prop:=
 ∀(pins:List (Addr×Obj)) (s:Shared) (σ:St) (H:Hp) (o i v:V) (ov iv u:Value) (Q:Hp->Prop),Inv X pins σ H s->E1 o ov->E1 i iv->E1 v u->t o i v H Q->
  wpAny (model X.prog X.w) X.A (setItem ov iv u) (λ_ s'=>∃H',Inv X pins σ H' s'/\Q H') X.xe s
abbrev TIp:=V->V->Hp->VK->Prop
def PIp (X:Cx) (op:Operator) (t:TIp):Prop:=
 ∀(pins:List (Addr×Obj)) (s:Shared) (σ:St) (H:Hp) (x y:V) (v u:Value) (Q:VK),Inv X pins σ H s->E1 x v->E1 y u->t x y H Q->
  wpAny (model X.prog X.w) X.A (inplaceOp op v u) (EP X pins σ Q) X.xe s
section
variable {X:Cx} {pos:Pos}
def Y8 (i:Nat):TG:=λv σ H Q=>Q (σ.set i (some v)) H
theorem Q3 {i:Nat} {x:Str} (hN:X.N.Nodup) (hi:X.N[i]?=some x) (hx:Loc X.env.scope x) (hf:X.fn x=true\/X.env.scope.names.lookup x=some .local:=by first | exact .inl rfl | exact .inr rfl | assumption):PG X (.Name x pos) (Y8 i):=by
 intro pins s σ H v u Q I r h
 exact wpAny_assign_Name (A5u I hN hi hx r (λs' I'=>⟨_,H,I',h⟩) hf)
def B3d:TGs:=λvs σ H Q=>vs=[]/\Q σ H
def A5v (t:TG) (u:TGs):TGs:=λvs σ H Q=>∃v r,vs=v::r/\t v σ H fun σ' H'=>u r σ' H' Q
theorem A3k:PGs X [] B3d:=by
 intro pins s σ H vs us Q I r h
 obtain⟨e,h⟩:=h
 subst e
 cases r
 exact assignInOrder_nil ⟨σ,H,I,h⟩
theorem X7 {e:Expr} {es:List Expr} {t:TG} {u:TGs} (h1:PG X e t) (h2:PGs X es u)
  (hs:(assignEach (e::es) X.env).map (·.2)=assign e X.env::(assignEach es X.env).map (·.2):=by rfl):PGs X (e::es) (A5v t u):=by
 intro pins s σ H vs us Q I r h
 obtain⟨v,vr,e1,h⟩:=h
 subst e1
 cases r with
 | cons r rr=>
  rw[hs]
  refine assignInOrder_cons (thn (h1 pins s σ H _ _ _ I r h) λ_ s1 zz23=>zz23.elim fun σ1 zz24=>zz24.elim λH1 zz25=>zz25.elim λI1 q1=>?_)
  exact h2 pins s1 σ1 H1 _ _ Q I1 rr q1
def B3e (K:A9) (n:Nat) (t:TGs):TG:=λv σ H Q=>∃a xs,v=.ref a/\SqT K H a xs/\xs.length=n/\t xs σ H Q
theorem A3l {es:List Expr} {k:Nat} {t:TGs} {n:Nat} (hc:X.calm=true) (h:PGs X es t)
  (hn:(assignEach es X.env).length=n:=by rfl) (hst:(assignEach es X.env).findIdx? (·.1)=none:=by rfl):PG X (.Tuple es k pos) (B3e X.K n t):=by
 intro pins s σ H v u Q I r hw
 obtain⟨a,xs,e1,hq,hl,hw⟩:=hw
 subst e1
 cases r
 obtain⟨its,rv,ht,hz⟩:=I.tuple hq
 refine assign_Tuple_tuple (I.ok.hd hc) ht (by simp [hn,<-hl,rv.length]) hst λh' hx=>?_
 have I1:Inv X pins σ H { s with heap:=h' }:=I.kept (t':=s.toks) λb o e=>hx b o (Q1 (G9 e)) e
 exact h pins _ σ H xs _ Q I1 (by simpa using rv) hw
def B7u (to ti:TE) (t:A84):TG:=λv σ H Q=>to σ H λo H1=>ti σ H1 λi H2=>t o i v H2 λH3=>Q σ H3
theorem b6 {o i:Expr} {to ti:TE} {t:A84} (ho:PE X o to) (hi:PE X i ti) (hs:B3c X t)
  (ha:∀v,assign (.Subscript o i pos) X.env v=(do
   let ov <-holding [v] (eval o X.env)
   let iv <-holding [v,ov] (eval i X.env)
   standAt pos
   holding [v,ov,iv] (setItem ov iv v)
   release [v,ov,iv] []):=by intro _;rfl):PG X (.Subscript o i pos) (B7u to ti t):=by
 intro pins s σ H v u Q I r h
 rw[ha]
 refine wpAny_bind (wpAny_holding (thn (ho pins s σ H _ I h) λov s1 zz26=>el5 zz26 λx H1 I1 r1 q1=>?_))
 refine wpAny_bind (wpAny_holding (thn (hi pins s1 σ H1 _ I1 q1) λiv s2 zz27=>el5 zz27 λy H2 I2 r2 q2=>?_))
 refine wpAny_bind (wpAny_standAt (wpAny_bind (wpAny_holding (thn (hs pins s2 σ H2 x y v ov iv u _ I2 r1 r2 r q2) λ_ s3 zz28=>el2 zz28 λH3 I3 q3=>?_))))
 exact wpAny_release ⟨σ,H3,I3,q3⟩
def A5w (te:TE) (g:TG):TS:=λD σ H=>te σ H λx H1=>g x σ H1 D.nx
theorem V7 {tg e:Expr} {te:TE} {g:TG} (he:PE X e te) (hg:PG X tg g) (hs:swapsWithSole [tg] e pos.line X.env=pure false:=by rfl) (hw:swappedStores [tg] e X.env=pure none:=by rfl)
  (h1:(assignEach [tg] X.env).map (·.2)=[assign tg X.env]:=by rfl):PS X (.Assign [tg] e pos) (A5w te g):=by
 intro pins s σ H D I h
 refine wpAny_Assign_stores (thn (he pins s σ H _ I h) λv s1 zz29=>el5 zz29 λx H1 I1 r1 q1=>?_) hs hw
 rw[h1]
 exact thn (hg pins s1 σ H1 x v _ I1 r1 q1) λ_ s2 q=>q
theorem C0 {i:Nat} {x:Str} {e:Expr} {te:TE} {pos':Pos} (hN:X.N.Nodup) (hi:X.N[i]?=some x) (hx:Loc X.env.scope x) (he:PE X e te) (hs:swapsWith e (some (.Name x pos')) pos.line X.env=pure false:=by rfl) (hf:X.fn x=true\/X.env.scope.names.lookup x=some .local:=by first | exact .inl rfl | exact .inr rfl | assumption) :
  PS X (.Assign [.Name x pos'] e pos) (A5w te (Y8 i)):=by
 intro pins s σ H D I h
 refine wpAny_Assign_Name (thn (he pins s σ H _ I h) λv s1 zz30=>el5 zz30 λy H1 I1 r1 q1=>?_) hs
 exact A5u I1 hN hi hx r1 (λs2 I2=>⟨_,H1,I2,q1⟩) hf
def C5b (to ti te:TE) (tget:V->V->Hp->VK->Prop) (tip:TIp) (tset:A84):TS:=λD σ H=>to σ H λo H1=>ti σ H1 λi H2=>tget o i H2 λx H3=>te σ H3 λy H4=>tip x y H4 λz H5=>tset o i z H5 λH6=>D.nx σ H6
def B7v (X:Cx) (t:V->V->Hp->VK->Prop):Prop:=
 ∀(pins:List (Addr×Obj)) (s:Shared) (σ:St) (H:Hp) (o i:V) (ov iv:Value) (Q:VK),Inv X pins σ H s->E1 o ov->E1 i iv->t o i H Q->
  wpAny (model X.prog X.w) X.A (getItem ov iv) (EP X pins σ Q) X.xe s
theorem B7w {o i e:Expr} {to ti te:TE} {tget:V->V->Hp->VK->Prop} {tip:TIp} {tset:A84} {op:Operator} {tpos:Pos} (ho:PE X o to) (hi:PE X i ti) (hg:B7v X tget) (he:PE X e te) (hp:PIp X op tip) (hs:B3c X tset)
  (ha:∀ov iv new,augStore i ov iv new=(do holding [new,ov,iv] (setItem ov iv new);release [new,ov,iv] [];pure .next):=by intros;rfl):PS X (.AugAssign (.Subscript o i tpos) op e pos) (C5b to ti te tget tip tset):=by
 intro pins s σ H D I h
 refine wpAny_AugAssign_SubscriptAny (thn (ho pins s σ H _ I h) λov s1 zz34=>el5 zz34 λx1 H1 I1 r1 q1=>?_) ha
 refine thn (hi pins s1 σ H1 _ I1 q1) λiv s2 zz35=>el5 zz35 λx2 H2 I2 r2 q2=>?_
 refine thn (hg pins s2 σ H2 x1 x2 ov iv _ I2 r1 r2 q2) λold s3 zz36=>el5 zz36 λx3 H3 I3 r3 q3=>?_
 refine thn (he pins s3 σ H3 _ I3 q3) λv s4 zz37=>el5 zz37 λx4 H4 I4 r4 q4=>?_
 refine thn (hp pins s4 σ H4 x3 x4 old v _ I4 r3 r4 q4) λnew s5 zz38=>el5 zz38 λx5 H5 I5 r5 q5=>?_
 exact thn (hs pins s5 σ H5 x1 x2 x5 ov iv new _ I5 r1 r2 r5 q5) λ_ s6 zz39=>el2 zz39 λH6 I6 q6=>⟨σ,H6,I6,q6⟩
def ipI (f:Int->Int->Int):TIp:=λx y H Q=>∃i j,x=.int i/\y=.int j/\Q (.int (f i j)) H
theorem C5c:PIp X .Add (ipI λi j=>i + j):=by
 intro pins s σ H x y v u Q I r1 r2 h
 obtain⟨i,j,e1,e2,q⟩:=h
 subst e1;subst e2
 obtain⟨t,rfl⟩:=r1
 obtain⟨t',rfl⟩:=r2
 exact iadd_int ⟨.int _,H,I.tok _,⟨_,rfl⟩,q⟩
theorem C5d:PIp X .Sub (ipI λi j=>i - j):=by
 intro pins s σ H x y v u Q I r1 r2 h
 obtain⟨i,j,e1,e2,q⟩:=h
 subst e1;subst e2
 obtain⟨t,rfl⟩:=r1
 obtain⟨t',rfl⟩:=r2
 exact isub_int ⟨.int _,H,I.tok _,⟨_,rfl⟩,q⟩
def B3f (c:TT) (tb:TS):TS:=λD σ H=>∃W:Nat->St->Hp->Prop,(∃m,W m σ H)/\∀m σ H,W m σ H->
 c σ H λb H1=>if b=true then ∃N:St->Hp->Prop,(∀σ' H',N σ' H'->∃m',m' < m/\W m' σ' H')/\tb { D with nx:=N,ct:=N,bk:=D.nx } σ H1 else D.nx σ H1
theorem A15 {c:Expr} {body:List Stmt} {tc:TT} {tb:TS} (hp:PassesOwn (model X.prog X.w) X.A X.env X.xe) (hc:PT X c tc) (hb:PSs X body tb):PS X (.While c body [] pos) (B3f tc tb):=by
 intro pins s σ H D I h
 obtain⟨W,⟨m0,w0⟩,turn⟩:=h
 refine wpAny_While (codeAny_whileLoop (λn s'=>∃σ' H',Inv X pins σ' H' s'/\W n σ' H') ?_ m0 ⟨σ,H,I,w0⟩)
 rintro n s1 ⟨σ1,H1,I1,w1⟩
 refine wpAny_passesOwn hp (thn (hc pins s1 σ1 H1 _ I1 (turn n σ1 H1 w1)) λb s2 zz40=>el2 zz40 λH2 I2 q2=>?_)
 cases b with
 | true=>
  obtain⟨N,hN,q2⟩:=q2
  rw[if_pos rfl]
  refine wpAny_passesOwn hp (thn (hb pins s2 σ1 H2 _ I2 q2) λf s3 q3=>?_)
  cases f with
  | next=>
   obtain⟨σ3,H3,I3,n3⟩:=q3
   obtain⟨m',hm,w3⟩:=hN σ3 H3 n3
   exact⟨m',hm,σ3,H3,I3,w3⟩
  | cont=>
   obtain⟨σ3,H3,I3,n3⟩:=q3
   obtain⟨m',hm,w3⟩:=hN σ3 H3 n3
   exact⟨m',hm,σ3,H3,I3,w3⟩
  | brk=>exact q3
  | ret v=>exact q3
 | false=>
  rw[if_neg Q2]
  exact wpAny_execs_nil ⟨σ1,H2,I2,q2⟩
end
structure It where
 go:Nat->Hp->Prop
 yld:Nat->Hp->V->Hp->Prop
 stop:Nat->Hp->Prop
def k0 (X:Cx) (pins:List (Addr×Obj)) (H:Hp) (b:Addr):Prop:=
 H b=none/\b≠X.env.locals/\b∉X.fs/\(b∈X.ex\/X.s₀.heap.objs.size<=b)/\(∀x c,X.env.cells.lookup x=some c->c≠b)/\∀p∈X.pn++pins,p.1≠b
theorem Inv.fpOk {X:Cx} {pins:List (Addr×Obj)} {σ:St} {H H':Hp} {s:Shared} {b:Addr} (I:Inv X pins σ H s) (hb:s.heap.objs.size<=b) (hn:H' b=none):k0 X pins H' b:=by
 refine⟨hn,A5j (X4 I.lt hb),I.nofs hb,.inr (b3 I.sz hb),λx c e z=>?_,λp hp z=>?_⟩
 ·obtain⟨v,q⟩:=I.cell x c e
  exact absurd (X4 q.lt (by rw[z];exact hb)) (o9 _)
 ·exact absurd (X4 (G9 (I.pin p hp).1) (by rw[z];exact hb)) (o9 _)
structure A5x (P:Program) (w:World) (K:A9) (tg:Expr) (J:It) (fp:List Addr) (it:Addr) (tn:Nat->Heap->Prop):Prop where
 mem:it∈fp
 obj:∀i h,tn i h->∀b∈fp,∃o,h.get? b=some o/\∀v,o.data≠.cell v
 keep:∀i h h',tn i h->(∀b∈fp,∀o,h.get? b=some o->h'.get? b=some o)->tn i h'
 item:∀(X:Cx),X.prog=P->X.w=w->X.K=K->X.calm=true->∀(i:Nat) (pins:List (Addr×Obj)) (s:Shared) (σ:St) (H:Hp) (E:Value->Shared->Prop),Inv X pins σ H s->(∀b∈fp,k0 X pins H b)->tn i s.heap->J.go i H->
  wpAny (model P w) X.A (pyNext (.ref it)) (λr s1=>∃u,r=some u/\
   wpAny (model P w) X.A (letOwnedTupleGo tg (.ref it) u) (λ_ s2=>∃x H',Inv X pins σ H' s2/\E1 x u/\J.yld i H x H'/\tn (i + 1) s2.heap/\∀b∈fp,H' b=none) E s1) E s
 done:∀(X:Cx),X.prog=P->X.w=w->X.K=K->X.calm=true->∀(i:Nat) (pins:List (Addr×Obj)) (s:Shared) (σ:St) (H:Hp) (E:Value->Shared->Prop),Inv X pins σ H s->(∀b∈fp,k0 X pins H b)->tn i s.heap->J.stop i H->
  wpAny (model P w) X.A (pyNext (.ref it)) (λr s1=>r=none/\Inv X pins σ H s1) E s
 self:∀(A:Around) (i:Nat) (s:Shared) (Q:Value->Shared->Prop) (E:Value->Shared->Prop),tn i s.heap->Q (.ref it) s->wpAny (model P w) A (pyIter (.ref it)) Q E s
abbrev TI:=St->Hp->(It->Hp->Prop)->Prop
def PIE (X:Cx) (pins:List (Addr×Obj)) (σ:St) (tg:Expr) (R:It->Hp->Prop) (itv:Value) (s2:Shared):Prop:=
 ∃(it:Addr) (fp:List Addr) (tn:Nat->Heap->Prop) (J:It) (H':Hp),itv=.ref it/\Inv X pins σ H' s2/\A5x X.prog X.w X.K tg J fp it tn/\tn 0 s2.heap/\(∀b∈fp,k0 X pins H' b)/\R J H'
def PI (X:Cx) (tg iter:Expr) (wi:TI):Prop:=
 ∀(pins:List (Addr×Obj)) (s:Shared) (σ:St) (H:Hp) (R:It->Hp->Prop),Inv X pins σ H s->wi σ H R->
  wpAny (model X.prog X.w) X.A (eval iter X.env) (λv s1=>wpAny (model X.prog X.w) X.A (pyIter v) (PIE X pins σ tg R) X.xe s1) X.xe s
theorem B3g {M:Model} {A:Around} {E:Value->Shared->Prop} {s:Shared} {tg:Expr} {it:Addr} {u:Value} {o:Obj} {n:String} {vs:Array Value} {Q:Unit->Shared->Prop} (ho:s.heap.get? it=some o) (hc:o.cls=.type n) (hd:o.data=.fields vs)
  (hn:["enumerate", "zip", "dict_itemiterator", "dict_reverseitemiterator", "odict_iterator", "itertools.zip_longest", "itertools.pairwise"].contains n=false) (hQ:Q () s):wpAny M A (letOwnedTupleGo tg (.ref it) u) Q E s:=by
 unfold letOwnedTupleGo
 cases tg <;> first
  | exact wpAny_pure hQ
  | (cases u <;> first
    | exact wpAny_pure hQ
    | (refine wpAny_bind (wpAny_load ho ?_)
       rw[hc,hd]
       show wpAny M A (if (["enumerate", "zip", "dict_itemiterator", "dict_reverseitemiterator", "odict_iterator", "itertools.zip_longest", "itertools.pairwise"].contains n&&vs[0]? == some (rawInt _))=true then _ else _) Q E s
       rw[if_neg (by intro h;rw[hn,Bool.false_and] at h;cases h)]
       exact wpAny_pure hQ))
def Itl (K:A9) (a:Addr):It:=
 ⟨λi H=>∃xs x,SqL K H a xs/\xs[i]?=some x,λi H x H'=>H'=H/\∀xs,SqL K H a xs->xs[i]?=some x,λi H=>∃xs,SqL K H a xs/\xs.length<=i⟩
def Itr (lo:Int) (n:Nat):It:=⟨λi _=>i < n,λi H x H'=>H'=H/\x=.int (lo + i),λi _=>n<=i⟩
theorem C5e {P:Program} {w:World} {K:A9} {tg:Expr} (a it:Addr):A5x P w K tg (Itl K a) [it] it (λi h=>h.IsListIter it a i) where
 mem:=by simp
 obj:=λi h st b hb=>by
  have e:b=it:=by simpa using hb
  subst e
  obtain⟨o,e,c,d⟩:=st
  exact⟨o,e,λv z=>by rw[d] at z;cases z⟩
 keep:=λi h h' st k=>st.at λo e=>k it (by simp) o e
 item:=by
  intro X hP hw hK hc i pins s σ H E I hf st hg
  subst hP hw hK
  obtain⟨xs,x,hq,hx⟩:=hg
  obtain⟨its,rv,p,hz⟩:=I.list hq
  obtain⟨u,hu,ru⟩:=rv.get hx
  obtain⟨f0,f1,f2,f3,f4,f5⟩:=hf it (by simp)
  refine wpAny_pyNext_list_item st p.isList (x:=u) (by simpa using hu) λh' st' sb=>?_
  have I1:Inv X pins σ H { s with heap:=h' }:=I.turned (t':=s.toks) (λb o hb e=>(sb.2 b hb).trans e) f0 f1 f3 f4 f5
  obtain⟨o,e,c,d⟩:=id st'
  exact⟨u,rfl,B3g (s:={ s with heap:=h' }) e c d DD ⟨x,H,I1,ru,⟨rfl,λys hy=>by rw[I.list_inj hy hq];exact hx⟩,st',λb hb=>(hf b hb).1⟩⟩
 done:=by
  intro X hP hw hK hc i pins s σ H E I hf st hg
  subst hP hw hK
  obtain⟨xs,hq,hx⟩:=hg
  obtain⟨its,rv,p,hz⟩:=I.list hq
  obtain⟨f0,f1,f2,f3,f4,f5⟩:=hf it (by simp)
  have hl:=rv.length
  exact wpAny_pyNext_list_end (I.ok.hd hc) st p.isList (by simp;lia) λh' eb=>⟨rfl,I.turned (t':=s.toks) (λb o hb e=>eb b o hb e) f0 f1 f3 f4 f5⟩
 self:=λ_ _ _ _ _ st h=>wpAny_pyIter_listiter st h
theorem C5f {P:Program} {w:World} {K:A9} {tg:Expr} (it:Addr) (lo:Int) (n:Nat):A5x P w K tg (Itr lo n) [it] it (λi h=>IsRangeIter h it (lo + (i:Nat) * 1) ((n:Int) - (i:Nat)) 1) where
 mem:=by simp
 obj:=λi h st b hb=>by
  have e:b=it:=by simpa using hb
  subst e
  exact⟨_,st,λv z=>by
   have z':Data.fields _=Data.cell v:=z
   cases z'⟩
 keep:=λi h h' st k=>k it (by simp) _ st
 item:=by
  intro X hP hw hK hc i pins s σ H E I hf st hg
  subst hP hw hK
  obtain⟨f0,f1,f2,f3,f4,f5⟩:=hf it (by simp)
  have W:=Walks.range (prog:=X.prog) (w:=X.w) (I.ok.hd hc) it lo 1 n
  refine W.item i s _ _ hg st λv h' tk hv st' kk=>?_
  obtain⟨t,rfl⟩:=hv
  have I1:Inv X pins σ H { s with heap:=h',toks:=tk }:=I.turned (λb o hb e=>kk b o (by simpa using hb) e) f0 f1 f3 f4 f5
  refine⟨_,rfl,B3g (s:={ s with heap:=h',toks:=tk }) (n:= "range_iterator") st' rfl rfl DD ⟨.int (lo + i),H,I1,⟨t,?_⟩,⟨rfl,rfl⟩,st',λb hb=>(hf b hb).1⟩⟩
  rw[Int.mul_one]
 done:=by
  intro X hP hw hK hc i pins s σ H E I hf st hg
  subst hP hw hK
  obtain⟨f0,f1,f2,f3,f4,f5⟩:=hf it (by simp)
  exact wpAny_pyNext_range_end (I.ok.hd hc) st (by have:n<=i:=hg;lia) λh' eb=>⟨rfl,I.turned (t':=s.toks) (λb o hb e=>eb b o hb e) f0 f1 f3 f4 f5⟩
 self:=λ_ _ _ _ _ st h=>wpAny_pyIter_rangeiter st h
section
variable {X:Cx} {tg:Expr}
def C5g (K:A9) (tl:TE):TI:=fun σ H R=>tl σ H λx H1=>∃a,x=.ref a/\(∃xs,SqL K H1 a xs)/\R (Itl K a) H1
theorem A0s {l:Expr} {tl:TE} (hl:PE X l tl):PI X tg l (C5g X.K tl):=by
 intro pins s σ H R I h
 refine thn (hl pins s σ H _ I h) λv s1 zz41=>el5 zz41 λx H1 I1 r1 q1=>?_
 obtain⟨a,e,⟨xs,hq⟩,q⟩:=q1
 subst e
 cases r1
 obtain⟨its,rv,p,hz⟩:=I1.list hq
 refine wpAny_pyIter_list p.isList ?_
 refine⟨s1.heap.objs.size,[s1.heap.objs.size],_,_,H1,rfl,I1.kept (t':=s1.toks) λb o e=>O0 _ e,C5e a _,⟨_,T9 _ rfl,rfl,rfl⟩,λb hb=>?_,q⟩
 have e:b=s1.heap.objs.size:=by simpa using hb
 subst e
 exact I1.fpOk (F9 _) (I1.hok.fresh (F9 _))
theorem C5h {pins:List (Addr×Obj)} {σ:St} {H:Hp} {s:Shared} {R:It->Hp->Prop} {E:Value->Shared->Prop} {lo hi:Int} {t u v:Tok} {tk:Nat} (I:Inv X pins σ H s) (h1:-(2 ^ 62)<=lo) (h2:lo < 2 ^ 62) (h3:-(2 ^ 62)<=hi) (h4:hi < 2 ^ 62)
  (q:R (Itr lo (hi - lo).toNat) H):wpAny (model X.prog X.w) X.A (pyIter (.ref s.heap.objs.size)) (PIE X pins σ tg R) E { s with heap:=s.heap.push { cls:=.type "range",data:=.fields #[.int lo t,.int hi u,.int 1 v] },toks:=tk }:=by
 refine wpAny_pyIter_range (IsRange.new ..) (small_one h1 h2 h3 h4) ?_
 have I1:Inv X pins σ H { s with heap:=s.heap.push { cls:=.type "range",data:=.fields #[.int lo t,.int hi u,.int 1 v] },toks:=tk }:=I.kept λb o e=>O0 _ e
 refine⟨(s.heap.push { cls:=.type "range",data:=.fields #[.int lo t,.int hi u,.int 1 v] }).objs.size,[(s.heap.push { cls:=.type "range",data:=.fields #[.int lo t,.int hi u,.int 1 v] }).objs.size],_,_,H,rfl,
  I1.kept (t':=tk) λb o e=>O0 _ e,C5f _ lo (hi - lo).toNat,?_,λb hb=>?_,q⟩
 ·have e1:lo + ((0:Nat):Int) * 1=lo:=by simp
  have e2:(((hi - lo).toNat:Nat):Int) - ((0:Nat):Int)=Builtin.Range.rangeSize lo hi 1:=by rw[rangeSize_one];split <;> lia
  show IsRangeIter _ _ (lo + ((0:Nat):Int) * 1) ((((hi - lo).toNat:Nat):Int) - ((0:Nat):Int)) 1
  rw[e1,e2]
  exact T9 _ rfl
 ·have e:b=(s.heap.push { cls:=.type "range",data:=.fields #[.int lo t,.int hi u,.int 1 v] }).objs.size:=by simpa using hb
  subst e
  exact I1.fpOk (F9 _) (I1.hok.fresh (F9 _))
def B7x (ta:TA):TI:=fun σ H R=>ta σ H λvs H1=>∃j:Int,vs=[.int j]/\-(2 ^ 62)<=j/\j < 2 ^ 62/\R (Itr 0 j.toNat) H1
theorem A16 {a:Expr} {ta:TA} {p pos:Pos} (hg:Gl X "range") (hm:X.mg "range" = none) (ha:PA X [a] ta) (hs:starEach [a] X.env=[(false,eval a X.env)]:=by rfl):PI X tg (.Call (.Name "range" p) [a] [] pos) (B7x ta):=by
 intro pins s σ H R I h
 refine Call_ (A1l I hg hm boot_range (PyProof.Rows.callWith_type1 (thn (ha pos pins s σ H _ I h) λus s1 zz43=>el5 zz43 λvs H1 I1 r1 q1=>?_) hs rfl))
 obtain⟨j,e,q1,q2,q⟩:=q1
 subst e
 cases r1 with
 | cons r rr=>
  cases rr
  obtain⟨t,rfl⟩:=r
  exact call_range_1 (C5h I1 (by lia) (by lia) q1 q2 (by simpa using q))
def B7y (wi:TI) (g:TG) (tb:TS):TS:=λD σ H=>wi σ H λJ H1=>∃W:Nat->Nat->St->Hp->Prop,(∃m,W 0 m σ H1)/\∀i m σ H,W i m σ H->
 (J.stop i H/\D.nx σ H)\/(J.go i H/\∃N:St->Hp->Prop,(∀σ' H',N σ' H'->∃m',m' < m/\W (i + 1) m' σ' H')/\∀x H',J.yld i H x H'->g x σ H' fun σ2 H2=>tb { D with nx:=N,ct:=N,bk:=D.nx } σ2 H2)
def A85 (fp:List Addr) (h:Heap):List (Addr×Obj):=fp.filterMap λb=>(h.get? b).map λo=>(b,o)
theorem B0u {fp:List Addr} {h:Heap} {b:Addr} {o:Obj} (hb:b∈fp) (e:h.get? b=some o):(b,o)∈A85 fp h:=B68.mpr ⟨b,hb,by rw[e];rfl⟩
theorem C5i {fp:List Addr} {h:Heap} {p:Addr×Obj} (hp:p∈A85 fp h):p.1∈fp/\h.get? p.1=some p.2:=by
 obtain⟨b,hb,e⟩:=B68.mp hp
 cases q:h.get? b with
 | none=>rw[q] at e;cases e
 | some o=>
  rw[q] at e
  have e':(b,o)=p:=Option.some.inj e
  subst e'
  exact⟨hb,q⟩
theorem Inv.pinned {pins:List (Addr×Obj)} {σ:St} {H:Hp} {s:Shared} {fp:List Addr} (I:Inv X pins σ H s) (hf:∀b∈fp,k0 X pins H b) (ho:∀b∈fp,∃o,s.heap.get? b=some o/\∀v,o.data≠.cell v):Inv X (pins++A85 fp s.heap) σ H s:=
 I.pins_of λp hp=>(A0g.mp hp).elim (λz=>I.pin p (A0h _ z)) λz=>by
  obtain⟨hb,e⟩:=C5i z
  obtain⟨f0,f1,f2,_⟩:=hf p.1 hb
  obtain⟨o,e',d⟩:=ho p.1 hb
  rw[e] at e';cases e'
  exact⟨e,f0,f1,f2,d⟩
theorem Inv.unpinned {pins pl:List (Addr×Obj)} {σ:St} {H:Hp} {s:Shared} (I:Inv X (pins++pl) σ H s):Inv X pins σ H s:=I.pins_of λp hp=>I.pin p (A0h _ (C4d _ hp))
theorem l3 {iter:Expr} {body:List Stmt} {wi:TI} {g:TG} {tb:TS} {pos:Pos} (hp:PassesOwn (model X.prog X.w) X.A X.env X.xe) (hc:X.calm=true) (hi:PI X tg iter wi) (hg:PG X tg g) (hb:PSs X body tb)
  (hs:∀x,foldedSetIterable iter X.env x=pure x:=by intro _;rfl):PS X (.For tg iter body [] pos) (B7y wi g tb):=by
 intro pins s σ H D I h
 refine wpAny_For (thn (hi pins s σ H _ I h) λv s1 h1=>thn h1 λitv s2 h2=>?_) hs
 obtain⟨it,fp,tn,J,H2,e,I2,T,st2,f2,W,⟨m0,w0⟩,turn⟩:=h2
 subst e
 have stat:∀{H':Hp},(∀b∈fp,H' b=none)->∀b∈fp,k0 X pins H' b:=λhn b hb=>⟨hn b hb,(f2 b hb).2⟩
 refine codeAny_forLoop_any (λn s'=>∃i σ' H',Inv X pins σ' H' s'/\tn i s'.heap/\(∀b∈fp,H' b=none)/\W i n σ' H') ?_ m0 ⟨0,σ,H2,I2,st2,λb hb=>(f2 b hb).1,w0⟩
 rintro n s3 ⟨i,σ3,H3,I3,st3,fr3,w3⟩
 rcases turn i n σ3 H3 w3 with ⟨stop,qn⟩ | ⟨go,N,hN,step⟩
 ·refine wpAny_passesOwn hp (thn (T.done X rfl rfl rfl hc i pins s3 σ3 H3 X.xe I3 (stat fr3) st3 stop) λr s4 zz45=>zz45.elim λhr I4=>?_)
  subst hr
  exact wpAny_execs_nil ⟨σ3,H3,I4,qn⟩
 ·refine wpAny_passesOwn hp (thn (T.item X rfl rfl rfl hc i pins s3 σ3 H3 X.xe I3 (stat fr3) st3 go) λr s4 zz46=>el2 zz46 λu hr h4=>?_)
  subst hr
  refine wpAny_passesOwn hp (thn h4 λ_ s5 zz47=>zz47.elim λx zz48=>zz48.elim λH5 zz49=>zz49.elim λI5 zz50=>zz50.elim λr5 zz51=>zz51.elim λy5 zz52=>zz52.elim λst5 fr5=>?_)
  have I5':=I5.pinned (stat fr5) (T.obj _ _ st5)
  refine wpAny_passesOwn hp (thn (hg _ s5 σ3 H5 x u _ I5' r5 (step x H5 y5)) λ_ s6 zz53=>zz53.elim fun σ6 zz54=>zz54.elim λH6 zz55=>zz55.elim λI6 q6=>?_)
  refine wpAny_passesOwn hp (thn (hb _ s6 σ6 H6 _ I6 q6) λf s7 q7=>?_)
  have again:∀{σ7:St} {H7:Hp},Inv X (pins++A85 fp s5.heap) σ7 H7 s7->N σ7 H7->∃m,m < n/\∃i σ' H',Inv X pins σ' H' s7/\tn i s7.heap/\(∀b∈fp,H' b=none)/\W i m σ' H':=λ{σ7 H7} I7 n7=>by
   obtain⟨m',hm,w7⟩:=hN σ7 H7 n7
   refine⟨m',hm,i + 1,σ7,H7,I7.unpinned,T.keep _ _ _ st5 λb hb o e=>(I7.pin (b,o) (A0h _ (A0h _ (B0u hb e)))).1,λb hb=>?_,w7⟩
   obtain⟨o,e,d⟩:=T.obj _ _ st5 b hb
   exact (I7.pin (b,o) (A0h _ (A0h _ (B0u hb e)))).2.1
  cases f with
  | next=>obtain⟨σ7,H7,I7,n7⟩:=q7;exact again I7 n7
  | cont=>obtain⟨σ7,H7,I7,n7⟩:=q7;exact again I7 n7
  | brk=>obtain⟨σ7,H7,I7,q7⟩:=q7;exact⟨σ7,H7,I7.unpinned,q7⟩
  | ret v=>obtain⟨x7,σ7,H7,I7,r7,q7⟩:=q7;exact⟨x7,σ7,H7,I7.unpinned,r7,q7⟩
end
theorem B7z {K:A9} {a:Addr} {xs:List V} {g:TG} {tb:TS} {D:j9} {σ:St} {H:Hp} (Pv:Nat->St->Hp->Prop) (h0:Pv 0 σ H) (hl:∀i σ H,i<=xs.length->Pv i σ H->SqL K H a xs)
  (hs:∀i x σ H,xs[i]?=some x->Pv i σ H->g x σ H fun σ2 H2=>tb { D with nx:=Pv (i + 1),ct:=Pv (i + 1),bk:=D.nx } σ2 H2) (hd:∀σ H,Pv xs.length σ H->D.nx σ H) :
  ∃W:Nat->Nat->St->Hp->Prop,(∃m,W 0 m σ H)/\∀i m σ H,W i m σ H->
   ((Itl K a).stop i H/\D.nx σ H)\/((Itl K a).go i H/\∃N:St->Hp->Prop,(∀σ' H',N σ' H'->∃m',m' < m/\W (i + 1) m' σ' H')/\∀x H',(Itl K a).yld i H x H'->g x σ H' fun σ2 H2=>tb { D with nx:=N,ct:=N,bk:=D.nx } σ2 H2):=by
 refine⟨λi m σ H=>m=xs.length - i/\i<=xs.length/\Pv i σ H,⟨xs.length,by simp,O7 _,h0⟩,?_⟩
 rintro i m σ H ⟨rfl,hi,p⟩
 have q:=hl i σ H hi p
 by_cases hlt:i < xs.length
 ·refine .inr ⟨⟨xs,xs[i],q,by simp [hlt]⟩,Pv (i + 1),fun σ' H' p'=>⟨xs.length - (i + 1),by lia,rfl,hlt,p'⟩,λx H' y=>?_⟩
  obtain⟨e,y⟩:=y
  subst e
  exact hs i x σ _ (y xs q) p
 ·have e:i=xs.length:=by lia
  subst e
  exact .inl ⟨⟨xs,q,F9 _⟩,hd σ H p⟩
theorem C5j {lo:Int} {n:Nat} {g:TG} {tb:TS} {D:j9} {σ:St} {H:Hp} (Pv:Nat->St->Hp->Prop) (h0:Pv 0 σ H)
  (hs:∀i σ H,i < n->Pv i σ H->g (.int (lo + i)) σ H fun σ2 H2=>tb { D with nx:=Pv (i + 1),ct:=Pv (i + 1),bk:=D.nx } σ2 H2) (hd:∀σ H,Pv n σ H->D.nx σ H) :
  ∃W:Nat->Nat->St->Hp->Prop,(∃m,W 0 m σ H)/\∀i m σ H,W i m σ H->
   ((Itr lo n).stop i H/\D.nx σ H)\/((Itr lo n).go i H/\∃N:St->Hp->Prop,(∀σ' H',N σ' H'->∃m',m' < m/\W (i + 1) m' σ' H')/\∀x H',(Itr lo n).yld i H x H'->g x σ H' fun σ2 H2=>tb { D with nx:=N,ct:=N,bk:=D.nx } σ2 H2):=by
 refine⟨λi m σ H=>m=n - i/\i<=n/\Pv i σ H,⟨n,by simp,O7 _,h0⟩,?_⟩
 rintro i m σ H ⟨rfl,hi,p⟩
 by_cases hlt:i < n
 ·refine .inr ⟨hlt,Pv (i + 1),fun σ' H' p'=>⟨n - (i + 1),by lia,rfl,hlt,p'⟩,λx H' y=>?_⟩
  obtain⟨e,y⟩:=y
  subst e y
  exact hs i σ _ hlt p
 ·have e:i=n:=by lia
  subst e
  exact .inl ⟨F9 _,hd σ H p⟩
theorem C5k {c:TT} {tb:TS} {D:j9} {σ:St} {H:Hp} (Pv:St->Hp->Prop) (μ:St->Hp->Nat) (h0:Pv σ H)
  (hs:∀σ H,Pv σ H->c σ H λb H1=>if b=true then tb { D with nx:=fun σ' H'=>Pv σ' H'/\μ σ' H' < μ σ H,ct:=fun σ' H'=>Pv σ' H'/\μ σ' H' < μ σ H,bk:=D.nx } σ H1 else D.nx σ H1)
  (mono:∀σ H Q Q',(∀b H1,Q b H1->Q' b H1)->c σ H Q->c σ H Q'):B3f c tb D σ H:=by
 refine⟨λm σ H=>m=μ σ H/\Pv σ H,⟨_,rfl,h0⟩,?_⟩
 rintro m σ H ⟨rfl,p⟩
 refine mono σ H _ _ (λb H1 q=>?_) (hs σ H p)
 cases b with
 | true=>exact⟨_,fun σ' H' zz56=>zz56.elim λp' l=>⟨_,l,rfl,p'⟩,q⟩
 | false=>exact q
abbrev R2:=V->V->Hp->VK->Prop
def OpR (X:Cx) (f:Value->Value->Sem Value) (r:R2):Prop:=
 ∀(pins:List (Addr×Obj)) (s:Shared) (σ:St) (H:Hp) (x y:V) (v u:Value) (Q:VK),Inv X pins σ H s->E1 x v->E1 y u->r x y H Q->
  wpAny (model X.prog X.w) X.A (f v u) (EP X pins σ Q) X.xe s
def UnR (X:Cx) (f:Value->Sem Value) (r:V->Hp->VK->Prop):Prop:=
 ∀(pins:List (Addr×Obj)) (s:Shared) (σ:St) (H:Hp) (x:V) (v:Value) (Q:VK),Inv X pins σ H s->E1 x v->r x H Q->
  wpAny (model X.prog X.w) X.A (f v) (EP X pins σ Q) X.xe s
def Y9 (X:Cx) (f:Value) (r:List V->Hp->VK->Prop):Prop:=
 ∀(pins:List (Addr×Obj)) (s:Shared) (σ:St) (H:Hp) (xs:List V) (us:List Value) (Q:VK),Inv X pins σ H s->D5 xs us->r xs H Q->
  wpAny (model X.prog X.w) X.A (call f us) (EP X pins σ Q) X.xe s
def tOp (r:R2) (ta tb:TE):TE:=fun σ H Q=>ta σ H λx H1=>tb σ H1 λy H2=>r x y H2 Q
def tUn (r:V->Hp->VK->Prop) (ta:TE):TE:=fun σ H Q=>ta σ H λx H1=>r x H1 Q
def rI (C:Int->Int->Prop) (g:Int->Int->V):R2:=λx y H Q=>∃i j,x=.int i/\y=.int j/\C i j/\Q (g i j) H
def rI0 (g:Int->Int->V):R2:=λx y H Q=>∃i j,x=.int i/\y=.int j/\Q (g i j) H
def rU (g:Int->V):V->Hp->VK->Prop:=λx H Q=>∃i,x=.int i/\Q (g i) H
section
variable {X:Cx} {a b c:Expr} {ta tb tc:TE} {pos:Pos}
theorem B3h (ha:PE X a ta) (hb:PE X b tb) {pins:List (Addr×Obj)} {s:Shared} {σ:St} {H:Hp} {R:V->V->Hp->Prop} (I:Inv X pins σ H s)
  (h:ta σ H λx H1=>tb σ H1 λy H2=>R x y H2) {Q:Value->Shared->Prop} {f:Value->Value->Sem Value}
  (hf:∀v u s2 x y H2,Inv X pins σ H2 s2->E1 x v->E1 y u->R x y H2->wpAny (model X.prog X.w) X.A (f v u) Q X.xe s2) :
  wpAny (model X.prog X.w) X.A (eval a X.env) (λv s₁=>wpAny (model X.prog X.w) X.A (eval b X.env) (λu s₂=>wpAny (model X.prog X.w) X.A (f v u) Q X.xe s₂) X.xe s₁) X.xe s:=by
 refine thn (ha pins s σ H _ I h) λv s1 zz57=>el5 zz57 λx H1 I1 r1 q1=>?_
 refine thn (hb pins s1 σ H1 _ I1 q1) λu s2 zz58=>el5 zz58 λy H2 I2 r2 q2=>?_
 exact hf v u s2 x y H2 I2 r1 r2 q2
theorem J2 {op:Operator} {r:R2} (ho:OpR X (binaryOp op) r) (ha:PE X a ta) (hb:PE X b tb):PE X (.BinOp a op b pos) (tOp r ta tb):=by
 intro pins s σ H Q I h
 exact wpAny_BinOp (B3h ha hb I h λv u s2 x y H2 I2 rx ry q=>ho pins s2 σ H2 x y v u Q I2 rx ry q)
theorem C5l {op:UnaryOp} {r:V->Hp->VK->Prop} (ho:UnR X (unaryOp op) r) (ha:PE X a ta):PE X (.UnaryOp op a pos) (tUn r ta):=by
 intro pins s σ H Q I h
 exact UnaryOp_ (thn (ha pins s σ H _ I h) λv s1 zz59=>el5 zz59 λx H1 I1 r1 q1=>ho pins s1 σ H1 x v Q I1 r1 q1)
theorem opI {f:Value->Value->Sem Value} {C:Int->Int->Prop} {g:Int->Int->Int}
  (rule:∀(i j:Int) (t u:Tok) (s:Shared) (Q:Value->Shared->Prop) (E:Value->Shared->Prop),C i j->Q (.int (g i j) s.toks) { s with toks:=s.toks + 1 }->wpAny (model X.prog X.w) X.A (f (.int i t) (.int j u)) Q E s) :
  OpR X f (rI C λi j=>.int (g i j)):=by
 intro pins s σ H x y v u Q I rx ry h
 obtain⟨i,j,rfl,rfl,hc,q⟩:=h
 obtain⟨t,rfl⟩:=rx
 obtain⟨t',rfl⟩:=ry
 exact rule i j t t' s _ _ hc ⟨.int (g i j),H,I.tok _,⟨_,rfl⟩,q⟩
theorem B70 {f:Value->Value->Sem Value} {g:Int->Int->Int}
  (rule:∀(i j:Int) (t u:Tok) (s:Shared) (Q:Value->Shared->Prop) (E:Value->Shared->Prop),Q (.int (g i j) s.toks) { s with toks:=s.toks + 1 }->wpAny (model X.prog X.w) X.A (f (.int i t) (.int j u)) Q E s) :
  OpR X f (rI0 λi j=>.int (g i j)):=by
 intro pins s σ H x y v u Q I rx ry h
 obtain⟨i,j,rfl,rfl,q⟩:=h
 obtain⟨t,rfl⟩:=rx
 obtain⟨t',rfl⟩:=ry
 exact rule i j t t' s _ _ ⟨.int (g i j),H,I.tok _,⟨_,rfl⟩,q⟩
theorem B0v {f:Value->Value->Sem Value} {g:Int->Int->Bool}
  (rule:∀(i j:Int) (t u:Tok) (s:Shared) (Q:Value->Shared->Prop) (E:Value->Shared->Prop),Q (.bool (g i j)) s->wpAny (model X.prog X.w) X.A (f (.int i t) (.int j u)) Q E s) :
  OpR X f (rI0 λi j=>.bl (g i j)):=by
 intro pins s σ H x y v u Q I rx ry h
 obtain⟨i,j,rfl,rfl,q⟩:=h
 obtain⟨t,rfl⟩:=rx
 obtain⟨t',rfl⟩:=ry
 exact rule i j t t' s _ _ ⟨.bl (g i j),H,I,rfl,q⟩
def B3i (i j:Int):Prop:=0<=j/\j<=1000000/\i.natAbs < 2 ^ 64
def A17 (i j:Int):Prop:=(-(2 ^ 64) < i/\i < 2 ^ 64)\/(-(2 ^ 64) < j/\j < 2 ^ 64)
theorem A17.ok {i j:Int} (h:A17 i j):IntMulOk i j:=by
 rcases h with ⟨h1,h2⟩ | ⟨h1,h2⟩
 ·exact .of_left (intBits_le_64 h1 h2)
 ·exact .of_right (intBits_le_64 h1 h2)
theorem K5:OpR X (binaryOp .Add) (rI0 λi j=>.int (i + j)):=B70 λ_ _ _ _ _ _ _ q=>add_int q
theorem A0t:OpR X (binaryOp .Sub) (rI0 λi j=>.int (i - j)):=B70 λ_ _ _ _ _ _ _ q=>sub_int q
theorem W5:OpR X (binaryOp .Mult) (rI A17 λi j=>.int (i * j)):=opI λ_ _ _ _ _ _ _ hc q=>mul_int q hc.ok
theorem A0u:OpR X (binaryOp .Mod) (rI (λ_ j=>0 < j) λi j=>.int (i % j)):=opI λi j _ _ _ _ _ hc q=>by
 have h1:(0:Int) < j:=hc
 exact mod_int' (by lia) (by rw[Int.fmod_eq_emod_of_nonneg i (by lia)];exact q)
theorem Z0:OpR X (binaryOp .Pow) (rI B3i λi j=>.int (i ^ j.toNat)):=opI λ_ _ _ _ _ _ _ hc q=>pow_int_small hc.1 hc.2.1 hc.2.2 q
theorem unI {f:Value->Sem Value} {g:Int->Int}
  (rule:∀(i:Int) (t:Tok) (s:Shared) (Q:Value->Shared->Prop) (E:Value->Shared->Prop),Q (.int (g i) s.toks) { s with toks:=s.toks + 1 }->wpAny (model X.prog X.w) X.A (f (.int i t)) Q E s) :
  UnR X f (rU λi=>.int (g i)):=by
 intro pins s σ H x v Q I rx h
 obtain⟨i,rfl,q⟩:=h
 obtain⟨t,rfl⟩:=rx
 exact rule i t s _ _ ⟨.int (g i),H,I.tok _,⟨_,rfl⟩,q⟩
theorem C5m:UnR X (unaryOp .USub) (rU λi=>.int (-i)):=unI λ_ _ _ _ _ q=>neg_int q
end
def B71:V->V->Bool
 | .non,.non=>true | .non,.int _=>true | .int _,.non=>true | .non,.bl _=>true | .bl _,.non=>true | .non,.str _=>true | .str _,.non=>true
 | .int _,.int _=>true | .bl _,.bl _=>true | .str _,.str _=>true | .byt _,.byt _=>true
 | .int _,.str _=>true | .str _,.int _=>true | .bl _,.str _=>true | .str _,.bl _=>true
 | _,_=>false
def rEq:R2:=λx y H Q=>B71 x y=true/\Q (.bl (decide (x=y))) H
def rNe:R2:=λx y H Q=>B71 x y=true/\Q (.bl (!decide (x=y))) H
theorem B72 {i j:Int}:decide (V.int i=V.int j)=(i == j):=by
 rw[B69]
 simp
theorem B73 {i j:Bool}:decide (V.bl i=V.bl j)=(i == j):=by
 rw[B69]
 simp
theorem B74 {i j:Str}:decide (V.str i=V.str j)=(i == j):=by
 rw[B69]
 simp
theorem B75 {i j:Array UInt8}:decide (V.byt i=V.byt j)=(i.toList == j.toList):=by
 rw[B69]
 cases i
 cases j
 simp
section
variable {X:Cx} {a b c:Expr} {ta tb tc:TE} {pos:Pos}
theorem M8 {pins:List (Addr×Obj)} {σ:St} {H:Hp} {s:Shared} {Q:VK} {k k':Bool} (I:Inv X pins σ H s) (q:Q (.bl k) H) (e:k=k'):EP X pins σ Q (.bool k') s:=by
 subst e
 exact⟨.bl k,H,I,rfl,q⟩
theorem b7:OpR X (compareOp .Eq) rEq:=by
 intro pins s σ H x y v u Q I rx ry h
 obtain⟨hs,q⟩:=h
 cases x with
 | non=>
  cases rx
  cases y with
  | non=>cases ry;exact PySem.EqNone.eq_none_none (M8 I q (by simp))
  | bl j=>cases ry;exact PySem.EqNone.eq_none_bool (M8 I q (by simp))
  | int j=>obtain⟨t',rfl⟩:=ry;exact PySem.EqNone.eq_none_int (M8 I q (by simp))
  | str j=>obtain⟨t',rfl⟩:=ry;exact PySem.EqNone.eq_none_str (M8 I q (by simp))
  | _=>exact absurd (show false=true from hs) Q2
 | bl i=>
  cases rx
  cases y with
  | non=>cases ry;exact PySem.EqNone.eq_bool_none (M8 I q (by simp))
  | bl j=>cases ry;exact eq_bool (M8 I q B73)
  | str j=>obtain⟨t',rfl⟩:=ry;exact PySem.EqMixed.eq_bool_str (M8 I q (by simp))
  | _=>exact absurd (show false=true from hs) Q2
 | int i=>
  obtain⟨t,rfl⟩:=rx
  cases y with
  | non=>cases ry;exact PySem.EqNone.eq_int_none (M8 I q (by simp))
  | int j=>obtain⟨t',rfl⟩:=ry;exact eq_int (M8 I q B72)
  | str j=>obtain⟨t',rfl⟩:=ry;exact PySem.EqMixed.eq_int_str (M8 I q (by simp))
  | _=>exact absurd (show false=true from hs) Q2
 | str i=>
  obtain⟨t,rfl⟩:=rx
  cases y with
  | non=>cases ry;exact PySem.EqNone.eq_str_none (M8 I q (by simp))
  | bl j=>cases ry;exact PySem.EqMixed.eq_str_bool (M8 I q (by simp))
  | int j=>obtain⟨t',rfl⟩:=ry;exact PySem.EqMixed.eq_str_int (M8 I q (by simp))
  | str j=>obtain⟨t',rfl⟩:=ry;exact eq_str (M8 I q B74)
  | _=>exact absurd (show false=true from hs) Q2
 | byt i=>
  obtain⟨t,rfl⟩:=rx
  cases y with
  | byt j=>obtain⟨t',rfl⟩:=ry;exact PySem.W.eq_bytes (M8 I q B75)
  | _=>exact absurd (show false=true from hs) Q2
 | _=>cases y <;> exact absurd (show false=true from hs) Q2
theorem B76:OpR X (compareOp .NotEq) rNe:=by
 intro pins s σ H x y v u Q I rx ry h
 obtain⟨hs,q⟩:=h
 cases x with
 | non=>
  cases rx
  cases y with
  | non=>cases ry;exact PySem.EqNone.ne_none_none (M8 I q (by simp))
  | bl j=>cases ry;exact PySem.EqNone.ne_none_bool (M8 I q (by simp))
  | int j=>obtain⟨t',rfl⟩:=ry;exact PySem.EqNone.ne_none_int (M8 I q (by simp))
  | str j=>obtain⟨t',rfl⟩:=ry;exact PySem.EqNone.ne_none_str (M8 I q (by simp))
  | _=>exact absurd (show false=true from hs) Q2
 | bl i=>
  cases rx
  cases y with
  | non=>cases ry;exact PySem.EqNone.ne_bool_none (M8 I q (by simp))
  | bl j=>cases ry;exact ne_bool (M8 I q (congrArg not B73))
  | str j=>obtain⟨t',rfl⟩:=ry;exact PySem.EqMixed.ne_bool_str (M8 I q (by simp))
  | _=>exact absurd (show false=true from hs) Q2
 | int i=>
  obtain⟨t,rfl⟩:=rx
  cases y with
  | non=>cases ry;exact PySem.EqNone.ne_int_none (M8 I q (by simp))
  | int j=>obtain⟨t',rfl⟩:=ry;exact ne_int (M8 I q (congrArg not B72))
  | str j=>obtain⟨t',rfl⟩:=ry;exact PySem.EqMixed.ne_int_str (M8 I q (by simp))
  | _=>exact absurd (show false=true from hs) Q2
 | str i=>
  obtain⟨t,rfl⟩:=rx
  cases y with
  | non=>cases ry;exact PySem.EqNone.ne_str_none (M8 I q (by simp))
  | bl j=>cases ry;exact PySem.EqMixed.ne_str_bool (M8 I q (by simp))
  | int j=>obtain⟨t',rfl⟩:=ry;exact PySem.EqMixed.ne_str_int (M8 I q (by simp))
  | str j=>obtain⟨t',rfl⟩:=ry;exact ne_str (M8 I q (congrArg not B74))
  | _=>exact absurd (show false=true from hs) Q2
 | byt i=>
  obtain⟨t,rfl⟩:=rx
  cases y with
  | byt j=>obtain⟨t',rfl⟩:=ry;exact PySem.W.ne_bytes (M8 I q (congrArg not B75))
  | _=>exact absurd (show false=true from hs) Q2
 | _=>cases y <;> exact absurd (show false=true from hs) Q2
theorem T2:OpR X (compareOp .Lt) (rI0 λi j=>.bl (decide (i < j))):=B0v λ_ _ _ _ _ _ _ q=>lt_int q
theorem Z1:OpR X (compareOp .LtE) (rI0 λi j=>.bl (decide (i<=j))):=B0v λ_ _ _ _ _ _ _ q=>le_int q
theorem p8:OpR X (compareOp .Gt) (rI0 λi j=>.bl (decide (j < i))):=B0v λ_ _ _ _ _ _ _ q=>gt_int q
theorem A86:OpR X (compareOp .GtE) (rI0 λi j=>.bl (decide (j<=i))):=B0v λ_ _ _ _ _ _ _ q=>ge_int q
theorem V8:OpR X (compareOp .Is) (λx y H Q=>y=.non/\Q (.bl (decide (x=.non))) H):=by
 intro pins s σ H x y v u Q I rx ry h
 obtain⟨rfl,q⟩:=h
 cases ry
 refine is_none_gen (M8 I q ?_)
 cases x <;> first
  | (cases rx;rfl)
  | (obtain⟨t,rfl⟩:=rx;rfl)
theorem A3m:OpR X (compareOp .IsNot) (λx y H Q=>y=.non/\Q (.bl (!decide (x=.non))) H):=by
 intro pins s σ H x y v u Q I rx ry h
 obtain⟨rfl,q⟩:=h
 cases ry
 refine isnot_none_gen (M8 I q ?_)
 cases x <;> first
  | (cases rx;rfl)
  | (obtain⟨t,rfl⟩:=rx;rfl)
theorem C8 (b:Expr) {op:CmpOp} (h:op≠.In:=by decide) (h2:op≠.NotIn:=by decide):behindInMarks op b=false:=by
 have e1:(op == CmpOp.In)=false:=by cases op <;> first | rfl | exact absurd rfl h
 have e2:(op == CmpOp.NotIn)=false:=by cases op <;> first | rfl | exact absurd rfl h2
 cases b <;> simp [behindInMarks,e1,e2]
theorem A5y {op:CmpOp} {r:R2} (ho:OpR X (compareOp op) r) (ha:PE X a ta) (hb:PE X b tb) (hm:behindInMarks op b=false):PE X (.Compare a [op] [b] pos) (tOp r ta tb):=by
 intro pins s σ H Q I h
 exact wpAny_Compare1 (B3h ha hb I h λv u s2 x y H2 I2 rx ry q=>ho pins s2 σ H2 x y v u Q I2 rx ry q) hm
def B0w (t:TE):TT:=fun σ H Q=>t σ H λx H'=>∃k,x=.bl k/\Q k H'
theorem J3 {op:CmpOp} {r:R2} (ho:OpR X (compareOp op) r) (ha:PE X a ta) (hb:PE X b tb) (hm:behindInMarks op b=false):PT X (.Compare a [op] [b] pos) (B0w (tOp r ta tb)):=by
 intro pins s σ H Q I h
 refine wpAny_isTrue_Compare1 (thn (ha pins s σ H _ I h) λv s1 zz60=>el5 zz60 λx H1 I1 r1 q1=>thn (hb pins s1 σ H1 _ I1 q1) λu s2 zz61=>el5 zz61 λy H2 I2 r2 q2=>
  thn (ho pins s2 σ H2 x y v u _ I2 r1 r2 q2) λc s3 zz62=>zz62.elim λz zz63=>zz63.elim λH3 zz64=>zz64.elim λI3 zz65=>zz65.elim λr3 zz66=>zz66.elim λk zz67=>zz67.elim λe q3=>?_) hm
 subst e
 cases r3
 exact wpAny_truthy_bool ⟨H3,I3,q3⟩
def B3j (r r':R2) (ta tb tc:TE):TE:=fun σ H Q=>ta σ H λx H1=>tb σ H1 λy H2=>r x y H2 λz H3=>∃k,z=.bl k/\
 (if k=true then tc σ H3 λw' H4=>r' y w' H4 Q else Q (.bl false) H3)
theorem C5n {op op':CmpOp} {r r':R2} (ho:OpR X (compareOp op) r) (ho':OpR X (compareOp op') r') (ha:PE X a ta) (hb:PE X b tb) (hc:PE X c tc)
  (hm:lastMarks [op,op'] [b,c]=false:=by with_unfolding_all rfl):PE X (.Compare a [op,op'] [b,c] pos) (B3j r r' ta tb tc):=by
 intro pins s σ H Q I h
 refine Compare_chain (thn (ha pins s σ H _ I h) λv s1 zz68=>el5 zz68 λx H1 I1 r1 q1=>chain_link (thn (hb pins s1 σ H1 _ I1 q1) λu s2 zz69=>el5 zz69 λy H2 I2 r2 q2=>
  thn (ho pins s2 σ H2 x y v u _ I2 r1 r2 q2) λd s3 zz70=>zz70.elim λz zz71=>zz71.elim λH3 zz72=>zz72.elim λI3 zz73=>zz73.elim λr3 zz74=>zz74.elim λk zz75=>zz75.elim λe q3=>?_)) hm
 subst e
 cases r3
 refine wpAny_truthy_bool ?_
 cases k with
 | false=>exact ite_ff ⟨.bl false,H3,I3,rfl,q3⟩
 | true=>exact ite_tt (chain_last (thn (hc pins s3 σ H3 _ I3 q3) λw' s4 zz76=>el5 zz76 λz' H4 I4 r4 q4=>ho' pins s4 σ H4 y z' u w' Q I4 r2 r4 q4))
theorem C5o {op op':CmpOp} {r r':R2} (ho:OpR X (compareOp op) r) (ho':OpR X (compareOp op') r') (ha:PE X a ta) (hb:PE X b tb) (hc:PE X c tc)
  (hm:lastMarks [op,op'] [b,c]=false:=by with_unfolding_all rfl):PT X (.Compare a [op,op'] [b,c] pos) (B0w (B3j r r' ta tb tc)):=by
 intro pins s σ H Q I h
 refine isTrue_chain (thn (ha pins s σ H _ I h) λv s1 zz77=>el5 zz77 λx H1 I1 r1 q1=>test_link (thn (hb pins s1 σ H1 _ I1 q1) λu s2 zz78=>el5 zz78 λy H2 I2 r2 q2=>
  thn (ho pins s2 σ H2 x y v u _ I2 r1 r2 q2) λd s3 zz79=>zz79.elim λz zz80=>zz80.elim λH3 zz81=>zz81.elim λI3 zz82=>zz82.elim λr3 zz83=>zz83.elim λk zz84=>zz84.elim λe q3=>?_)) hm
 subst e
 cases r3
 refine wpAny_truthy_bool ?_
 cases k with
 | false=>
  obtain⟨k',e',q'⟩:=q3
  cases e'
  exact ite_ff ⟨H3,I3,q'⟩
 | true=>
  refine ite_tt (test_last (thn (hc pins s3 σ H3 _ I3 q3) λw' s4 zz85=>el5 zz85 λz' H4 I4 r4 q4=>thn (ho' pins s4 σ H4 y z' u w' _ I4 r2 r4 q4) λd' s5 zz86=>zz86.elim λz2 zz87=>zz87.elim λH5 zz88=>zz88.elim λI5 zz89=>zz89.elim λr5 zz90=>zz90.elim λk2 zz91=>zz91.elim λe2 q5=>?_))
  subst e2
  cases r5
  exact wpAny_truthy_bool ⟨H5,I5,q5⟩
theorem A5z:(sizeLine:Nat) < 2 ^ 63:=by rw[sizeLine_eq];decide
theorem Z2 {x:V} {us:List Value} (r:D5 [x] us):∃u,us=[u]/\E1 x u:=by
 cases r with
 | cons r1 r2=>cases r2;exact⟨_,rfl,r1⟩
theorem B0x {x y:V} {us:List Value} (r:D5 [x,y] us):∃u w',us=[u,w']/\E1 x u/\E1 y w':=by
 cases r with
 | cons r1 r2=>
  cases r2 with
  | cons r3 r4=>cases r4;exact⟨_,_,rfl,r1,r3⟩
theorem B77:Y9 X (.builtin "abs") (λxs H Q=>∃i,xs=[.int i]/\Q (.int (if i < 0 then -i else i)) H):=by
 intro pins s σ H xs us Q I r h
 obtain⟨i,rfl,q⟩:=h
 obtain⟨u,rfl,t,rfl⟩:=Z2 r
 exact call_abs_int λu tk=>⟨.int (if i < 0 then -i else i),H,I.tok _,⟨_,rfl⟩,q⟩
theorem A50 (hc:X.calm=true):Y9 X (.builtin "max") (λxs H Q=>∃i j,xs=[.int i,.int j]/\Q (.int (if j > i then j else i)) H):=by
 intro pins s σ H xs us Q I r h
 obtain⟨i,j,rfl,q⟩:=h
 obtain⟨u,w',rfl,⟨t,rfl⟩,⟨t',rfl⟩⟩:=B0x r
 refine max_two_ints (I.ok.hd hc) λh' tk k=>⟨_,H,I.kept k,?_,q⟩
 by_cases hj:j > i
 ·rw[if_pos hj,if_pos hj];exact⟨_,rfl⟩
 ·rw[if_neg hj,if_neg hj];exact⟨_,rfl⟩
theorem A0v (hc:X.calm=true):Y9 X (.builtin "min") (λxs H Q=>∃i j,xs=[.int i,.int j]/\Q (.int (if j < i then j else i)) H):=by
 intro pins s σ H xs us Q I r h
 obtain⟨i,j,rfl,q⟩:=h
 obtain⟨u,w',rfl,⟨t,rfl⟩,⟨t',rfl⟩⟩:=B0x r
 refine min_two_ints (I.ok.hd hc) λh' tk k=>⟨_,H,I.kept k,?_,q⟩
 by_cases hj:j < i
 ·rw[if_pos hj,if_pos hj];exact⟨_,rfl⟩
 ·rw[if_neg hj,if_neg hj];exact⟨_,rfl⟩
theorem C5p:Y9 X (.type "int") (λxs H Q=>(∃i,xs=[.int i]/\Q (.int i) H)\/∃k,xs=[.bl k]/\Q (.int (if k then 1 else 0)) H):=by
 intro pins s σ H xs us Q I r h
 rcases h with ⟨i,rfl,q⟩ | ⟨k,rfl,q⟩
 ·obtain⟨u,rfl,t,rfl⟩:=Z2 r
  exact call_int_int ⟨.int i,H,I,⟨_,rfl⟩,q⟩
 ·obtain⟨u,rfl,r1⟩:=Z2 r
  cases r1
  exact call_int_bool ⟨.int (if k then 1 else 0),H,I.tok _,⟨_,rfl⟩,q⟩
end
structure A3n (h:Heap) (x dx C:Addr) (mA:Str->Option Value):Prop where
 obj:h.get? x=some (A5i C dx)
 ns:h.Ns1 dx mA
 ne:dx≠x
theorem C5q {h:Heap} {dx:Addr} {mA:Str->Option Value} (n:h.Ns1 dx mA):∃od,h.get? dx=some od/\∀name,B7a name od=some (mA name):=by
 obtain⟨o,es,ep,ho,hd,hk,_,hm⟩:=n
 refine⟨o,ho,λname=>?_⟩
 have e:=hm name
 unfold nsFind findBy at e
 rw[<-Array.find?_toList] at e
 unfold B7a
 rw[hd]
 dsimp only
 split
 ·rename_i y q
  rw[q] at e
  exact congrArg some e
 ·rename_i q
  rw[q] at e
  have a:es.toList.any (·.refKey)=false:=by
   rw[List.any_eq_false]
   intro y hy
   obtain⟨z,t,hkey⟩:=hk y (Array.mem_toList_iff.mp hy)
   simp [DictEntry.refKey,hkey]
  have a':¬ es.toList.any (·.refKey)=true:=by rw[a];exact Q2
  rw[if_neg a']
  exact congrArg some e
theorem A3n.look {h:Heap} {x dx C:Addr} {mA:Str->Option Value} (I:A3n h x dx C mA):∃od,PySem.W.InstAt h x (A5i C dx) C (some od)/\∀name,B7a name od=some (mA name):=
 let ⟨od,ho,hl⟩:=C5q I.ns
 ⟨od,⟨I.obj,rfl,rfl,ho⟩,hl⟩
section
variable {prog:Program} {w:World} {A:Around} {E:Value->Shared->Prop} {s:Shared} {K:A9} {x dx C f:Addr} {mA:Str->Option Value} {name:Str} {v:Value}
theorem C5r {expr:Bool} {Q:Value->Shared->Prop} (X:K.In s.heap) (I:A3n s.heap x dx C mA) (hg:B2w K C name=true) (hh:B7b K C=true)
  (ha:N4 K (.ref C) name=some none) (hv:mA name=some v) (hv':PySem.W.handedIn v=true) (h:Q v { s with toks:=s.toks + 1 }) :
  wpAny (model prog w) A (getAttr (.ref x) name expr) Q E s:=by
 obtain⟨od,J,hl⟩:=I.look
 exact PySem.W.get_value X J (C4e hg).1 (PySem.W.findObj_own hh ha rfl (by rw[hl,hv])) hv' h
theorem C5s {pl:Sem Bool} {Q:Value×List Value->Shared->Prop} (X:K.In s.heap) (I:A3n s.heap x dx C mA) (hg:B2w K C name=true)
  (hf:N4 K (.ref C) name=some (some (.ref f))) (ht:W3 K (.ref f)=true) (hv:mA name=none) (h:Q (.ref f,[.ref x]) s) :
  wpAny (model prog w) A (getMethod (.ref x) name pl) Q E s:=by
 obtain⟨od,J,hl⟩:=I.look
 exact PySem.W.method_fn X J (C4e hg).1 (C4e hg).2 hf (beq_iff_eq.mp ht) (by show (B7a name od).map (·.isSome)=some false;rw[hl,hv];rfl) h
theorem C5t {ns:List Str} {Q:Unit->Shared->Prop} (X:K.In s.heap) (I:A3n s.heap x dx C mA)
  (hs:N4 K (.ref C) "__setattr__" = some (some (.builtin "object.__setattr__"))) (hp:PySem.W.plainOver K C=true) (ht:PySem.W.takerIn K C name=some none) (hh:B7b K C=true)
  (hw:PySem.Within mA ns) (hsz:ns.length<=sizeLine)
  (h:∀h',A3n h' x dx C (λy=>if y=name then some v else mA y)->Heap.SameBut dx s.heap h'->Q () { s with heap:=h',toks:=s.toks + 2 }) :
  wpAny (model prog w) A (setAttr (.ref x) name v) Q E s:=by
 obtain⟨od,J,hl⟩:=I.look
 refine PySem.W.set_plain X J hs (PySem.W.osa_open (s:={ s with toks:=s.toks + 1 }) (r:=none) X J hp ht λb=>?_)
 obtain⟨cd,hc,hd'⟩:=PySem.W.any_some hh
 have hx:s.heap.get? x=some ⟨.ref C,some dx,.plain,#[]⟩:=I.obj
 refine wpAny_bind (wpAny_pure (wpAny_bind (wpAny_bind (wpAny_loadPart hx (wpAny_bind (PySem.W.Looks.here (s:={ s with toks:=s.toks + 1 }) (PySem.W.looks_clsIn X hc) ?_))))))
 rw[hd']
 refine wpAny_pure (a:=some dx) (wpAny_bind (wpAny_pure (wpAny_bind ?_)))
 refine wpAny_nsSet1 (s:={ s with toks:=s.toks + 1 }) I.ns λh' hn2 hs2=>?_
 obtain⟨oD,esD,epD,hoD,hdD,hcD⟩:=hn2.count (PySem.Within.cons name v hw)
 refine wpAny_bind (wpAny_lookBehind hoD (by rw[hdD];exact pastItsLine_dict (b3 hcD (by rw[J8];lia))) ?_)
 exact wpAny_pure (h _ ⟨(hs2.2 _ (Ne.symm I.ne)).trans I.obj,hn2,I.ne⟩ hs2)
theorem C5u {R:Result->Shared->Prop} {vs:List Value} {kw:List (Str×Value)} (X:K.In s.heap) (hm:PySem.W.makesIn K C=true)
  (hi:N4 K (.ref C) "__init__" = some (some (.ref f))) (hf:PySem.W.typeIn K (.ref f)=some (.type "function"))
  (h:codeAny (model prog w) (A.under (.builtin "type.__call__" ⟨.ref C::vs,kw⟩)) (.call (.ref f) ⟨.ref (s.heap.objs.size + 1)::vs,kw⟩) (PySem.W.InitBack (s.heap.objs.size + 1) R)
   { s with heap:=(s.heap.push A3c).push (A5i C s.heap.objs.size) }) :
  codeAny (model prog w) A (.call (.ref C) ⟨vs,kw⟩) R s:=by
 obtain⟨hh,g,d,t,os⟩:=s
 exact PySem.W.make_core (PySem.W.makes_of X hm) (PySem.W.looks_findIn X hi) (λself=>PySem.W.bind_fn X self hf) (.inl rfl) h
end
def Q6 (f:Str) (v:V):List (Str×V)->List (Str×V)
 | []=>[(f,v)]
 | (g,x)::r=>if g=f then (g,v)::r else (g,x)::Q6 f v r
theorem B78 (f g:Str) (v:V):∀fs:List (Str×V),(Q6 f v fs).lookup g=if g=f then some v else fs.lookup g
 | []=>by
  show A8q g [(f,v)]=_
  by_cases h:g=f
  ·have hb:(g == f)=true:=beq_iff_eq.mpr h
   simp only[A8q,hb,if_pos h]
  ·have hb:(g == f)=false:=beq_eq_false_iff_ne.mpr h
   simp only[A8q,hb,if_neg h]
 | (k,x)::r=>by
  have ih:=B78 f g v r
  rw[show Q6 f v ((k,x)::r)=(if k=f then (k,v)::r else (k,x)::Q6 f v r) from rfl]
  by_cases hk:k=f
  ·rw[if_pos hk]
   by_cases h:g=k
   ·have hb:(g == k)=true:=beq_iff_eq.mpr h
    simp only[A8q,hb,if_pos (h.trans hk)]
   ·have hb:(g == k)=false:=beq_eq_false_iff_ne.mpr h
    simp only[A8q,hb,if_neg (λe:g=f=>h (e.trans hk.symm))]
  ·rw[if_neg hk]
   by_cases h:g=k
   ·have hb:(g == k)=true:=beq_iff_eq.mpr h
    simp only[A8q,hb,if_neg (λe:g=f=>hk (h.symm.trans e))]
   ·have hb:(g == k)=false:=beq_eq_false_iff_ne.mpr h
    simp only[A8q,hb]
    exact ih
theorem B3k (f:Str) (v:V):∀fs:List (Str×V),f∈(Q6 f v fs).map (·.1)/\∀g,g∈fs.map (·.1)->g∈(Q6 f v fs).map (·.1)
 | []=>⟨by simp [Q6],λg h=>by simp at h⟩
 | (k,x)::r=>by
  obtain⟨i1,i2⟩:=B3k f v r
  rw[show Q6 f v ((k,x)::r)=(if k=f then (k,v)::r else (k,x)::Q6 f v r) from rfl]
  by_cases hk:k=f
  ·rw[if_pos hk]
   subst hk
   exact⟨by simp,λg h=>by simpa using h⟩
  ·rw[if_neg hk]
   refine⟨?_,λg h=>?_⟩
   ·rw[Q9]
    exact D3 _ i1
   ·rw[Q9] at h ⊢
    rcases N3.mp h with e | e
    ·exact N3.mpr (.inl e)
    ·exact D3 _ (i2 g e)
theorem B79 (f:Str) (v:V):∀fs:List (Str×V),(Q6 f v fs).length<=fs.length + 1
 | []=>by simp [Q6]
 | (k,x)::r=>by
  have ih:=B79 f v r
  rw[show Q6 f v ((k,x)::r)=(if k=f then (k,v)::r else (k,x)::Q6 f v r) from rfl]
  by_cases hk:k=f
  ·rw[if_pos hk,J8,J8];lia
  ·rw[if_neg hk,J8,J8];lia
theorem W4.some_of {v:V} {o:Option Value} (r:W4 (some v) o):∃u,o=some u/\E1 v u:=by
 cases o with
 | none=>exact (show False from r).elim
 | some u=>exact⟨u,rfl,r⟩
theorem W4.none_of {o:Option Value} (r:W4 none o):o=none:=by
 cases o with
 | none=>rfl
 | some u=>exact (show False from r).elim
theorem C5v {v:V} {u:Value} (r:E1 v u):PySem.W.handedIn u=true:=by
 cases v with
 | non=>cases (show u=Value.none from r);rfl
 | bl b=>cases (show u=Value.bool b from r);rfl
 | int i=>obtain⟨t,e⟩:=(show ∃t,u=Value.int i t from r);cases e;rfl
 | str x=>obtain⟨t,e⟩:=(show ∃t,u=Value.str x t from r);cases e;rfl
 | byt b=>obtain⟨t,e⟩:=(show ∃t,u=Value.bytes b t from r);cases e;rfl
 | flt b=>obtain⟨t,e⟩:=(show ∃t,u=Value.float b t from r);cases e;rfl
 | ref a=>cases (show u=Value.ref a from r);rfl
 | ty n=>cases (show u=Value.type n from r);rfl
section
variable {P:Program} {w:World} {H H':Hp} {h h':Heap} {a C dx:Addr} {fs fs':List (Str×V)}
theorem B0y (hok:HOk P w H h) (e:H a=some (.ins C dx fs)):∃mA,A3n h a dx C mA/\(∀f,W4 (fs.lookup f) (mA f))/\PySem.Within mA (fs.map (·.1))/\fs.length<=1000/\H dx=some (.own a):=by
 obtain⟨d,z,ne,ob,mA,n,r,q⟩:=(show N5 P w H h a (.ins C dx fs) from hok a _ e)
 exact⟨mA,⟨ob,n,ne⟩,r,q,z,d⟩
end
structure Cls (K:A9) (C:Addr):Prop where
 pg:B2w K C Str.empty=true
 hd:B7b K C=true
 po:PySem.W.plainOver K C=true
 sa:N4 K (.ref C) "__setattr__" = some (some (.builtin "object.__setattr__"))
theorem Cls.get {K:A9} {C:Addr} (c:Cls K C) (f:Str):B2w K C f=true:=c.pg
def p9 (K:A9) (C:Addr) (f:Str):Prop:=N4 K (.ref C) f=some none
theorem p9.taker {K:A9} {C:Addr} {f:Str} (n:p9 K C f):PySem.W.takerIn K C f=some none:=by
 unfold PySem.W.takerIn
 rw[show N4 K (.ref C) f=some none from n]
 rfl
structure U8 (K:A9) (C:Addr) (m:Str) (f:Addr):Prop where
 at_:N4 K (.ref C) m=some (some (.ref f))
 fn:W3 K (.ref f)=true
 kp:Q4 K (.ref f)=true
section
variable {X:Cx} {pins:List (Addr×Obj)} {σ:St} {H:Hp} {s:Shared} {a C dx:Addr} {fs:List (Str×V)} {f:Str} {v:V} {A:Around} {E:Value->Shared->Prop}
theorem C5w {b:Bool} {Q:Value->Shared->Prop} (I:Inv X pins σ H s) (e:H a=some (.ins C dx fs)) (c:Cls X.K C) (n:p9 X.K C f) (l:fs.lookup f=some v)
  (h:∀u s',Inv X pins σ H s'->E1 v u->Q u s'):wpAny (model X.prog X.w) A (getAttr (.ref a) f b) Q E s:=by
 obtain⟨mA,O,r,_,_,_⟩:=B0y I.hok e
 obtain⟨u,hu,ru⟩:=W4.some_of (v:=v) (o:=mA f) (by rw[<-l];exact r f)
 exact C5r I.kIn O (c.get f) c.hd n hu (C5v ru) (h u _ (I.tok _) ru)
theorem B8a {m:Str} {g:Addr} {pl:Sem Bool} {Q:Value×List Value->Shared->Prop} (I:Inv X pins σ H s) (e:H a=some (.ins C dx fs)) (c:Cls X.K C) (k:U8 X.K C m g) (l:fs.lookup m=none)
  (h:Q (.ref g,[.ref a]) s):wpAny (model X.prog X.w) A (getMethod (.ref a) m pl) Q E s:=by
 obtain⟨mA,O,r,_,_,_⟩:=B0y I.hok e
 have hn:mA m=none:=W4.none_of (by rw[<-l];exact r m)
 exact C5s I.kIn O (c.get m) k.at_ k.fn hn h
theorem C5x {y:V} {u:Value} {Q:Unit->Shared->Prop} (I:Inv X pins σ H s) (e:H a=some (.ins C dx fs)) (c:Cls X.K C) (n:p9 X.K C f) (hl:fs.length < 1000) (ry:E1 y u)
  (h:∀s',Inv X pins σ (upd H a (.ins C dx (Q6 f y fs))) s'->Q () s'):wpAny (model X.prog X.w) A (setAttr (.ref a) f u) Q E s:=by
 obtain⟨mA,O,r,wi,_,ho⟩:=B0y I.hok e
 have hz:(fs.map (·.1)).length<=sizeLine:=by rw[C6,sizeLine_eq];lia
 refine C5t I.kIn O c.sa c.po n.taker c.hd wi hz λh' O' sb=>h _ ?_
 have hd:∃o,h'.get? dx=some o:=let ⟨o,_,_,e',_⟩:=O'.ns;⟨o,e'⟩
 refine I.write (x:=a) (e:=dx) (by rw[e];exact True.intro) (.inr ho) (λb q hb z=>(sb.2 b hb).trans z) hd ?_
 refine⟨by rw[B8 O.ne];exact ho,?_,O.ne,O'.obj,_,O'.ns,λg=>?_,λg hg=>?_⟩
 ·have:=B79 f y fs;lia
 ·show W4 ((Q6 f y fs).lookup g) (if g=f then some u else mA g)
  rw[B78]
  by_cases q:g=f
  ·rw[if_pos q,if_pos q];exact ry
  ·rw[if_neg q,if_neg q];exact r g
 ·by_cases q:g=f
  ·rw[q];exact (B3k f y fs).1
  ·refine (B3k f y fs).2 g (wi g λz=>hg ?_)
   show (if g=f then some u else mA g)=none
   rw[if_neg q];exact z
theorem Inv.made (I:Inv X pins σ H s):Inv X pins σ (upd (upd H s.heap.objs.size (.own (s.heap.objs.size + 1))) (s.heap.objs.size + 1) (.ins C s.heap.objs.size []))
  { s with heap:=(s.heap.push A3c).push (A5i C s.heap.objs.size) }:=by
 have e1:(s.heap.push A3c).get? s.heap.objs.size=some A3c:=T9 s.heap rfl
 have e2:((s.heap.push A3c).push (A5i C s.heap.objs.size)).get? (s.heap.objs.size + 1)=some (A5i C s.heap.objs.size):=by
  have:=T9 (s.heap.push A3c) (o:=A5i C s.heap.objs.size) rfl
  rwa [B7c] at this
 have e3:(s.heap.push A3c).Ns s.heap.objs.size (λ_=>none):=⟨A3c,#[],_,e1,rfl,(λe he=>absurd he (by simp)),λ_=>rfl⟩
 have I1:=I.laid (a:=s.heap.objs.size) (o:=.own (s.heap.objs.size + 1)) (h':=s.heap.push A3c) (t':=s.toks) (λb u q=>O0 _ q) (F9 _) ⟨_,e1⟩
 refine I1.laid (a:=s.heap.objs.size + 1) (o:=.ins C s.heap.objs.size []) (t':=s.toks) (λb u q=>O0 _ q) (Nat.le_of_eq (B7c _ _)) ?_
 have ne:s.heap.objs.size≠s.heap.objs.size + 1:=Q1 (B7d _)
 refine⟨by rw[B8 ne,B6],O7 _,ne,e2,λ_=>none,(Heap.Ns1.of_empty e3).at λo q=>O0 _ q,λ_=>True.intro,λy hy=>absurd rfl hy⟩
theorem C5y {prog:Program} {w:World} {env:Env} {e:Expr} {f:Str} {pos:Pos} {s:Shared} {Q:Value->Shared->Prop} (hb:attributeBase e f env (eval e env)=eval e env)
  (h:wpAny (model prog w) A (eval e env) (λo s₁=>wpAny (model prog w) A (getAttr o f true) Q E s₁) E s):wpAny (model prog w) A (eval (.Attribute e f pos) env) Q E s:=
 Attribute_any_ h (by rw[arm_eval_Attribute,hb])
end
def C5z (K:A9) (ta:TE) (f:Str):TE:=fun σ H Q=>ta σ H λx H1=>∃a C dx fs v,x=.ref a/\H1 a=some (.ins C dx fs)/\Cls K C/\p9 K C f/\fs.lookup f=some v/\Q v H1
def C50 (K:A9) (ta tv:TE) (f:Str):TS:=λD σ H=>tv σ H λy H1=>ta σ H1 λx H2=>∃a C dx fs,x=.ref a/\H2 a=some (.ins C dx fs)/\Cls K C/\p9 K C f/\fs.length < 1000/\
 D.nx σ (upd H2 a (.ins C dx (Q6 f y fs)))
section
variable {X:Cx} {o e value:Expr} {f:Str} {pos pos' tpos:Pos} {ta tv:TE}
theorem O9 (he:PE X e ta) (hb:attributeBase e f X.env (eval e X.env)=eval e X.env):PE X (.Attribute e f pos) (C5z X.K ta f):=by
 intro pins s σ H Q I h
 refine C5y hb (thn (he pins s σ H _ I h) λu s1 zz93=>zz93.elim λx zz94=>zz94.elim λH1 zz95=>zz95.elim λI1 zz96=>zz96.elim λrx zz97=>zz97.elim λa zz98=>zz98.elim λC zz99=>zz99.elim λdx zz100=>zz100.elim λfs zz101=>zz101.elim λv zz102=>zz102.elim λex zz103=>zz103.elim λea zz104=>zz104.elim λc zz105=>zz105.elim λn zz106=>zz106.elim λl q=>?_)
 subst ex
 obtain rfl:u=Value.ref a:=rx
 exact C5w I1 ea c n l λu' s2 I2 ru=>⟨v,H1,I2,ru,q⟩
theorem A18 (ha:PE X o ta) (hv:PE X value tv) (hs:swapsWith value (some (.Attribute o f pos')) pos.line X.env=pure false):PS X (.Assign [.Attribute o f pos'] value pos) (C50 X.K ta tv f):=by
 intro pins s σ H D I h
 refine plainObj_wpAny_Assign_Attribute (thn (hv pins s σ H _ I h) λu s1 zz122=>el5 zz122 λy H1 I1 ry q=>thn (ha pins s1 σ H1 _ I1 q) λov s2 zz123=>zz123.elim λx zz124=>zz124.elim λH2 zz125=>zz125.elim λI2 zz126=>zz126.elim λrx zz127=>zz127.elim λa zz128=>zz128.elim λC zz129=>zz129.elim λdx zz130=>zz130.elim λfs zz131=>zz131.elim λex zz132=>zz132.elim λea zz133=>zz133.elim λc zz134=>zz134.elim λn zz135=>zz135.elim λl q2=>?_) hs
 subst ex
 obtain rfl:ov=Value.ref a:=rx
 exact C5x I2 ea c n l ry λs3 I3=>⟨σ,_,I3,q2⟩
end
section
variable {X:Cx} {pins:List (Addr×Obj)} {σ:St} {H:Hp} {s:Shared} {A:Around} {E:Value->Shared->Prop} {Q:Value->Shared->Prop} {c:Value} {b:Bool}
inductive b8 (K:A9) (H:Hp):V->Value->Prop where
 | non:b8 K H .non (.type "NoneType")
 | bl (x:Bool):b8 K H (.bl x) (.type "bool")
 | int (i:Int):b8 K H (.int i) (.type "int")
 | str (x:Str):b8 K H (.str x) (.type "str")
 | flt (x:UInt64):b8 K H (.flt x) (.type "float")
 | lst {a:Addr} {xs:List V} (e:H a=some (.lst xs)):b8 K H (.ref a) (.type "list")
 | frz {a:Addr} {o:Obj} {xs:List V} (e:H a=some (.frz o (.lst xs))):b8 K H (.ref a) (.type "list")
 | tup {a:Addr} {xs:List V} (e:H a=some (.tup xs)):b8 K H (.ref a) (.type "tuple")
 | dK {a:Addr} {kvs:List (Key×V)} (e:H a=some (.dK kvs)):b8 K H (.ref a) (.type "dict")
 | dT {a:Addr} {kvs:List (List Key×V)} (e:H a=some (.dT kvs)):b8 K H (.ref a) (.type "dict")
 | ins {a C dx:Addr} {fs:List (Str×V)} (e:H a=some (.ins C dx fs)) (cl:Cls K C) (ha:N4 K (.ref C) "__class__" = some (some (.builtin "object.__class__")))
   (hn:PySem.W.specialIn K (.builtin "object.__class__") "__get__" = some (some (.builtin "getset_descriptor.__get__"))) (htk:PySem.W.takesIn K (.builtin "object.__class__")=some true)
   (hm:PySem.W.mroIn K C (.type "object")=some true):b8 K H (.ref a) (.ref C)
theorem B8b {x:V} {u t:Value} (I:Inv X pins σ H s) (rx:E1 x u) (ty:b8 X.K H x t) (e:p6 X.K t c=some b) (h:∀tk,Q (.bool b) { s with toks:=tk }) :
  wpAny (model X.prog X.w) A (call (.builtin "isinstance") [u,c]) Q E s:=by
 cases ty with
 | non=>cases (show u=Value.none from rx);exact A0i PySem.W.kitx_none I.kIn True.intro e (λz=>nomatch z) h
 | bl y=>cases (show u=Value.bool y from rx);exact A0i PySem.W.kitx_bool I.kIn True.intro e (λz=>nomatch z) h
 | int i=>obtain⟨t,q⟩:=(show ∃t,u=Value.int i t from rx);cases q;exact A0i PySem.W.kitx_int I.kIn True.intro e (λz=>nomatch z) h
 | str y=>obtain⟨t,q⟩:=(show ∃t,u=Value.str y t from rx);cases q;exact A0i PySem.W.kitx_str I.kIn True.intro e (λz=>nomatch z) h
 | flt y=>obtain⟨t,q⟩:=(show ∃t,u=Value.float y t from rx);cases q;exact A0i PySem.W.kitx_float I.kIn True.intro e (λz=>nomatch z) h
 | @lst a xs ea=>
  cases (show u=Value.ref a from rx)
  obtain⟨_,_,n,_,h1⟩:=(show N5 X.prog X.w H s.heap a (.lst xs) from I.hok a _ ea)
  exact A0i PySem.W.kitx_list I.kIn ⟨_,h1,rfl⟩ e (λz=>nomatch z) h
 | @frz a ob xs ea=>
  cases (show u=Value.ref a from rx)
  obtain⟨_,_,_,n,_,h1⟩:=(show N5 X.prog X.w H s.heap a (.frz ob (.lst xs)) from I.hok a _ ea)
  exact A0i PySem.W.kitx_list I.kIn ⟨_,h1,rfl⟩ e (λz=>nomatch z) h
 | @tup a xs ea=>
  cases (show u=Value.ref a from rx)
  obtain⟨_,_,_,p⟩:=(show N5 X.prog X.w H s.heap a (.tup xs) from I.hok a _ ea)
  obtain⟨o,h1,h2,_⟩:=p
  exact A0i PySem.W.kitx_tuple I.kIn ⟨o,h1,h2⟩ e (λz=>nomatch z) h
 | @dK a kvs ea=>
  cases (show u=Value.ref a from rx)
  obtain⟨_,_,vs,_,p⟩:=(show N5 X.prog X.w H s.heap a (.dK kvs) from I.hok a _ ea)
  obtain⟨o,es,ep,h1,h2,_⟩:=p
  exact A0i PySem.W.kitx_dict I.kIn ⟨o,h1,h2.1⟩ e (λz=>nomatch z) h
 | @dT a kvs ea=>
  cases (show u=Value.ref a from rx)
  obtain⟨_,_,xs,_,o,es,ep,h1,h2,_⟩:=(show N5 X.prog X.w H s.heap a (.dT kvs) from I.hok a _ ea)
  exact A0i PySem.W.kitx_dict I.kIn ⟨o,h1,h2.1⟩ e (λz=>nomatch z) h
 | @ins a C dx fs ea cl ha hn htk hm=>
  cases (show u=Value.ref a from rx)
  obtain⟨mA,O,_⟩:=B0y I.hok ea
  obtain⟨od,J,_⟩:=O.look
  exact A0i (PySem.W.kitx_own (cl.get _) cl.hd ha hn htk hm) I.kIn J e (λz=>nomatch z) h
end
structure P7 (k:Nat) (A:Around):Prop where
 hd:A.handled=none
 dp:A.depth + 3 * k + 5 < recursionLimit
 un:A.units + 16 * k + 200 < cLine
 gd:A.guards=some []
theorem P7.mono {j k:Nat} {A:Around} (r:P7 k A) (h:j<=k):P7 j A:=⟨r.hd,by have:=r.dp;lia,by have:=r.un;lia,r.gd⟩
theorem P7.deeper {k:Nat} {A:Around} (r:P7 (k + 1) A) (env:Env):P7 k (A.deeper env):=
 ⟨r.hd,by have:=r.dp;show A.depth + 1 + 3 * k + 5 < _;lia,by have:=r.un;show A.units + 3 + 16 * k + 200 < _;lia,r.gd⟩
theorem C51 {A:Around} {C:Addr} {us:List Value} {kw:List (Str×Value)}:(A.under (.builtin "type.__call__" ⟨.ref C::us,kw⟩)).depth=A.depth + 1:=by
 first | rfl | simp [Around.under,Code.weight,Code.isCreation,Code.isGuard,Code.isCaller,Code.frames,Code.isFrame,guardIds]
theorem C52 {A:Around} {C:Addr} {us:List Value} {kw:List (Str×Value)}:(A.under (.builtin "type.__call__" ⟨.ref C::us,kw⟩)).units=A.units + 1:=by
 first | rfl | simp [Around.under,Code.cUnits,Code.frames,Code.isFrame]
theorem P7.make {k:Nat} {A:Around} (r:P7 (k + 1) A) (C:Addr) (us:List Value) (kw:List (Str×Value)):P7 k (A.under (.builtin "type.__call__" ⟨.ref C::us,kw⟩)):=
 ⟨r.hd,by have:=r.dp;rw[C51];lia,by have:=r.un;rw[C52];lia,by first | exact r.gd | (show pushGuards _ A.guards=_;rw[r.gd];rfl)⟩
theorem P7.depth {k:Nat} {A:Around} (r:P7 k A):A.depth < recursionLimit:=by have:=r.dp;lia
theorem P7.units {k:Nat} {A:Around} (r:P7 k A):A.units + 64 < cLine:=by have:=r.un;lia
def g7:TA:=λ_ H Q=>Q [] H
def g8 (ta:TE) (tr:TA):TA:=fun σ H Q=>ta σ H λx H1=>tr σ H1 λxs H2=>Q (x::xs) H2
section
variable {X:Cx} {e:Expr} {es:List Expr} {te:TE} {t:TA} {pos:Pos}
theorem A5:PA X [] g7:=λ_ _ _ _ H Q I h=>Calls.spliced_nil ⟨[],H,I,.nil,h⟩
theorem A1 (ha:PE X e te) (hr:PA X es t) (hs:starEach (e::es) X.env=(false,eval e X.env)::starEach es X.env:=by rfl):PA X (e::es) (g8 te t):=by
 intro pos pins s σ H Q I h
 rw[hs]
 show wpAny _ _ (spliced ((false,eval e X.env)::backTo pos (starEach es X.env))) _ _ s
 refine Calls.spliced_cons (thn (ha pins s σ H _ I h) λu s1 zz173=>el5 zz173 λx H1 I1 r1 q1=>?_)
 exact thn (hr pos pins s1 σ H1 _ I1 q1) λus s2 zz174=>el5 zz174 λxs H2 I2 r2 q2=>⟨x::xs,H2,I2,.cons r1 r2,q2⟩
def C53 (t:TA):TE:=fun σ H Q=>t σ H λxs H1=>xs.length<=sizeLine/\∀p,H1 p=none->Q (.ref p) (upd H1 p (.tup xs))
def B8c (t:TA):TE:=fun σ H Q=>t σ H λxs H1=>xs.length<=sizeLine/\∀p,H1 p=none->Q (.ref p) (upd H1 p (.lst xs))
theorem R8 {x1} (h:PA X es t):PE X (.Tuple es x1 pos) (C53 t):=by
 intro pins s σ H Q I hq
 refine wpAny_Tuple_spliced (thn (h pos pins s σ H _ I hq) λus s1 zz175=>zz175.elim λxs zz176=>zz176.elim λH1 zz177=>zz177.elim λI1 zz178=>zz178.elim λr zz179=>zz179.elim λz q=>⟨by rw[<-r.length];exact z,?_⟩)
 have hf:H1 s1.heap.objs.size=none:=I1.hok.fresh (F9 _)
 refine⟨.ref s1.heap.objs.size,upd H1 s1.heap.objs.size (.tup xs),I1.laid (t':=s1.toks) (λb u e=>O0 _ e) (F9 _) ?_,rfl,q _ hf⟩
 exact⟨z,us,r,⟨_,T9 _ rfl,rfl,_,rfl⟩⟩
theorem U9 (h:PA X es t):PE X (.List es pos) (B8c t):=by
 intro pins s σ H Q I hq
 refine wpAny_List_spliced (thn (h pos pins s σ H _ I hq) λus s1 zz180=>zz180.elim λxs zz181=>zz181.elim λH1 zz182=>zz182.elim λI1 zz183=>zz183.elim λr zz184=>zz184.elim λz q=>⟨by rw[<-r.length];exact z,?_⟩)
 have hf:H1 s1.heap.objs.size=none:=I1.hok.fresh (F9 _)
 refine⟨.ref s1.heap.objs.size,upd H1 s1.heap.objs.size (.lst xs),I1.laid (t':=s1.toks) (λb u e=>O0 _ e) (F9 _) ?_,rfl,q _ hf⟩
 exact⟨z,us,0,r,T9 _ rfl⟩
end
abbrev Sp:=List V->Hp->VK->XK->Prop
abbrev CXT:=List Env->Hp->Shared->XK->Value->Shared->Prop
structure A3o (P:Program) (w:World) (K:A9) (mg:Str->Option Value) (base:Heap) (A:Around) (outer:List Env) (s:Shared) (H:Hp):Prop where
 frames:A.frames=some outer
 mod:Mod K mg base
 bs:∀b o,base.get? b=some o->s.heap.get? b=some o/\H b=none
 bsz:base.objs.size<=s.heap.objs.size
 funs:s.heap.FunFrames base outer
 frf:∀b∈frs outer,H b=none
 hok:HOk P w H s.heap
 bare:AllBare s.gens
def CE (outer:List Env) (P:Program) (w:World) (H:Hp) (s:Shared) (Q:VK) (u:Value) (s':Shared):Prop:=
 ∃v H',s'.os=s.os/\AllBare s'.gens/\Un (frs outer) [] H H' s.heap s'.heap/\HOk P w H' s'.heap/\E1 v u/\Q v H'
def CR (CX:CXT) (outer:List Env) (P:Program) (w:World) (H:Hp) (s:Shared) (Q:VK) (E:XK) (r:Result) (s':Shared):Prop:=
 match r with
 | .ok (.ret u)=>CE outer P w H s Q u s'
 | .ok _=>False
 | .error e=>CX outer H s E e s'
structure C1 (P:Program) (w:World) (K:A9) (mg:Str->Option Value) (base:Heap) (CX:CXT) (k:Nat) (f:Addr) (fd:FuncData) (ps:List Str) (sp:Sp):Prop where
 len:∀vs H Q E,sp vs H Q E->vs.length=ps.length
 run:∀(A:Around) (outer:List Env) (s:Shared) (H:Hp) (args:Args) (us:List Value) (vs:List V) (Q:VK) (E:XK),P7 k A->A3o P w K mg base A outer s H->BindsTo s fd args (ps.zip us)->D5 vs us->sp vs H Q E->
  codeAny (model P w) A (.call (.ref f) args) (CR CX outer P w H s Q E) s
theorem C1.imp {P:Program} {w:World} {K:A9} {mg:Str->Option Value} {base:Heap} {CX:CXT} {k:Nat} {f:Addr} {fd:FuncData} {ps:List Str} {sp sp':Sp} (F:C1 P w K mg base CX k f fd ps sp)
  (h:∀vs H Q E,sp' vs H Q E->sp vs H Q E):C1 P w K mg base CX k f fd ps sp':=
 ⟨λvs H Q E q=>F.len vs H Q E (h _ _ _ _ q),λA outer s H args us vs Q E hr he hb hv hs=>F.run A outer s H args us vs Q E hr he hb hv (h _ _ _ _ hs)⟩
theorem A3o.make {P:Program} {w:World} {K:A9} {mg:Str->Option Value} {base:Heap} {A:Around} {outer:List Env} {s:Shared} {H:Hp} (e:A3o P w K mg base A outer s H) (C:Addr) (us:List Value) (kw:List (Str×Value)) :
  A3o P w K mg base (A.under (.builtin "type.__call__" ⟨.ref C::us,kw⟩)) outer s H:=⟨by first | exact e.frames | (simpa [Around.under,Code.envs,Code.isFrame,pushEnvs] using e.frames),e.mod,e.bs,e.bsz,e.funs,e.frf,e.hok,e.bare⟩
section
variable {X:Cx} {pins:List (Addr×Obj)} {σ:St} {H:Hp} {s s':Shared}
theorem Inv.env0 (I:Inv X pins σ H s):A3o X.prog X.w X.K X.mg X.base X.A X.stack s H:=
 ⟨I.ok.frames,I.ok.mod,I.bs,b3 I.ok.bsz I.sz,I.stack,I.stkFree,I.hok,I.bare⟩
theorem Inv.after {Q:VK} {u:Value} (I:Inv X pins σ H s) (h:CE X.stack X.prog X.w H s Q u s'):EP X pins σ Q u s':=by
 obtain⟨v,H',os,bare,un,hok,r,q⟩:=h
 obtain⟨hh,g,d,t,os'⟩:=s'
 obtain rfl:os'=s.os:=os
 exact⟨v,H',I.call (h':=hh) (g':=g) (d':=d) (t':=t) (ch:=[]) un hok bare (λb z=>absurd z (by simp)),r,q⟩
end
def B8d (sp:Sp) (dvs:List V) (E:XK) (t:TA):TE:=fun σ H Q=>t σ H λvs H1=>sp (vs++dvs) H1 Q E
def B8e (C:Addr) (m:Str) (sp:Sp) (dvs:List V) (E:XK) (ta:TE) (t:TA):TE:=fun σ H Q=>ta σ H λx H1=>∃a dx fs,x=.ref a/\H1 a=some (.ins C dx fs)/\fs.lookup m=none/\
 t σ H1 λvs H2=>sp (x::(vs++dvs)) H2 Q E
def C54 (C:Addr) (sp:Sp) (dvs:List V) (E:XK) (t:TA):TE:=fun σ H Q=>t σ H λvs H1=>∀x dx,H1 x=none->H1 dx=none->dx≠x->
 sp (.ref x::(vs++dvs)) (upd (upd H1 dx (.own x)) x (.ins C dx [])) (λv H2=>v=.non/\Q (.ref x) H2) E
def P8 (K:A9) (fd:FuncData) (ps:List Str) (ds:List Value):Prop:=
 ∀(s:Shared) (us:List Value),K.In s.heap->(us++ds).length=ps.length->BindsTo s fd ⟨us,[]⟩ (ps.zip (us++ds))
theorem P8.all {K:A9} {fd:FuncData} {ps:List Str} (h:∀us:List Value,us.length=ps.length->bindArgs fd ⟨us,[]⟩=pure (ps.zip us)):P8 K fd ps []:=λs us _ hl=>by
 rw[A1f] at hl ⊢
 exact .of_eq (h us hl)
def A3p (CX:CXT) (X:Cx) (E:XK):Prop:=∀(pins:List (Addr×Obj)) (σ:St) (H:Hp) (s:Shared) (e:Value) (s':Shared),Inv X pins σ H s->CX X.stack H s E e s'->X.xe e s'
section
variable {X:Cx} {CX:CXT} {k:Nat} {f C:Addr} {fd:FuncData} {ps:List Str} {sp:Sp} {dvs:List V} {ds:List Value} {E:XK} {x m:Str} {p pos apos:Pos} {e o:Expr} {es:List Expr} {ta:TE} {t:TA}
theorem B3l {pins:List (Addr×Obj)} {σ:St} {H:Hp} {s:Shared} {Q:VK} {us:List Value} {vs:List V} (F:C1 X.prog X.w X.K X.mg X.base CX k f fd ps sp) (hr:P7 k X.A) (hb:P8 X.K fd ps ds) (hd:D5 dvs ds) (hx:A3p CX X E)
  (I:Inv X pins σ H s) (r:D5 vs us) (h:sp (vs++dvs) H Q E):wpAny (model X.prog X.w) X.A (call (.ref f) us) (EP X pins σ Q) X.xe s:=by
 have r2:D5 (vs++dvs) (us++ds):=r.append hd
 have hl:(us++ds).length=ps.length:=by rw[<-r2.length];exact F.len _ _ _ _ h
 refine wpAny_call (codeAny_mono (F.run X.A X.stack s H ⟨us,[]⟩ (us++ds) (vs++dvs) Q E hr I.env0 (hb s us I.kIn hl) r2 h) λr s' hq=>?_)
 cases r with
 | error e=>exact hx pins σ H s e s' I hq
 | ok fl=>
  cases fl with
  | ret u=>exact I.after hq
  | next=>exact False.elim hq
  | brk=>exact False.elim hq
  | cont=>exact False.elim hq
theorem B0 (F:C1 X.prog X.w X.K X.mg X.base CX k f fd ps sp) (hr:P7 k X.A) (hg:Gl X x) (hm:X.mg x=some (.ref f)) (hk:Q4 X.K (.ref f)=true) (hb:P8 X.K fd ps ds) (hd:D5 dvs ds) (hx:A3p CX X E)
  (ha:PA X (e::es) t) (hdb:(x == ("__debug__" : Str))=false:=by decide) (he:starEach (e::es) X.env=(false,eval e X.env)::starEach es X.env:=by rfl) (hpl:(backTo pos (starEach es X.env)).any (·.1)=false:=by rfl) :
  PE X (.Call (.Name x p) (e::es) [] pos) (B8d sp dvs E t):=by
 intro pins s σ H Q I h
 refine wpAny_Call_Name_kw (B3a I hg hm ?_ hdb)
 refine C4f (h₀:=X.base) I.ok.mod.kin hk (thn (ha pos pins s σ H _ I h) λus s1 zz185=>el5 zz185 λvs H1 I1 r q=>⟨I1.kIn,?_⟩) he hpl
 exact B3l F hr hb hd hx I1 r q
theorem g9 {pl:Sem Bool} (he:PE X o ta) (c:Cls X.K C) (hm:U8 X.K C m f) (F:C1 X.prog X.w X.K X.mg X.base CX k f fd ps sp) (hr:P7 k X.A) (hb:P8 X.K fd ps ds) (hd:D5 dvs ds) (hx:A3p CX X E) (ha:PA X (e::es) t)
  (hst:starEach (e::es) X.env=(false,eval e X.env)::starEach es X.env:=by rfl) (hpl:(backTo pos (starEach es X.env)).any (·.1)=false:=by rfl)
  (ht:eval (.Call (.Attribute o m apos) (e::es) [] pos) X.env=(do
   let ov <-eval o X.env
   standAt apos.atName
   let (f,first) <-holding [ov] (getMethod ov m pl)
   callWith pos f first (backTo pos (starEach (e::es) X.env)) (backToKw pos (keywordEach [] X.env))):=by rfl) :
  PE X (.Call (.Attribute o m apos) (e::es) [] pos) (B8e C m sp dvs E ta t):=by
 intro pins s σ H Q I h
 refine PySem.W.methodCall_KW (pl:=pl) (thn (he pins s σ H _ I h) λu s1 zz186=>zz186.elim λx zz187=>zz187.elim λH1 zz188=>zz188.elim λI1 zz189=>zz189.elim λrx zz190=>zz190.elim λa zz191=>zz191.elim λdx zz192=>zz192.elim λfs zz193=>zz193.elim λex zz194=>zz194.elim λea zz195=>zz195.elim λl q=>?_) ht
 subst ex
 obtain rfl:u=Value.ref a:=rx
 refine B8a I1 ea c hm l ?_
 refine C4f (first:=[.ref a]) (h₀:=X.base) I.ok.mod.kin hm.kp (thn (ha pos pins s1 σ H1 _ I1 q) λus s2 zz196=>el5 zz196 λvs H2 I2 r q2=>⟨I2.kIn,?_⟩) hst hpl
 exact B3l (us:=.ref a::us) (vs:=.ref a::vs) F hr hb hd hx I2 (.cons rfl r) q2
theorem b9 {pl:Sem Bool} (he:PE X o ta) (c:Cls X.K C) (hm:U8 X.K C m f) (F:C1 X.prog X.w X.K X.mg X.base CX k f fd ps sp) (hr:P7 k X.A) (hb:P8 X.K fd ps ds) (hd:D5 dvs ds) (hx:A3p CX X E)
  (ht:eval (.Call (.Attribute o m apos) [] [] pos) X.env=(do
   let ov <-eval o X.env
   standAt apos.atName
   let (f,first) <-holding [ov] (getMethod ov m pl)
   callWith pos f first (backTo pos (starEach [] X.env)) (backToKw pos (keywordEach [] X.env))):=by rfl) :
  PE X (.Call (.Attribute o m apos) [] [] pos) (B8e C m sp dvs E ta g7):=by
 intro pins s σ H Q I h
 refine PySem.W.methodCall_KW (pl:=pl) (thn (he pins s σ H _ I h) λu s1 zz197=>zz197.elim λx zz198=>zz198.elim λH1 zz199=>zz199.elim λI1 zz200=>zz200.elim λrx zz201=>zz201.elim λa zz202=>zz202.elim λdx zz203=>zz203.elim λfs zz204=>zz204.elim λex zz205=>zz205.elim λea zz206=>zz206.elim λl q=>?_) ht
 subst ex
 obtain rfl:u=Value.ref a:=rx
 refine B8a I1 ea c hm l ?_
 exact PySem.W.callWith_K0 (first:=[.ref a]) I1.kIn hm.kp (B3l (us:=[.ref a]) (vs:=[.ref a]) F hr hb hd hx I1 (.cons rfl .nil) q)
structure Mk (K:A9) (C f:Addr):Prop where
 makes:PySem.W.makesIn K C=true
 init:N4 K (.ref C) "__init__" = some (some (.ref f))
 fn:W3 K (.ref f)=true
 kp:Q4 K (.ref C)=true
theorem C55 {pins:List (Addr×Obj)} {σ:St} {H:Hp} {s:Shared} {Q:VK} {us:List Value} {vs:List V} (M:Mk X.K C f) (F:C1 X.prog X.w X.K X.mg X.base CX k f fd ps sp) (hr:P7 (k + 1) X.A) (hb:P8 X.K fd ps ds) (hd:D5 dvs ds)
  (hx:A3p CX X E) (I:Inv X pins σ H s) (r:D5 vs us)
  (h:∀x dx,H x=none->H dx=none->dx≠x->sp (.ref x::(vs++dvs)) (upd (upd H dx (.own x)) x (.ins C dx [])) (λv H2=>v=.non/\Q (.ref x) H2) E) :
  wpAny (model X.prog X.w) X.A (call (.ref C) us) (EP X pins σ Q) X.xe s:=by
 have hq:=h (s.heap.objs.size + 1) s.heap.objs.size (I.hok.fresh (A1g _)) (I.hok.fresh (F9 _)) (Q1 (B7d _))
 have I2:=Inv.made (C:=C) I
 have r2:D5 (V.ref (s.heap.objs.size + 1)::(vs++dvs)) (Value.ref (s.heap.objs.size + 1)::(us++ds)):=.cons rfl (r.append hd)
 have hl:(Value.ref (s.heap.objs.size + 1)::us++ds).length=ps.length:=by
  have e:=r2.length
  rw[F.len _ _ _ _ hq] at e
  exact e.symm
 refine wpAny_call (C5u (f:=f) I.kIn M.makes M.init (beq_iff_eq.mp M.fn) (codeAny_mono (F.run _ X.stack _ _ ⟨Value.ref (s.heap.objs.size + 1)::us,[]⟩ (Value.ref (s.heap.objs.size + 1)::(us++ds)) _ _ E (hr.make C us [])
  (I2.env0.make C us []) (hb _ (Value.ref (s.heap.objs.size + 1)::us) I2.kIn hl) r2 hq) λr s' hq'=>?_))
 cases r with
 | error e=>exact hx pins σ _ _ e s' I2 hq'
 | ok fl=>
  cases fl with
  | ret u=>
   obtain⟨v,H',I3,rv,ev,q3⟩:=I2.after hq'
   subst ev
   exact⟨rv,⟨V.ref (s.heap.objs.size + 1),H',I3,rfl,q3⟩⟩
  | next=>exact False.elim hq'
  | brk=>exact False.elim hq'
  | cont=>exact False.elim hq'
theorem B8f (M:Mk X.K C f) (F:C1 X.prog X.w X.K X.mg X.base CX k f fd ps sp) (hr:P7 (k + 1) X.A) (hg:Gl X x) (hm:X.mg x=some (.ref C)) (hb:P8 X.K fd ps ds) (hd:D5 dvs ds) (hx:A3p CX X E)
  (ha:PA X (e::es) t) (hdb:(x == ("__debug__" : Str))=false:=by decide) (he:starEach (e::es) X.env=(false,eval e X.env)::starEach es X.env:=by rfl) (hpl:(backTo pos (starEach es X.env)).any (·.1)=false:=by rfl) :
  PE X (.Call (.Name x p) (e::es) [] pos) (C54 C sp dvs E t):=by
 intro pins s σ H Q I h
 refine wpAny_Call_Name_kw (B3a I hg hm ?_ hdb)
 refine C4f (h₀:=X.base) I.ok.mod.kin M.kp (thn (ha pos pins s σ H _ I h) λus s1 zz207=>el5 zz207 λvs H1 I1 r q=>⟨I1.kIn,?_⟩) he hpl
 exact C55 M F hr hb hd hx I1 r q
end
section
variable {X:Cx} {CX:CXT} {k:Nat} {f C:Addr} {fd:FuncData} {ps ks:List Str} {sp:Sp} {E:XK} {x m:Str} {p pos apos kpos:Pos} {e o:Expr} {es:List Expr} {kws:List Keyword} {te ta:TE} {t tk:TA} {nm:Option Str}
variable {g:List Value->List Value->List Value} {gV:List V->List V->List V}
end
structure D1 (N P:List Str) (sc:Scope):Prop where
 kind:sc.kind=.function
 co:sc.isCoroutine=false
 gen:sc.isGenerator=false
 nd:N.Nodup
 pre:N.take P.length=P
 par:∀x∈P,sc.names.lookup x=some .local\/sc.names.lookup x=some .cell
 nofree:∀y∈sc.names,y.2≠.free
theorem B8g {kindOf:Str->Option NameKind} {x:Str}:∀{binds:List (Str×Value)} {m:Str->Option Value},(∀v,(x,v)∉binds)->bindL kindOf binds m x=m x
 | [],_,_=>rfl
 | (n,v)::r,m,h=>by
  unfold bindL
  rw[B8g λw hw=>h w (D3 _ hw)]
  split
  ·have:x≠n:=by rintro rfl;exact h v D9
   simp [this]
  ·rfl
theorem B8h {kindOf:Str->Option NameKind} {x:Str}:∀{binds:List (Str×Value)} {m:Str->Option Value},(∀v,(x,v)∉binds)->bindC kindOf binds m x=m x
 | [],_,_=>rfl
 | (n,v)::r,m,h=>by
  unfold bindC
  rw[B8h λw hw=>h w (D3 _ hw)]
  split
  ·rfl
  ·have:x≠n:=by rintro rfl;exact h v D9
   simp [this]
theorem B8i {kindOf:Str->Option NameKind} {x:Str} {v:Value}:∀{P:List Str} {vs:List Value} {i:Nat} {m:Str->Option Value},P.Nodup->P[i]?=some x->vs[i]?=some v->kindOf x=some .local->
  bindL kindOf (P.zip vs) m x=some v
 | [],_,_,_,_,h,_,_=>by simp at h
 | _::_,[],_,_,_,_,h,_=>by simp at h
 | p::P,w::vs,0,m,nd,h1,h2,hk=>by
  simp at h1 h2;subst h1;subst h2
  show bindL kindOf ((p,w)::P.zip vs) m p=_
  unfold bindL
  rw[B8g λv hv=>(A8r.mp nd).1 (List.of_mem_zip hv).1,if_pos hk]
  simp
 | p::P,w::vs,i + 1,m,nd,h1,h2,hk=>by
  show bindL kindOf ((p,w)::P.zip vs) m x=_
  unfold bindL
  exact B8i (i:=i) (A8r.mp nd).2 (by simpa using h1) (by simpa using h2) hk
theorem B8j {kindOf:Str->Option NameKind} {x:Str} {v:Value}:∀{P:List Str} {vs:List Value} {i:Nat} {m:Str->Option Value},P.Nodup->P[i]?=some x->vs[i]?=some v->kindOf x≠some .local->
  bindC kindOf (P.zip vs) m x=some v
 | [],_,_,_,_,h,_,_=>by simp at h
 | _::_,[],_,_,_,_,h,_=>by simp at h
 | p::P,w::vs,0,m,nd,h1,h2,hk=>by
  simp at h1 h2;subst h1;subst h2
  show bindC kindOf ((p,w)::P.zip vs) m p=_
  unfold bindC
  rw[B8h λv hv=>(A8r.mp nd).1 (List.of_mem_zip hv).1,if_neg hk]
  simp
 | p::P,w::vs,i + 1,m,nd,h1,h2,hk=>by
  show bindC kindOf ((p,w)::P.zip vs) m x=_
  unfold bindC
  exact B8j (i:=i) (A8r.mp nd).2 (by simpa using h1) (by simpa using h2) hk
def start (N:List Str) (vs:List V):St:=vs.map some++E5 (N.length - vs.length) none
def N6 (CX:CXT) (P:Program) (w:World) (K:A9) (mg:Str->Option Value) (base:Heap) (N:List Str) (qual:Str) (scope:Scope) (f:Addr) (cd:Value) (A:Around) (outer:List Env) (s:Shared) (H:Hp) (E:XK):Cx where
 prog:=P
 w:=w
 K:=K
 mg:=mg
 base:=base
 A:=A.deeper (envOfC qual scope s.heap.objs.size f cd)
 N:=N
 s₀:=s
 H₀:=H
 env:=envOfC qual scope s.heap.objs.size f cd
 outer:=outer
 stack:=envOfC qual scope s.heap.objs.size f cd::outer
 ex:=[]
 calm:=true
 fn:=λ_=>true
 pn:=[]
 xe:=λe s'=>wpAny (model P w) (A.deeper (envOfC qual scope s.heap.objs.size f cd)) (leaving (envOfC qual scope s.heap.objs.size f cd) e) (λ_ s''=>CX outer H s E e s'') (λe' s''=>CX outer H s E e' s'') s'
theorem B8k {sc:Scope} {n:Nat} {x:Str} (h:sc.names.lookup x=some .cell):∃c,(cellsFrom n sc.names []).lookup x=some c:=by
 have q:=PySem.W.cellsFrom_some sc.names n [] (.inl h)
 exact Option.isSome_iff_exists.mp q
theorem C56 {CX:CXT} {P:Program} {w:World} {K:A9} {mg:Str->Option Value} {base:Heap} {N ps:List Str} {qual:Str} {scope:Scope} {f:Addr} {cd:Value} {A:Around} {outer:List Env} {s s1:Shared} {H:Hp} {E:XK} {us:List Value} {vs:List V}
  (S:D1 N ps scope) (hd:A.handled=none) (e0:A3o P w K mg base A outer s H) (hl:vs.length=ps.length) (r:D5 vs us)
  (x:InCallC s s.heap.objs.size (bindL (envOfC qual scope s.heap.objs.size f cd).kindOf (ps.zip us) λ_=>none) (cellsFrom (s.heap.objs.size + 1) scope.names []) (bindC (envOfC qual scope s.heap.objs.size f cd).kindOf (ps.zip us) λ_=>none) s1) :
  Inv (N6 CX P w K mg base N qual scope f cd A outer s H E) [] (start N vs) H s1:=by
 have hpl:ps.length<=N.length:=by have:=congrArg p7 S.pre;rw[j6] at this;lia
 obtain⟨h1,tk,rfl,hk⟩:=x.done
 have noA:∀b:Addr,b∉(N6 CX P w K mg base N qual scope f cd A outer s H E).ex:=λb z=>absurd (show b∈([]:List Addr) from z) (by simp)
 refine⟨⟨e0.mod,S.kind,rfl,rfl,F9 _,λy z c h1 h2=>?_,λy hy=>?_,λy c _ h=>?_,λ_=>hd,Around.frames_deeper e0.frames,.inr ⟨rfl,rfl⟩,λb z=>absurd z (noA b),e0.bs,e0.bsz,λb _ _=>noA b,λb z=>absurd z (noA b),e0.funs,e0.frf⟩,
  rfl,e0.bare,Un.kept hk,⟨_,x.toInCall.ns,λi y v h1 h2 h3=>?_⟩,λy c h=>⟨_,x.cell y c h⟩,e0.hok.fresh (F9 _),λy c h=>?_,λp hp=>absurd (show p∈([]:List (Addr×Obj)) from hp) (by simp),e0.hok.kept hk,?_⟩
 ·exact name_of_addr x.apart (B2x h1) (B2x h2)
 ·have hy:scope.names.lookup y=some .cell\/scope.names.lookup y=some .free:=hy
  rcases hy with hy | hy
  ·exact B8k hy
  ·exact absurd rfl (S.nofree _ (B2x hy))
 ·exact A8o (x.above y c (B2x h))
 ·have hi:i < vs.length:=by
   unfold start at h2
   by_cases hi:i < vs.length
   ·exact hi
   ·rw[A5k (by simpa using hi)] at h2
    rw[C4g] at h2
    split at h2 <;> cases h2
  have ha:vs[i]?=some v:=by
   unfold start at h2
   rw[A3d (by simpa using hi),K3] at h2
   cases e:vs[i]? with
   | none=>rw[e] at h2;cases h2
   | some a=>rw[e] at h2;cases h2;rfl
  obtain⟨u,hu,rv⟩:=r.get ha
  have hp:ps[i]?=some y:=by
   rw[<-S.pre,List.getElem?_take_of_lt (by lia)];exact h1
  have ndP:ps.Nodup:=by rw[<-S.pre];exact S.nd.sublist (List.take_sublist _ _)
  refine⟨u,rv,?_⟩
  rcases S.par y (R6 hp) with k | k
  ·exact .inl ⟨k,B8i ndP hp hu k⟩
  ·obtain⟨c,e⟩:=B8k (n:=s.heap.objs.size + 1) k
   refine .inr ⟨.inl k,c,e,?_⟩
   have q:=x.cell y c e
   rw[B8j ndP hp hu (by show scope.names.lookup y≠_;rw[k];decide)] at q
   exact q
 ·exact e0.hok.fresh (A8o (x.above y c (B2x h)))
 ·unfold start
  show _=N.length
  rw[U6,C6,A10]
  lia
theorem C57 {CX:CXT} {P:Program} {w:World} {K:A9} {mg:Str->Option Value} {base:Heap} {k:Nat} {f:Addr} {name qual:Str} {params:Arguments} {body:List Stmt} {scope:Scope} {dV kV doc pm cdv ct oc:Value} {an od:Option Addr}
  {osl:Array (Option Value)} {N ps:List Str} {sp:Sp} (lk:K.lookup f=some ⟨oc,od,.func (P6 name qual params body scope dV kV doc pm an cdv ct),osl⟩) (hcd:T0 K cdv qual=true) (S:D1 N ps scope)
  (len:∀vs H Q E,sp vs H Q E->vs.length=ps.length)
  (hbody:∀(A:Around) (outer:List Env) (s:Shared) (H:Hp) (vs:List V) (Q:VK) (E:XK),P7 k (A.deeper (envOfC qual scope s.heap.objs.size f cdv))->sp vs H Q E->
   ∃t,PSs (N6 CX P w K mg base N qual scope f cdv A outer s H E) body t/\t { nx:=λ_ H'=>Q .non H',rt:=Q } (start N vs) H) :
  C1 P w K mg base CX (k + 1) f (P6 name qual params body scope dV kV doc pm an cdv ct) ps sp:=by
 refine⟨len,λA outer s H args us vs Q E hr e0 hb r hsp=>?_⟩
 have hl:=len _ _ _ _ hsp
 have KX:K.In s.heap:=e0.mod.kin.keeps λb o e=>(e0.bs b o e).1
 have lim:s.heap.NoLimit:=e0.mod.nolimit.keeps λb o e=>(e0.bs b o e).1
 have hkind:∀y∈ps.zip us,scope.names.lookup y.1=some .local\/(scope.names.lookup y.1=some .cell/\((cellsFrom (s.heap.objs.size + 1) scope.names []).lookup y.1).isSome=true):=λ⟨n,v⟩ hy=>by
  rcases S.par n (List.of_mem_zip hy).1 with q | q
  ·exact .inl q
  ·exact .inr ⟨q,PySem.W.cellsFrom_some _ _ _ (.inl q)⟩
 refine codeAny_call_function hr.depth (KX _ _ lk) rfl S.co S.gen rfl (PySem.W.codeRec_of KX hcd) (hb _ _ _ _ ?_)
 refine wpAny_newFunctionEnv_cells S.kind hkind λenv he s1 x=>?_
 subst he
 refine⟨lim.keeps x.toInCall.keep,codeAny_func ?_⟩
 obtain⟨t,ht,hq⟩:=hbody A outer s H vs Q E (hr.deeper _) hsp
 have I:Inv (N6 CX P w K mg base N qual scope f cdv A outer s H E) [] (start N vs) H s1:=C56 S hr.hd e0 hl r x
 refine wpAny_mono (ht [] s1 (start N vs) H _ I hq) (λfl s' hs=>?_) λe s' hs=>hs
 have fin:∀{σ':St} {H':Hp} {v:V} {u:Value},Inv (N6 CX P w K mg base N qual scope f cdv A outer s H E) [] σ' H' s'->E1 v u->Q v H'->CE outer P w H s Q u s':=
  λ{σ' H' v u} J rv q=>⟨v,H',J.os,J.bare,J.base,J.hok,rv,q⟩
 cases fl with
 | ret u=>
  obtain⟨v,σ',H',J,rv,q⟩:=hs
  exact fin J rv q
 | next=>
  obtain⟨σ',H',J,q⟩:=hs
  exact fin (v:=V.non) (u:=Value.none) J rfl q
 | brk=>
  obtain⟨_,_,_,q⟩:=hs
  exact False.elim q
 | cont=>
  obtain⟨_,_,_,q⟩:=hs
  exact False.elim q
section
variable {X:Cx} {x:Str} {p pos:Pos} {e:Expr} {es:List Expr} {t:TA} {id T:String} {r:List V->Hp->VK->Prop}
def tCB (r:List V->Hp->VK->Prop) (t:TA):TE:=fun σ H Q=>t σ H λvs H1=>r vs H1 Q
theorem E9 (hc:Y9 X (.builtin id) r) (hg:Gl X x) (hm:X.mg x=none) (hv:bootBuiltins x=some (.builtin id)) (ha:PA X (e::es) t) (hn:x≠ "__name__" :=by decide) (hdb:(x == ("__debug__" : Str))=false:=by decide)
  (he:starEach (e::es) X.env=(false,eval e X.env)::starEach es X.env:=by rfl) (hpl:(backTo pos (starEach es X.env)).any (·.1)=false:=by rfl):PE X (.Call (.Name x p) (e::es) [] pos) (tCB r t):=by
 intro pins s σ H Q I h
 refine wpAny_Call_Name_kw (A1l I hg hm hv ?_ hn hdb)
 exact PyProof.Rows.callWith_builtin1 (thn (ha pos pins s σ H _ I h) λus s1 zz213=>el5 zz213 λvs H1 I1 r1 q1=>hc pins s1 σ H1 vs us Q I1 r1 q1) he hpl
theorem W6 (hc:Y9 X (.type T) r) (hg:Gl X x) (hm:X.mg x=none) (hv:bootBuiltins x=some (.type T)) (ha:PA X (e::es) t) (hn:x≠ "__name__" :=by decide) (hdb:(x == ("__debug__" : Str))=false:=by decide)
  (he:starEach (e::es) X.env=(false,eval e X.env)::starEach es X.env:=by rfl) (hpl:(backTo pos (starEach es X.env)).any (·.1)=false:=by rfl):PE X (.Call (.Name x p) (e::es) [] pos) (tCB r t):=by
 intro pins s σ H Q I h
 refine wpAny_Call_Name_kw (A1l I hg hm hv ?_ hn hdb)
 exact PyProof.Rows.callWith_type1 (thn (ha pos pins s σ H _ I h) λus s1 zz214=>el5 zz214 λvs H1 I1 r1 q1=>hc pins s1 σ H1 vs us Q I1 r1 q1) he hpl
end
end L2
namespace HT
open PySem PyProof.Rows
section
open PySem.SeqAt
open PySem.AutoSeq1 (wpAny_loadPart')
open PySem.MeetsSeq PySem.MeetsSeq2 PySem.MeetsSeq3
end
section
variable {prog:Program} {w:World} {A:Around} {E:Value->Shared->Prop} {s:Shared}
def sIx (n d:Nat):Option Int->Nat
 | none=>d
 | some v=>if v < 0 then (v + (n:Int)).toNat else min v.toNat n
theorem sIx_none (n d:Nat):sIx n d none=d:=rfl
theorem sIx_nat (n d k:Nat):sIx n d (some (k:Int))=min k n:=by
 show (if (k:Int) < 0 then ((k:Int) + (n:Int)).toNat else min (k:Int).toNat n)=min k n
 rw[if_neg (by lia),B0k]
end
end HT
namespace L2
open PySem PySem.Spec PyProof.Rows
abbrev TO:=St->Hp->(Option Int->Hp->Prop)->Prop
def PO (X:Cx) (e:Option Expr) (t:TO):Prop:=
 ∀(pins:List (Addr×Obj)) (s:Shared) (σ:St) (H:Hp) (Q:Option Int->Hp->Prop),Inv X pins σ H s->t σ H Q->
  wpAny (model X.prog X.w) X.A (evalPart e X.env) (λu s'=>∃o H',Inv X pins σ H' s'/\IsPart u o/\Q o H') X.xe s
def C58:TO:=λ_ H Q=>Q none H
def C59 (t:TE):TO:=fun σ H Q=>t σ H λx H1=>∃i,x=.int i/\Q (some i) H1
theorem B8l {ns:List Int}:∀{us:List Value},D5 (ns.map V.int) us->IntsAre us ns:=by
 induction ns with
 | nil=>intro us r;rw[A8s] at r;cases r;exact .nil
 | cons n ns ih=>
  intro us r
  rw[Q9] at r
  cases r with
  | cons r1 r2=>
   obtain⟨t,e⟩:=r1
   subst e
   exact .cons n t (ih r2)
section
variable {X:Cx} {e:Expr} {te:TE} {lo hi:Option Expr} {tl th:TO} {pos p2:Pos}
theorem B8m:PO X none C58:=by
 intro pins s σ H Q I h
 rw[evalPart_none]
 exact wpAny_pure ⟨none,H,I,.none,h⟩
theorem B8n (h:PE X e te):PO X (some e) (C59 te):=by
 intro pins s σ H Q I hw
 rw[evalPart_some]
 refine thn (h pins s σ H _ I hw) λu s1 zz215=>el5 zz215 λx H1 I1 r1 q1=>?_
 obtain⟨i,rfl,q⟩:=q1
 obtain⟨t,rfl⟩:=r1
 exact⟨some i,H1,I1,.int i t,q⟩
def SlR (X:Cx) (r:V->Option Int->Option Int->Hp->VK->Prop):Prop:=
 ∀(pins:List (Addr×Obj)) (s:Shared) (σ:St) (H:Hp) (x:V) (v vl vu:Value) (lo hi:Option Int) (sl:Addr) (Q:VK),Inv X pins σ H s->E1 x v->s.heap.IsSliceOf sl vl vu .none->IsPart vl lo->IsPart vu hi->r x lo hi H Q->
  ∃T id,typeLookup (.type T) "__getitem__" = pure (some (.builtin id))/\s.TypeIs v T/\wpAny (model X.prog X.w) X.A (getItem v (.ref sl)) (EP X pins σ Q) X.xe s
def tSl (r:V->Option Int->Option Int->Hp->VK->Prop) (te:TE) (tl th:TO):TE:=fun σ H Q=>te σ H λx H1=>tl σ H1 λl H2=>th σ H2 λu H3=>r x l u H3 Q
theorem B3m {r:V->Option Int->Option Int->Hp->VK->Prop} (hr:SlR X r) (he:PE X e te) (hl:PO X lo tl) (hu:PO X hi th):PE X (.Subscript e (.Slice lo hi none p2) pos) (tSl r te tl th):=by
 intro pins s σ H Q I h
 refine Subscript_ (thn (he pins s σ H _ I h) λv s1 zz216=>el5 zz216 λx H1 I1 r1 q1=>?_)
 refine wpAny_Slice (thn (hl pins s1 σ H1 _ I1 q1) λvl s2 zz217=>el5 zz217 λl H2 I2 pl q2=>thn (hu pins s2 σ H2 _ I2 q2) λvu s3 zz218=>el5 zz218 λu H3 I3 pu q3=>?_)
 rw[evalPart_none]
 refine wpAny_pure ?_
 have I4:Inv X pins σ H3 { s3 with heap:=s3.heap.push { cls:=.type "slice",data:=.fields #[vl,vu,.none] } }:=I3.kept (t':=s3.toks) λb ob q=>O0 _ q
 obtain⟨T,id,hT,ht,hg⟩:=hr pins { s3 with heap:=s3.heap.push { cls:=.type "slice",data:=.fields #[vl,vu,.none] } } σ H3 x v vl vu l u s3.heap.objs.size Q I4 r1 (Heap.IsSliceOf.new ..) pl pu q3
 show wpAny (model X.prog X.w) X.A (subscriptTail e (.Slice lo hi none p2) v (.ref s3.heap.objs.size)) (EP X pins σ Q) X.xe { s3 with heap:=s3.heap.push { cls:=.type "slice",data:=.fields #[vl,vu,.none] } }
 exact tail_any (ops:=[.ref s3.heap.objs.size,v]) ht hT hg (by with_unfolding_all rfl)
def A3q (xs:List V) (lo hi:Option Int):List V:=(xs.drop (HT.sIx xs.length 0 lo)).take (HT.sIx xs.length xs.length hi - HT.sIx xs.length 0 lo)
theorem C6a (xs:List V) (lo hi:Option Int):(A3q xs lo hi).length<=xs.length:=by
 unfold A3q
 rw[j6,List.length_drop]
 lia
end
def ixN (n:Nat) (i:Int):Option Nat:=if 0<=i then (if i < n then some i.toNat else none) else if -(n:Int)<=i then some (i + n).toNat else none
def atI {α:Type} (xs:List α) (i:Int):Option α:=(ixN xs.length i).bind λj=>xs[j]?
theorem B8o {n:Nat} {i:Int} {j:Nat} (h:ixN n i=some j):seqIndex? i n=some j/\j < n/\-(n:Int)<=i/\i < n:=by
 unfold ixN at h
 by_cases h0:0<=i
 ·rw[if_pos h0] at h
  by_cases h1:i < n
  ·rw[if_pos h1] at h
   have e:i.toNat=j:=Option.some.inj h
   exact⟨by rw[seqIndex_of h0 h1,e],by lia,by lia,h1⟩
  ·rw[if_neg h1] at h;cases h
 ·rw[if_neg h0] at h
  by_cases h1:-(n:Int)<=i
  ·rw[if_pos h1] at h
   have e:(i + n).toNat=j:=Option.some.inj h
   exact⟨by rw[seqIndex_neg (by lia) h1,e],by lia,h1,by lia⟩
  ·rw[if_neg h1] at h;cases h
theorem B0z {α:Type} {xs:List α} {i:Int} {v:α} (h:atI xs i=some v):∃j,seqIndex? i xs.length=some j/\xs[j]?=some v/\j < xs.length/\-(xs.length:Int)<=i/\i < xs.length:=by
 unfold atI at h
 cases e:ixN xs.length i with
 | none=>rw[e] at h;cases h
 | some j=>
  rw[e] at h
  obtain⟨h1,h2,h3,h4⟩:=B8o e
  exact⟨j,h1,h,h2,h3,h4⟩
theorem c9 {α:Type} {xs:List α} {j:Nat} {v:α} (h:xs[j]?=some v):atI xs (j:Int)=some v:=by
 have hj:j < xs.length:=(A1d.mp h).1
 have e:ixN xs.length (j:Int)=some j:=by
  unfold ixN
  rw[if_pos (by lia),if_pos (by lia)];simp
 unfold atI;rw[e];exact h
theorem B8p {α:Type} (xs:List α) (v:α):atI (xs++[v]) (-1)=some v:=by
 have hl:(xs++[v]).length=xs.length + 1:=by simp
 have e:ixN (xs++[v]).length (-1)=some xs.length:=by
  unfold ixN
  rw[hl,if_neg DD,if_pos (by lia)]
  congr 1
  lia
 unfold atI
 rw[e]
 show (xs++[v])[xs.length]?=some v
 simp
def B3n (b:Expr):Prop:=∀o i,subscripted b false o i=operate [o,i] (getItem o i)
def IxR (X:Cx) (r:R2):Prop:=
 ∀(value slice:Expr) (pins:List (Addr×Obj)) (s:Shared) (σ:St) (H:Hp) (x y:V) (v u:Value) (Q:VK),Inv X pins σ H s->E1 x v->E1 y u->r x y H Q->
  subscripted slice false v u=operate [v,u] (getItem v u)->wpAny (model X.prog X.w) X.A (subscriptTail value slice v u) (EP X pins σ Q) X.xe s
def MtR (X:Cx) (id:String) (r:V->List V->Hp->VK->Prop):Prop:=
 ∀(pins:List (Addr×Obj)) (s:Shared) (σ:St) (H:Hp) (x:V) (xs:List V) (v:Value) (us:List Value) (Q:VK),Inv X pins σ H s->E1 x v->D5 xs us->r x xs H Q->
  wpAny (model X.prog X.w) X.A (call (.builtin id) (v::us)) (EP X pins σ Q) X.xe s
section
variable {X:Cx} {a b:Expr} {ta tb:TE} {pos:Pos}
theorem IxR.or {r r':R2} (h:IxR X r) (h':IxR X r'):IxR X (λx y H Q=>r x y H Q\/r' x y H Q):=by
 intro value slice pins s σ H x y v u Q I rx ry q hs
 rcases q with q | q
 ·exact h value slice pins s σ H x y v u Q I rx ry q hs
 ·exact h' value slice pins s σ H x y v u Q I rx ry q hs
theorem C4 {r:R2} (hr:IxR X r) (ha:PE X a ta) (hb:PE X b tb) (hs:B3n b):PE X (.Subscript a b pos) (tOp r ta tb):=by
 intro pins s σ H Q I h
 exact Subscript_ (B3h ha hb I h λv u s2 x y H2 I2 rx ry q=>hr a b pins s2 σ H2 x y v u Q I2 rx ry q (hs _ _))
def A87 (K:A9):R2:=λx y H Q=>∃p xs i v,x=.ref p/\y=.int i/\SqL K H p xs/\atI xs i=some v/\Q v H
def B8q (K:A9):R2:=λx y H Q=>∃p xs i v,x=.ref p/\y=.int i/\SqT K H p xs/\atI xs i=some v/\Q v H
def B8r:R2:=λx y H Q=>∃z i c,x=.str z/\y=.int i/\z.length<=sizeLine/\atI z.cps.toList i=some c/\Q (.str ⟨#[c]⟩) H
theorem D2:IxR X (A87 X.K):=by
 intro value slice pins s σ H x y v u Q I rx ry h hs
 obtain⟨p,xs,i,z,rfl,rfl,hq,he,q⟩:=h
 cases rx
 obtain⟨t,rfl⟩:=ry
 obtain⟨its,r,pl,hz⟩:=I.list hq
 obtain⟨j,h1,h2,h3,h4,h5⟩:=B0z he
 obtain⟨w,ew,rw'⟩:=r.get h2
 have hl:=r.length
 have hn:=A5z
 have fin:EP X pins σ Q w s:=⟨z,H,I,rw',q⟩
 by_cases h0:0<=i
 ·have hj:i.toNat=j:=by
   rw[seqIndex_of h0 h5] at h1
   exact Option.some.inj h1
  exact item_listR pl.isList h0 (by lia) (by rw[hj];simpa using ew) fin hs
 ·have hj:(i + (its.toArray.size:Int)).toNat=j:=by
   rw[seqIndex_neg (by lia) h4] at h1
   rw[O8,<-hl]
   exact Option.some.inj h1
  exact subscriptTail_builtinR (x:=w) pl.isList.typeIs slot_list_getitem.lookup
   (wpAny_getItem_list_neg (Q:=λr s'=>r=w/\EP X pins σ Q r s') pl.isList (by lia) (by rw[O8] <;> lia) (by lia) (by rw[hj];simpa using ew) ⟨rfl,fin⟩) hs
theorem C6b:IxR X (B8q X.K):=by
 intro value slice pins s σ H x y v u Q I rx ry h hs
 obtain⟨p,xs,i,z,rfl,rfl,hq,he,q⟩:=h
 cases rx
 obtain⟨t,rfl⟩:=ry
 obtain⟨its,r,pl,hz⟩:=I.tuple hq
 obtain⟨j,h1,h2,h3,h4,h5⟩:=B0z he
 obtain⟨w,ew,rw'⟩:=r.get h2
 have hl:=r.length
 have hn:=A5z
 have fin:EP X pins σ Q w s:=⟨z,H,I,rw',q⟩
 exact subscriptTail_builtinR (x:=w) pl.typeIs slot_tuple_getitem.lookup
  (getItem_tuple (j:=j) (Q:=λr s'=>r=w/\EP X pins σ Q r s') pl (by lia) (by lia) (by rw[O8,<-hl];exact h1) (by simpa using ew) ⟨rfl,fin⟩) hs
theorem C6c:IxR X B8r:=by
 intro value slice pins s σ H x y v u Q I rx ry h hs
 obtain⟨z,i,c,rfl,rfl,hz,he,q⟩:=h
 obtain⟨t,rfl⟩:=rx
 obtain⟨t',rfl⟩:=ry
 obtain⟨j,h1,h2,h3,h4,h5⟩:=B0z he
 have hl:z.cps.toList.length=z.length:=by simp [Str.length]
 rw[hl] at h1 h4 h5
 have hn:=A5z
 exact tail_any (typeIs_str s z t) slot_str_getitem.lookup (getItem_str (c:=c) (by
  have e1:decide (i < -(2 ^ 63:Int))=false:=decide_eq_false (by lia)
  have e2:decide (i ≥ 2 ^ 63)=false:=decide_eq_false (by lia)
  rw[e1,e2,Bool.or_false]) (by rw[h1];simpa using h2) ⟨.str ⟨#[c]⟩,H,I.tok _,⟨_,rfl⟩,q⟩) hs
def rIx (K:A9):R2:=λx y H Q=>A87 K x y H Q\/B8q K x y H Q\/B8r x y H Q
theorem X8:IxR X (rIx X.K):=D2.or (C6b.or C6c)
theorem C6d (its:List Value) (n j:Nat) (u:Value):A5l (·.setIfInBounds j u) { cls:=.type "list",data:=.seq its.toArray n }={ cls:=.type "list",data:=.seq (its.set j u).toArray n }:=by
 simp [A5l]
theorem Inv.lst {pins:List (Addr×Obj)} {σ:St} {H:Hp} {s:Shared} {p:Addr} {xs:List V} (I:Inv X pins σ H s) (h:H p=some (.lst xs)) :
  ∃(its:List Value) (n:Nat),D5 xs its/\s.heap.get? p=some { cls:=.type "list",data:=.seq its.toArray n }/\xs.length<=sizeLine:=by
 obtain⟨z,its,n,r,e⟩:=I.hok p _ h
 exact⟨its,n,r,e,z⟩
theorem Inv.lstUpd {pins:List (Addr×Obj)} {σ:St} {H:Hp} {s:Shared} {p:Addr} {xs ys:List V} {its its':List Value} {n n':Nat} {f:Obj->Obj} (I:Inv X pins σ H s) (h:H p=some (.lst xs))
  (ho:s.heap.get? p=some { cls:=.type "list",data:=.seq its.toArray n }) (hf:f { cls:=.type "list",data:=.seq its.toArray n }={ cls:=.type "list",data:=.seq its'.toArray n' }) (r:D5 ys its') (hz:ys.length<=sizeLine) (t:Nat) :
  Inv X pins σ (upd H p (.lst ys)) { s with heap:=s.heap.update p f,toks:=t }:=by
 have e:(s.heap.update p f).get? p=some { cls:=.type "list",data:=.seq its'.toArray n' }:=by
  rw[B7e f ho (by rw[hf] <;> rfl),hf]
 refine I.write (x:=p) (e:=p) (by rw[h];trivial) (.inl rfl) (λb u hb q=>(A5m _ _ (Ne.symm hb)).trans q) ⟨_,e⟩ ?_
 exact⟨hz,its',n',r,e⟩
def B8s:V->V->V->Hp->(Hp->Prop)->Prop:=λo i v H Q=>∃p xs k j,o=.ref p/\i=.int k/\H p=some (.lst xs)/\ixN xs.length k=some j/\Q (upd H p (.lst (xs.set j v)))
theorem X9:B3c X B8s:=by
 intro pins s σ H o i v ov iv u Q I ro ri rv h
 obtain⟨p,xs,k,j,rfl,rfl,hp,hj,q⟩:=h
 cases ro
 obtain⟨t,rfl⟩:=ri
 obtain⟨its,n,r,ho,hz⟩:=I.lst hp
 obtain⟨h1,h2,h3,h4⟩:=B8o hj
 have hl:=r.length
 have hn:=A5z
 have I':Inv X pins σ (upd H p (.lst (xs.set j v))) { s with heap:=s.heap.update p (A5l (·.setIfInBounds j u)) }:=
  I.lstUpd hp ho (C6d its n j u) (r.set rv j) (by rw[Y6];exact hz) s.toks
 by_cases h0:0<=k
 ·have hk:k.toNat=j:=by
   rw[seqIndex_of h0 h4] at h1
   exact Option.some.inj h1
  exact PySem.W.ki_setAt ho h0 (by lia) (by rw[O8,<-hl];exact h4) (by rw[hk];exact⟨_,I',q⟩)
 ·have hk:(k + (its.toArray.size:Int)).toNat=j:=by
   rw[seqIndex_neg (by lia) h3] at h1
   rw[O8,<-hl]
   exact Option.some.inj h1
  exact PySem.W.ki_setBack ho (by lia) (by rw[O8,<-hl];exact h3) (by lia) (by rw[hk];exact⟨_,I',q⟩)
theorem C6e (lo hi:Option Int) (n:Nat):(sliceBounds lo hi none n).1=((HT.sIx n 0 lo:Nat):Int)/\(sliceBounds lo hi none n).2.1=((HT.sIx n n hi:Nat):Int)/\(sliceBounds lo hi none n).2.2=1:=by
 refine⟨?_,?_,rfl⟩
 ·cases lo with
  | none=>simp [sliceBounds,HT.sIx]
  | some i=>
   simp only[sliceBounds,HT.sIx,Option.getD_none,show (1:Int) > 0 by decide,if_true]
   by_cases h:i < 0
   ·simp only[h,if_true] <;> lia
   ·simp only[h,if_false] <;> lia
 ·cases hi with
  | none=>simp [sliceBounds,HT.sIx]
  | some i=>
   simp only[sliceBounds,HT.sIx,Option.getD_none,show (1:Int) > 0 by decide,if_true]
   by_cases h:i < 0
   ·simp only[h,if_true] <;> lia
   ·simp only[h,if_false] <;> lia
theorem C6f (its:List Value) (lo hi:Option Int):slicePick its.toArray lo hi none=((its.drop (HT.sIx its.length 0 lo)).take (HT.sIx its.length its.length hi - HT.sIx its.length 0 lo)).toArray:=by
 obtain⟨h1,h2,h3⟩:=C6e lo hi its.toArray.size
 unfold slicePick
 rw[h1,h2,h3]
 simp only[sliceRange_one,pick_run,O8] <;> rfl
def C6g (K:A9):V->Option Int->Option Int->Hp->VK->Prop:=λx lo hi H Q=>∃a xs,x=.ref a/\SqL K H a xs/\∀p,H p=none->Q (.ref p) (upd H p (.lst (A3q xs lo hi)))
theorem B3o:SlR X (C6g X.K):=by
 intro pins s σ H x v vl vu lo hi sl Q I rx hs pl pu h
 obtain⟨a,xs,rfl,hx,q⟩:=h
 cases rx
 obtain⟨its,r,ht,hz⟩:=I.list hx
 have hlen:=r.length
 refine⟨"list",_,slot_list_getitem.lookup,ht.isList.typeIs,?_⟩
 refine wpAny_getItem_list_slice ht.isList hs pl pu .none (by simp) ?_ (by rw[O8] <;> lia)
 rw[C6f,<-hlen]
 refine⟨.ref s.heap.objs.size,_,I.laid (t':=s.toks) (o:=.lst (A3q xs lo hi)) (λb ob q=>O0 _ q) (F9 _) ?_,rfl,q _ (I.hok.fresh (F9 _))⟩
 exact⟨b3 (C6a xs lo hi) hz,_,0,(r.drop (HT.sIx xs.length 0 lo)).take (HT.sIx xs.length xs.length hi - HT.sIx xs.length 0 lo),T9 _ rfl⟩
def A1m:V->Bool
 | .non=>true
 | .bl _=>true
 | .int _=>true
 | .str _=>true
 | _=>false
def eqV:V->V->Bool
 | .non,.non=>true
 | .bl a,.bl b=>a == b
 | .bl a,.int b=>(if a then 1 else 0) == b
 | .int a,.bl b=>a == (if b then 1 else 0)
 | .int a,.int b=>a == b
 | .str a,.str b=>a == b
 | _,_=>false
theorem C6h {A:Around} {s:Shared} {y x:V} {u v:Value} (ry:E1 y u) (rx:E1 x v) (fy:A1m y=true) (fx:A1m x=true):SeqAt.EqAt A s u v (eqV y x):=by
 cases y with
 | non=>
  cases ry
  cases x with
  | non=>cases rx;exact SeqAt.EqAt.same _
  | bl b=>cases rx;exact SeqAt.EqAt.none_bool b
  | int b=>obtain⟨t,rfl⟩:=rx;exact SeqAt.EqAt.none_int b t
  | str b=>obtain⟨t,rfl⟩:=rx;exact SeqAt.EqAt.none_str b t
  | _=>exact absurd (show false=true from fx) Q2
 | bl a=>
  cases ry
  cases x with
  | non=>cases rx;exact SeqAt.EqAt.bool_none a
  | bl b=>cases rx;exact SeqAt.EqAt.bool_bool a b
  | int b=>obtain⟨t,rfl⟩:=rx;exact SeqAt.EqAt.bool_int a b t
  | str b=>obtain⟨t,rfl⟩:=rx;exact SeqAt.EqAt.bool_str a b t
  | _=>exact absurd (show false=true from fx) Q2
 | int a=>
  obtain⟨t',rfl⟩:=ry
  cases x with
  | non=>cases rx;exact SeqAt.EqAt.int_none a t'
  | bl b=>cases rx;exact SeqAt.EqAt.int_bool a t' b
  | int b=>obtain⟨t,rfl⟩:=rx;exact SeqAt.EqAt.int_int a t' b t
  | str b=>obtain⟨t,rfl⟩:=rx;exact SeqAt.EqAt.int_str a t' b t
  | _=>exact absurd (show false=true from fx) Q2
 | str a=>
  obtain⟨t',rfl⟩:=ry
  cases x with
  | non=>cases rx;exact SeqAt.EqAt.str_none a t'
  | bl b=>cases rx;exact SeqAt.EqAt.str_bool a t' b
  | int b=>obtain⟨t,rfl⟩:=rx;exact SeqAt.EqAt.str_int a t' b t
  | str b=>obtain⟨t,rfl⟩:=rx;exact SeqAt.EqAt.str_str a t' b t
  | _=>exact absurd (show false=true from fx) Q2
 | _=>exact absurd (show false=true from fy) Q2
def eqU (x:V) (u:Value):Bool:=match u with
 | .none=>eqV .non x
 | .bool b=>eqV (.bl b) x
 | .int i _=>eqV (.int i) x
 | .str z _=>eqV (.str z) x
 | _=>false
theorem B8t {x y:V} {u:Value} (r:E1 y u) (f:A1m y=true):eqU x u=eqV y x:=by
 cases y with
 | non=>cases r;rfl
 | bl b=>cases r;rfl
 | int i=>obtain⟨t,rfl⟩:=r;rfl
 | str z=>obtain⟨t,rfl⟩:=r;rfl
 | _=>exact absurd (show false=true from f) Q2
theorem B3p {x:V}:∀{xs:List V} {us:List Value},D5 xs us->xs.all A1m=true->us.any (eqU x)=xs.any λy=>eqV y x
 | _,_,.nil,_=>rfl
 | y::xs,u::us,.cons r t,f=>by
  rw[List.all_cons,A5n] at f
  rw[A5o,A5o,B8t r f.1,B3p t f.2]
theorem B3q {A:Around} {s:Shared} {x:V} {v:Value} (rx:E1 x v) (fx:A1m x=true):∀{xs:List V} {us:List Value},D5 xs us->xs.all A1m=true->∀u∈us,SeqAt.EqAt A s u v (eqU x u)
 | _,_,.nil,_=>λu hu=>by cases hu
 | y::xs,u::us,.cons r t,f=>λu' hu=>by
  rw[List.all_cons,A5n] at f
  rcases N3.mp hu with rfl | hu
  ·rw[B8t r f.1];exact C6h r rx f.1 fx
  ·exact B3q rx fx t f.2 u' hu
def inV (x:V) (xs:List V):Bool:=xs.any λy=>eqV y x
def rIn (K:A9) (neg:Bool):R2:=λx y H Q=>∃p xs,y=.ref p/\(SqL K H p xs\/SqT K H p xs)/\A1m x=true/\xs.all A1m=true/\Q (.bl (if neg then !inV x xs else inV x xs)) H
theorem C6i:OpR X (compareOp .NotIn) (rIn X.K true):=by
 intro pins s σ H x y v u Q I rx ry h
 obtain⟨p,xs,rfl,hq,fx,fs,q⟩:=h
 cases ry
 rcases hq with hq | hq
 ·obtain⟨its,r,pl,hz⟩:=I.list hq
  refine SeqAt.notIn_listAt (eqU x) pl.isList (λw hw=>B3q rx fx r fs w (by simpa using hw)) ⟨.bl _,H,I,rfl,?_⟩
  rw[show its.toArray.any (eqU x)=its.any (eqU x) by simp,B3p r fs]
  exact q
 ·obtain⟨its,r,pl,hz⟩:=I.tuple hq
  refine SeqAt.notIn_tupleAt (eqU x) pl (λw hw=>B3q rx fx r fs w (by simpa using hw)) ⟨.bl _,H,I,rfl,?_⟩
  rw[show its.toArray.any (eqU x)=its.any (eqU x) by simp,B3p r fs]
  exact q
theorem U0:Y9 X (.builtin "len") (λxs H Q=>∃p ys,xs=[.ref p]/\(SqL X.K H p ys\/SqT X.K H p ys)/\Q (.int ys.length) H):=by
 intro pins s σ H xs us Q I r h
 obtain⟨p,ys,rfl,hq,q⟩:=h
 obtain⟨u,rfl,rx⟩:=Z2 r
 cases rx
 have hn:=A5z
 rcases hq with hq | hq
 ·obtain⟨its,r',pl,hz⟩:=I.list hq
  have hlen:=r'.length
  exact Calls.call_len_list pl.isList (by simp only[O8] <;> lia) ⟨.int ys.length,H,I.tok _,⟨s.toks + 1,by rw[O8,hlen]⟩,q⟩
 ·obtain⟨its,r',pl,hz⟩:=I.tuple hq
  have hlen:=r'.length
  exact len_tuple pl (by simp only[O8] <;> lia) ⟨.int ys.length,H,I.tok _,⟨s.toks + 1,by rw[O8,hlen]⟩,q⟩
theorem Z3:Y9 X (.type "list") (λxs H Q=>∃p ys,xs=[.ref p]/\(SqL X.K H p ys\/SqT X.K H p ys)/\∀l,H l=none->Q (.ref l) (upd H l (.lst ys))):=by
 intro pins s σ H xs us Q I r h
 obtain⟨p,ys,rfl,hq,q⟩:=h
 obtain⟨u,rfl,rx⟩:=Z2 r
 cases rx
 have fin:∀(its:List Value),D5 ys its->ys.length<=sizeLine->∀(h':Heap) (c':Nat),(∀b o',s.heap.get? b=some o'->h'.get? b=some o')->
   h'.get? s.heap.objs.size=some { cls:=.type "list",dict:=none,data:=.seq its.toArray c',slots:=#[] }->EP X pins σ Q (.ref s.heap.objs.size) { s with heap:=h' }:=λits r' hz h' c' kp e=>
  ⟨.ref s.heap.objs.size,_,I.laid (t':=s.toks) kp (F9 _) (show N5 X.prog X.w _ h' _ (.lst ys) from ⟨hz,its,c',r',e⟩),rfl,q _ (I.hok.fresh (F9 _))⟩
 rcases hq with hq | hq
 ·obtain⟨its,r',pl,hz⟩:=I.list hq
  have hlen:=r'.length
  obtain⟨o,ho,hc,n,hd⟩:=pl.isList
  exact call_list_seq p (.inl rfl) ho hc hd (λh' c' kp e=>fin its r' hz h' c' kp e) (by simp only[O8] <;> lia)
 ·obtain⟨its,r',pl,hz⟩:=I.tuple hq
  have hlen:=r'.length
  obtain⟨o,ho,hc,n,hd⟩:=pl
  exact call_list_seq p (.inr rfl) ho hc hd (λh' c' kp e=>fin its r' hz h' c' kp e) (by simp only[O8] <;> lia)
def tyV (K:A9) (T:String) (x:V) (H:Hp):Prop:=match x with
 | .str _=>T = "str"
 | .int _=>T = "int"
 | .ref p=>(T = "list" /\∃xs,SqL K H p xs)\/(T = "tuple" /\∃o,K.lookup p=some o/\o.cls=.type "tuple" /\o.dict=none)\/
   (T = "dict" /\((∃kvs,H p=some (.dK kvs))\/∃kvs,H p=some (.dT kvs)))\/(T = "set" /\∃S n,H p=some (.set S n))
 | _=>False
theorem C6j {pins:List (Addr×Obj)} {σ:St} {H:Hp} {s:Shared} {T:String} {x:V} {v:Value} (I:Inv X pins σ H s) (r:E1 x v) (ty:tyV X.K T x H) :
  s.TypeIs v T/\∀a,v=.ref a->∃ob,s.heap.get? a=some ob/\ob.dict=none:=by
 cases x with
 | str z=>
  obtain⟨t,rfl⟩:=r
  cases (show T = "str" from ty)
  exact⟨typeIs_str s z t,λ_ e=>nomatch e⟩
 | int i=>
  obtain⟨t,rfl⟩:=r
  cases (show T = "int" from ty)
  exact⟨typeIs_int s i t,λ_ e=>nomatch e⟩
 | ref p=>
  cases r
  rcases ty with ⟨rfl,xs,hq⟩ | ⟨rfl,o,hk,hc,hd⟩ | ⟨rfl,hk⟩ | ⟨rfl,S,n,hk⟩
  ·obtain⟨its,_,pl,_⟩:=I.list hq
   refine⟨pl.isList.typeIs,λa e=>?_⟩
   cases e
   obtain⟨o,n,e,c,hd,_⟩:=pl
   exact⟨o,e,hd⟩
  ·refine⟨⟨o,I.kIn p o hk,hc⟩,λa e=>?_⟩
   cases e
   exact⟨o,I.kIn _ o hk,hd⟩
  ·have z:∃o,s.heap.get? p=some o/\o.ExactDict:=by
    rcases hk with ⟨kvs,hk⟩ | ⟨kvs,hk⟩
    ·obtain⟨_,_,_,_,o,_,_,e,ex,_⟩:=I.hok p _ hk
     exact⟨o,e,ex⟩
    ·obtain⟨_,_,_,_,o,_,_,e,ex,_⟩:=I.hok p _ hk
     exact⟨o,e,ex⟩
   obtain⟨o,e,ex⟩:=z
   refine⟨⟨o,e,ex.1⟩,λa e2=>?_⟩
   cases e2
   exact⟨o,e,ex.2.1⟩
  ·obtain⟨o,_,_,_,e,ex,_⟩:=I.hok p _ hk
   refine⟨⟨o,e,ex.1⟩,λa e2=>?_⟩
   cases e2
   exact⟨o,e,ex.2.1⟩
 | _=>exact False.elim ty
def tBM (K:A9) (T:String) (r:V->List V->Hp->VK->Prop) (to:TE) (t:TA):TE:=fun σ H Q=>to σ H λx H1=>tyV K T x H1/\t σ H1 λxs H2=>r x xs H2 Q
variable {o e:Expr} {es:List Expr} {to:TE} {t:TA} {name:Str} {apos cpos:Pos} {T id:String} {r:V->List V->Hp->VK->Prop}
theorem r8 (pa:PlainAttrs T) (slot:Slot T name id) (hty:typeOf (.builtin id)=pure (.type "method_descriptor")) (hm:MtR X id r) (ho:PE X o to) (ha:PA X (e::es) t)
  (hbase:attributeBase o name X.env (eval o X.env)=eval o X.env:=by rfl)
  (hfew:((backTo cpos (starEach (e::es) X.env)).all (λx=>!x.1)&&(backToKw cpos (keywordEach [] X.env)).all (λx=>x.1.isSome)
   &&decide ((e::es).length + ([]:List Keyword).length + (if ([]:List Keyword).isEmpty then 0 else 1) < 30))=true:=by rfl)
  (hline:(apos.endLine == cpos.line)=true:=by rfl) (hs:starEach (e::es) X.env=(false,eval e X.env)::starEach es X.env:=by rfl) (hplain:(backTo cpos (starEach es X.env)).any (·.1)=false:=by rfl) :
  PE X (.Call (.Attribute o name apos) (e::es) [] cpos) (tBM X.K T r to t):=by
 intro pins s σ H Q I h
 refine wpAny_Call_method_late hbase hfew hline rfl (thn (ho pins s σ H _ I h) λv s1 zz224=>zz224.elim λx zz225=>zz225.elim λH1 zz226=>zz226.elim λI1 zz227=>zz227.elim λr1 zz228=>zz228.elim λty q1=>?_)
 obtain⟨h1,h2⟩:=C6j I1 r1 ty
 refine⟨T,id,pa,slot,hty,h1,h2,?_⟩
 have hA:=ha cpos pins s1 σ H1 _ I1 q1
 rw[hs] at hA ⊢
 refine Calls.callWith_builtin (by show (false||(backTo cpos (starEach es X.env)).any (·.1))=false;rw[hplain] <;> rfl) (Calls.evalArgs_plain ?_)
 exact thn hA λus s2 zz229=>el5 zz229 λvs H2 I2 r2 q2=>hm pins s2 σ H2 x vs v us Q I2 r1 r2 q2
end
def MtM (X:Cx) (id:String) (r:V->List V->Hp->VK->Prop):Prop:=
 ∀(pins:List (Addr×Obj)) (s:Shared) (σ:St) (H:Hp) (x:V) (xs:List V) (v:Value) (us:List Value) (Q:VK),Inv X pins σ H s->E1 x v->D5 xs us->r x xs H Q->
  wpAny (model X.prog X.w) X.A (call (.builtin id) (v::us)) (EP X pins σ Q) X.xe s
theorem D5.one {x:V} {us:List Value} (h:D5 [x] us):∃u,us=[u]/\E1 x u:=by
 cases h with
 | cons r t=>cases t;exact⟨_,rfl,r⟩
theorem D5.eraseIdx:∀{xs:List V} {us:List Value} (i:Nat),D5 xs us->D5 (xs.eraseIdx i) (us.eraseIdx i)
 | _,_,_,.nil=>.nil
 | _,_,0,.cons _ t=>t
 | _,_,i + 1,.cons r t=>.cons r (D5.eraseIdx i t)
theorem D5.rep {xs:List V} {us:List Value} (h:D5 xs us):∀k:Nat,D5 (E5 k xs).flatten (E5 k us).flatten
 | 0=>.nil
 | k + 1=>by
  rw[A0j,A0j,A3e,A3e]
  exact D5.append h (D5.rep h k)
theorem B8u {α:Type}:∀(l:List α) (i:Nat),(l.eraseIdx i).length<=l.length
 | [],_=>F9 _
 | _::_,0=>A1g _
 | _::r,i + 1=>Nat.succ_le_succ (B8u r i)
theorem B8v (its:List Value):∀(k:Nat) (acc:List Value),
  List.foldl (λx1 x2=>x1++x2) acc.toArray (E5 k its.toArray)=(acc++(E5 k its).flatten).toArray
 | 0,acc=>by simp
 | k + 1,acc=>by
  have e:acc.toArray++its.toArray=(acc++its).toArray:=by simp
  have e2:(acc++its)++(E5 k its).flatten=acc++(E5 (k + 1) its).flatten:=by
   rw[A0j,A3e,A8t]
  rw[<-e2,<-B8v its k (acc++its),<-e,A0j,List.foldl_cons]
section
variable {X:Cx} {pins:List (Addr×Obj)} {σ:St} {H:Hp} {s:Shared} {l b:Addr} {xs ys zs:List V}
theorem Inv.lset {its its':List Value} {n:Nat} {f:Array Value->Array Value} {t':Nat} (I:Inv X pins σ H s) (hH:H l=some (.lst xs))
  (e:s.heap.get? l=some { cls:=.type "list",data:=.seq its.toArray n }) (hf:f its.toArray=its'.toArray) (hv:D5 ys its') (hz:ys.length<=sizeLine) :
  Inv X pins σ (upd H l (.lst ys)) { s with heap:=s.heap.update l (A5l f),toks:=t' }:=by
 have q:=PySem.IsL.update e f
 rw[hf] at q
 refine I.write (x:=l) (e:=l) (by rw[hH];exact trivial) (.inl rfl) (λb' u hb hu=>(A5m s.heap (A5l f) (Ne.symm hb)).trans hu) ⟨_,q⟩ ?_
 exact⟨hz,its',_,hv,q⟩
theorem Inv.lnew {its:List Value} {t':Nat} (I:Inv X pins σ H s) (hv:D5 ys its) (hz:ys.length<=sizeLine) :
  Inv X pins σ (upd H s.heap.objs.size (.lst ys)) { s with heap:=s.heap.push { cls:=.type "list",data:=.seq its.toArray },toks:=t' }:=
 I.laid (λ_ _ q=>O0 _ q) (F9 _) ⟨hz,its,0,hv,T9 _ rfl⟩
theorem Inv.fresh (I:Inv X pins σ H s):H s.heap.objs.size=none:=I.hok.fresh (F9 _)
theorem Inv.lstM (I:Inv X pins σ H s) (hH:H l=some (.lst xs)):xs.length<=sizeLine/\∃(its:List Value) (n:Nat),D5 xs its/\xs.length=its.length/\s.heap.get? l=some { cls:=.type "list",data:=.seq its.toArray n }:=by
 obtain⟨z,its,n,r,e⟩:=I.hok l _ hH
 exact⟨z,its,n,r,r.length,e⟩
theorem C6k {n:Nat} (h:n<=sizeLine):Builtin.List.listTooLong n=false:=by
 unfold Builtin.List.listTooLong
 exact decide_eq_false (by lia)
end
section
variable {X:Cx}
def B8w:V->List V->Hp->VK->Prop:=λx vs H Q=>∃l xs y,x=.ref l/\vs=[y]/\H l=some (.lst xs)/\xs.length < sizeLine/\Q .non (upd H l (.lst (xs++[y])))
theorem A3r:MtM X "list.append" B8w:=by
 intro pins s σ H x vs v us Q I rx rv h
 obtain⟨l,xs,y,rfl,rfl,hH,hz,q⟩:=h
 cases rx
 obtain⟨u,rfl,ru⟩:=rv.one
 obtain⟨z,its,n,r,hl,e⟩:=I.lstM hH
 refine call_meets F.slot_list_append ⟨_,e,rfl⟩ F.entry_list_append (F.args_list_append_2 _ _) (PySem.list_append l its.toArray n u (by rw[O8];lia)) ⟨e,?_⟩
 refine⟨.non,_,I.lset (its':=its++[u]) hH e (by simp) (r.append (.cons ru .nil)) ?_,rfl,q⟩
 rw[U6,B2y]
 lia
def C6l:V->List V->Hp->VK->Prop:=λx vs H Q=>∃l xs i k y,x=.ref l/\vs=[.int i]/\H l=some (.lst xs)/\-(2 ^ 63)<=i/\i < 2 ^ 63/\seqIndex? i xs.length=some k/\xs[k]?=some y/\Q y (upd H l (.lst (xs.eraseIdx k)))
theorem B8x:MtM X "list.pop" C6l:=by
 intro pins s σ H x vs v us Q I rx rv h
 obtain⟨l,xs,i,k,y,rfl,rfl,hH,h1,h2,hk,hy,q⟩:=h
 cases rx
 obtain⟨u,rfl,ru⟩:=rv.one
 obtain⟨t,rfl⟩:=ru
 obtain⟨z,its,n,r,hl,e⟩:=I.lstM hH
 obtain⟨w,hw,rw'⟩:=r.get hy
 refine call_meets F.slot_list_pop ⟨_,e,rfl⟩ F.entry_list_pop (F.args_list_pop_2 _ _)
  (MeetsSeq.list_pop_at l its.toArray n i t k w (fitsIndex_both h1 h2) (by rw[O8,<-hl];exact hk) (by rw[<-B7f];exact hw) (by rw[O8];lia)) ⟨e,?_⟩
 refine⟨y,_,I.lset (its':=its.eraseIdx k) hH e ?_ (r.eraseIdx k) ?_,rw',q⟩
 ·show its.toArray.eraseIdxIfInBounds k=(its.eraseIdx k).toArray
  rw[List.eraseIdxIfInBounds_toArray]
 ·have:=B8u xs k
  lia
def C6m:R2:=λx y H Q=>∃l b xs zs,x=.ref l/\y=.ref b/\H l=some (.lst xs)/\H b=some (.lst zs)/\xs.length + zs.length<=sizeLine/\∀p,H p=none->Q (.ref p) (upd H p (.lst (xs++zs)))
theorem B8y:OpR X (binaryOp .Add) C6m:=by
 intro pins s σ H x y v u Q I rx ry h
 obtain⟨l,b,xs,zs,rfl,rfl,hH,hB,hz,q⟩:=h
 cases rx
 cases ry
 obtain⟨z,its,n,r,hl,e⟩:=I.lstM hH
 obtain⟨z2,its2,n2,r2,hl2,e2⟩:=I.lstM hB
 refine PySem.P.add_list e e2 ?_ (by rw[O8,O8];lia)
 have ea:its.toArray++its2.toArray=(its++its2).toArray:=by simp
 rw[ea]
 exact⟨.ref _,_,I.lnew (t':=s.toks) (r.append r2) (by rw[U6];lia),rfl,q _ I.fresh⟩
def C6n:R2:=λx y H Q=>∃l k xs,x=.ref l/\y=.int k/\H l=some (.lst xs)/\-(2 ^ 63)<=k/\k < 2 ^ 63/\xs.length * k.toNat<=sizeLine/\
 ∀p,H p=none->Q (.ref p) (upd H p (.lst (E5 k.toNat xs).flatten))
theorem C6o {α:Type} (xs:List α) (k:Nat):(E5 k xs).flatten.length=k * xs.length:=by
 induction k with
 | zero=>simp
 | succ k ih=>rw[A0j,A3e,U6,ih,Nat.succ_mul,Nat.add_comm]
theorem C6p:OpR X (binaryOp .Mult) C6n:=by
 intro pins s σ H x y v u Q I rx ry h
 obtain⟨l,k,xs,rfl,rfl,hH,h1,h2,hz,q⟩:=h
 cases rx
 obtain⟨t,rfl⟩:=ry
 obtain⟨z,its,n,r,hl,e⟩:=I.lstM hH
 have hlen:its.toArray.size * k.toNat<=sizeLine:=by rw[O8,<-hl];exact hz
 have hcap:¬ its.toArray.size * k.toNat > (2 ^ 63 - 1) / 8:=by
  have:(sizeLine:Nat)<=(2 ^ 63 - 1) / 8:=by decide
  lia
 have hfit:¬ (!Builtin.List.listFitsIndex k)=true:=by
  rw[fitsIndex_both h1 h2]
  exact Q2
 have hlong:¬ Builtin.List.listTooLong (its.toArray.size * k.toNat)=true:=by
  rw[C6k hlen]
  exact Q2
 have hnew:List.foldl (λx1 x2=>x1++x2) #[] (E5 (if its.toArray.isEmpty=true then 0 else k.toNat) its.toArray)=(E5 k.toNat its).flatten.toArray:=by
  have f0:∀m:Nat,List.foldl (λx1 x2=>x1++x2) #[] (E5 m its.toArray)=(E5 m its).flatten.toArray:=λm=>by
   have:=B8v its m []
   rw[X5] at this
   exact this
  rw[f0]
  cases its with
  | nil=>simp
  | cons a r'=>rw[if_neg (by simp)]
 refine wpAny_binaryOp_repeat_ref (T:= "list") (U:= "int") DD ⟨_,e,rfl⟩ (λs'=>typeIs_int s' k t) noFill_list_mul F.fills_int_mul F.slot_int_rmul repeat_list F.slot_int_index.lookup
  (call_meets F.slot_int_rmul (typeIs_int s k t) F.entry_int_rmul (F.args_int_rmul_2 _ _) (int___rmul___int_list k t l its.toArray n)
   ⟨e,rfl,⟨_,e,rfl⟩,call_meets F.slot_list_mul ⟨_,e,rfl⟩ F.entry_list_mul (F.args_list_mul_2 _ _) (AutoListH.list___mul___list_int_3 l its.toArray n k t hfit hcap hlong) ⟨e,?_⟩⟩)
 rw[hnew]
 exact⟨.ref _,_,I.lnew (t':=s.toks) (r.rep k.toNat) (by rw[C6o,Nat.mul_comm];exact hz),rfl,q _ I.fresh⟩
end
section
variable {prog:Program} {w:World} {A:Around} {E:Value->Shared->Prop} {s:Shared}
set_option maxRecDepth 100000 in
end
section
variable {X:Cx}
end
end L2
namespace Att
open PySem PySem.W PySem.Calls PyProof.Rows
theorem C6q {P:Params} {h:Heap}:∀(ns:List Int) (vs:List Value),WellAll P h vs (ns.map WData.int)->IntsAre vs ns:=by
 intro ns
 induction ns with
 | nil=>
  intro vs w
  rw[A8s] at w
  cases w
  exact .nil
 | cons n ns ih=>
  intro vs w
  rw[Q9] at w
  cases w with
  | cons a b=>
   cases a
   exact .cons _ _ (ih _ b)
theorem C6r {l:OpenLaw} {n:Nat} (hn:l.most=some n) {P:Params} {h:Heap} {args:List WData} {vals:List Value}
  (hpre:l.row.toRowW.claim.pre args=true) (hwl:WellAll P h vals args) :
  ∃a vs ns,vals=[Value.ref a]/\args=[WData.list (ns.map WData.int)]/\h.get? a=some { cls:=.type "list",data:=.seq vs.toArray }/\IntsAre vs ns/\ns.length<=n:=by
 have hsh:WShape.hasAll [] args [.list .int]=true:=(pre_splitW hpre).1
 have hc:l.pre.holds [] { args:=args }=true:=(pre_splitW hpre).2
 obtain⟨d,r,rfl,h1,h2⟩:=hasAllW_cons hsh
 obtain rfl:=hasAllW_nil h2
 obtain⟨xs,rfl,h3⟩:=hasW_list h1
 obtain⟨ns,rfl⟩:=items_int h3
 have hlen:ns.length<=n:=by
  unfold OpenLaw.pre at hc
  have h4:(WTm.not (.lt (.lit (.int (n:Int))) (.len (.arg 0)))).holds [] { args:=[.list (ns.map .int)] }=true:=by
   have h4:=(holds_andW hc).1
   rw[hn] at h4
   exact h4
  have h5:=condW_of h4 (w_not (w_lt w_lit (w_len_list (w_arg rfl))))
  rw[C6] at h5
  refine Nat.le_of_not_lt λq=>?_
  have q':(n:Int) < ((ns.length:Nat):Int):=by lia
  first
   | (rw[decide_eq_true q'] at h5;exact absurd h5 DD)
   | (simp at h5;lia)
 cases hwl with
 | cons w1 w2=>
  cases w2
  cases w1 with
  | list ho hall=>exact⟨_,_,ns,rfl,rfl,ho,C6q ns _ hall,hlen⟩
theorem C6s (l:OpenLaw) (args:List WData):l.row.toRowW.claim.post args (.bool true) args=true:=
 postW_of (r:=l.row.toRowW) (X:=(true == true))
  (show WShape.has [] (.bool true) .bool=true by first | rfl | decide | simp [WShape.has,WShape.arms,WShape.armsAll])
  (show (WTm.eq .res (.lit (.bool true))).value [] { args:=args,res:=some (.bool true),after:=args }=some (.bool (true == true)) from w_eq_bool (w_res rfl) w_lit) rfl
theorem attach_call {l:OpenLaw} {n:Nat} {q:Program} {loose:List Str} {XP:(Str->Option Value)->Heap->Prop} {YP:World->Heap->Prop} {d:DefRec}
  (hn:l.most=some n) (hdf:d.params.defaults=[])
  (call:∀(w:World) (s₀ s₁:Shared) (mg mb:Str->Option Value) (fa:Addr) (o:Obj) (pm cd doc:Value) (a:Addr) (vs:List Value) (ns:List Int),
   Ground q loose [] XP w s₀ mg mb s₁.heap->YP w s₁.heap->
   s₁.heap.get? fa=some o->o.data=.func (docDef d.name d.params d.body d.scope pm cd doc)->s₁.heap.CodeRec cd d.name->mg d.name=some (.ref fa)->
   s₁.heap.get? a=some { cls:=.type "list",data:=.seq vs.toArray }->IntsAre vs ns->ns.length<=n->s₁.gens=#[]->
   codeAny (model l.prog w) callerA (.call (.ref fa) ⟨[.ref a],[]⟩) (λr s'=>r=.ok (.ret (.bool true))/\OldK s₁.heap s'.heap/\s'.os=s₁.os/\AllBare s'.gens) s₁) :
  WalkO q loose XP YP l.row.toRowW d [] (λf vs=>PySem.call f vs):=by
 intro w s₀ s₁ mg mb G Y fa o pm cd doc dV kV ho hd hcd hD hmg hg args vals as hpre hlay hrd hwl hlo
 obtain rfl:dV=.none:=Dflts.none hD hdf
 obtain rfl:kV=.none:=Dflts.noKw hD
 obtain⟨a,vs,ns,rfl,rfl,hobj,hints,hlen⟩:=C6r hn hpre hwl
 refine enter_call (codeAny_mono (call w s₀ s₁ mg mb fa o pm cd doc a vs ns G Y ho (fd_plain hd) hcd hmg hobj hints hlen hg) λr s' hq=>?_)
 obtain⟨rfl,h2,h3,h4⟩:=hq
 exact⟨.inl ⟨.bool true,.bool true,[],rfl,λ_=>rfl,.bool true,C6s l _,λ_=>⟨List.Pairwise.nil,λ_ hm=>(nomatch hm)⟩⟩,h2,h3,h4⟩
section
variable {prog:Program} {w:World} {A:Around} {E:Value->Shared->Prop} {s:Shared} {K:Frag}
def D7p (h:Heap) (L d:Addr):List (Addr×Obj):=(T8 h.objs.size).filterMap λa=>if a=L\/a=d then none else (h.get? a).map λo=>(a,o)
end
end Att
namespace L2
open PySem PySem.Spec PyProof.Rows
theorem B3r:∀{vs:List Value} {ns:List Int},IntsAre vs ns->D5 (ns.map V.int) vs
 | _,_,.nil=>.nil
 | _,_,.cons n t h=>.cons ⟨t,rfl⟩ (B3r h)
def B3s (H:Hp):Prop:=∀b,H b=none\/∃o xs,H b=some (.frz o (.lst xs))
theorem C6t {P:Program} {w:World} {K:A9} {mg mb:Str->Option Value} {CX:CXT} {k:Nat} {fa a:Addr} {fd:FuncData} {x:Str} {sp:Sp} {s₁:Shared} {vs:List Value} {ns:List Int}
  (KX:K.In s₁.heap) (hns:s₁.heap.Ns mainGlobals mg) (hb:s₁.heap.Ns builtinsNs mb) (hbb:∀x:Str,x≠ "__name__" ->mb x=bootBuiltins x) (hlim:s₁.heap.NoLimit) (hg:s₁.gens=#[])
  (ha:s₁.heap.get? a=some { cls:=.type "list",data:=.seq vs.toArray }) (hi:IntsAre vs ns) (hl:ns.length<=sizeLine) (hr:P7 k callerA)
  (F:∀base:Heap,K.In base->base.Ns mainGlobals mg->C1 P w K mg base CX k fa fd [x] sp) (hbind:∀(s:Shared) (u:Value),BindsTo s fd ⟨[u],[]⟩ [(x,u)])
  (hsp:∀H:Hp,B3s H->SqL K H a (ns.map V.int)->sp [.ref a] H (λv _=>v=.bl true) λ_ _ _=>False)
  (hCX:∀H e s',CX [] H s₁ (λ_ _ _=>False) e s'->False) :
  codeAny (model P w) callerA (.call (.ref fa) ⟨[.ref a],[]⟩) (λr s'=>r=.ok (.ret (.bool true))/\OldK s₁.heap s'.heap/\s'.os=s₁.os/\AllBare s'.gens) s₁:=by
 have rv:=B3r hi
 have lenV:=hi.length
 have core:∀H:Hp,B3s H->SqL K H a (ns.map V.int)->HOk P w H s₁.heap->(∀b,H b≠none->b=a)->(H a≠none->K.lookup a=none)->
   codeAny (model P w) callerA (.call (.ref fa) ⟨[.ref a],[]⟩) (λr s'=>r=.ok (.ret (.bool true))/\OldK s₁.heap s'.heap/\s'.os=s₁.os/\AllBare s'.gens) s₁:=by
  intro H hO hS hok hA hK
  have base_of:∀{b:Addr} {o:Obj},s₁.heap.get? b=some o->H b=none->(A1k s₁.heap H).get? b=some o:=λe n=>C4y e n
  have noA:∀{b:Addr} {o:Obj} {es:Array DictEntry} {ep:Nat},s₁.heap.get? b=some o->o.data=.dict es ep->H b=none:=λ{b o es ep} e d=>by
   cases q:H b with
   | none=>rfl
   | some u=>
    have e':b=a:=hA b (by rw[q];simp)
    subst e'
    rw[ha] at e;cases e
    have d':Data.seq vs.toArray _=Data.dict es ep:=d
    cases d'
  have nsK:∀{b:Addr} {m:Str->Option Value},s₁.heap.Ns b m->(A1k s₁.heap H).Ns b m:=λ{b m} ⟨o,es,ep,e,d,r⟩=>⟨o,es,ep,base_of e (noA e d),d,r⟩
  have hKb:K.In (A1k s₁.heap H):=λb o e=>base_of (KX b o e) (by
   cases q:H b with
   | none=>rfl
   | some u=>
    have e':b=a:=hA b (by rw[q];simp)
    subst e'
    rw[hK (by rw[q];simp)] at e;cases e)
  have hM:Mod K mg (A1k s₁.heap H):=⟨hKb,nsK hns,⟨mb,nsK hb,hbb⟩,let ⟨mc,h1,h2⟩:=hlim;⟨mc,nsK h1,h2⟩⟩
  have e0:A3o P w K mg (A1k s₁.heap H) callerA [] s₁ H:=⟨rfl,hM,λb o e=>C4z e,Nat.le_of_eq (C4x _ _),trivial,λb hb=>absurd (show b∈([]:List Addr) from hb) (by simp),hok,.of_eq hg⟩
  refine codeAny_mono ((F _ hKb (nsK hns)).run callerA [] s₁ H ⟨[.ref a],[]⟩ [.ref a] [.ref a] _ _ hr e0 (hbind s₁ (.ref a)) (.cons rfl .nil) (hsp H hO hS)) λr s' h=>?_
  cases r with
  | error e=>exact (hCX H e s' h).elim
  | ok fl=>
   cases fl with
   | next=>exact False.elim h
   | brk=>exact False.elim h
   | cont=>exact False.elim h
   | ret u=>
    obtain⟨v,H',os,bare,un,hok',r',q⟩:=h
    have q':v=.bl true:=q
    subst q'
    obtain rfl:u=Value.bool true:=r'
    refine⟨rfl,OldK.of_keep λb o e=>?_,os,bare⟩
    cases q:H b with
    | none=>exact un.keep b o e q (by intro z;exact absurd (show b∈([]:List Addr) from z) (by simp)) (by simp)
    | some u=>
     rcases hO b with z | ⟨ob,xs,z⟩
     ·rw[q] at z;cases z
     ·have z2:=un.frzs b ob _ z
      obtain⟨e1,_⟩:=hok b _ z
      obtain⟨e2,_⟩:=hok' b _ z2
      rw[e] at e1;cases e1
      exact e2
 cases hk:K.lookup a with
 | some o=>
  have e:=KX a o hk
  rw[ha] at e
  cases e
  refine core (λ_=>none) (λ_=>.inl rfl) (.inr ⟨_,vs.toArray,_,hk,rfl,rfl,rfl,by rw[O8,lenV];exact hl,by simpa using rv⟩) (λb u z=>by have z':(none:Option HO)=some u:=z;cases z') (λb z=>absurd rfl z) λz=>absurd rfl z
 | none=>
  refine core (λb=>if b=a then some (.frz { cls:=.type "list",data:=.seq vs.toArray } (.lst (ns.map V.int))) else none) (λb=>?_) (.inl (.inr ⟨{ cls:=.type "list",data:=.seq vs.toArray },if_pos rfl⟩)) (λb u z=>?_) (λb z=>?_) λ_=>hk
  ·by_cases hb:b=a
   ·exact .inr ⟨_,_,if_pos hb⟩
   ·exact .inl (if_neg hb)
  ·by_cases hb:b=a
   ·have z':=(if_pos hb).symm.trans z
    cases z'
    subst hb
    exact⟨ha,by rw[C6];exact hl,vs,_,rv,ha⟩
   ·have z':=(if_neg hb).symm.trans z
    cases z'
  ·by_cases hb:b=a
   ·exact hb
   ·exact absurd (if_neg hb) z
theorem walk_of {l:PySem.W.OpenLaw} {n k:Nat} {q:Program} {loose:List Str} {XP:(Str->Option Value)->Heap->Prop} {YP:World->Heap->Prop} {d:DefRec} {K:Params->A9} {CX:World->CXT} {sp:World->Sp} {x:Str}
  (hn:l.most=some n) (hn2:n<=sizeLine) (hdf:d.params.defaults=[]) (hr:P7 k callerA)
  (hY:∀(w:World) (h:Heap),YP w h->(K w.params).In h)
  (F:∀(w:World) (mg:Str->Option Value) (fa:Addr) (h:Heap),(K w.params).In h->h.Ns mainGlobals mg->mg d.name=some (.ref fa)->
   ∃fd:FuncData,(∀(s:Shared) (u:Value),BindsTo s fd ⟨[u],[]⟩ [(x,u)])/\
    ∀base:Heap,(K w.params).In base->base.Ns mainGlobals mg->C1 l.prog w (K w.params) mg base (CX w) k fa fd [x] (sp w))
  (hsp:∀(w:World) (H:Hp) (a:Addr) (ns:List Int),ns.length<=n->B3s H->SqL (K w.params) H a (ns.map V.int)->sp w [.ref a] H (λv _=>v=.bl true) λ_ _ _=>False)
  (hCX:∀(w:World) (H:Hp) (s:Shared) (e:Value) (s':Shared),CX w [] H s (λ_ _ _=>False) e s'->False) :
  PySem.W.WalkO q loose XP YP l.row.toRowW d [] (λf vs=>PySem.call f vs):=by
 refine Att.attach_call hn hdf λw s₀ s₁ mg mb fa o pm cd doc a vs ns G Y ho hd hcd hmg hobj hints hlen hg=>?_
 have KX:=hY w _ Y
 obtain⟨fd,hb,hF⟩:=F w mg fa _ KX G.T.g hmg
 exact C6t KX G.T.g G.T.b G.T.builtins G.T.nolimit hg hobj hints (b3 hlen hn2) hr hF hb (λH hO hS=>hsp w H a ns hlen hO hS) λH e s'=>hCX w H s₁ e s'
def Y0 (s:Stmt) (j:Nat):Stmt:=match s with
 | .ClassDef _ _ _ body _ _ _ _ _ _ _=>body.getD j (.Pass ⟨0,0,0,0⟩)
 | _=>.Pass ⟨0,0,0,0⟩
def P9 (s:Stmt):Arguments:=match s with
 | .FunctionDef _ a _ _ _ _ _ _ _ _=>a
 | _=>{ posonlyargs:=[],args:=[],vararg:=none,kwonlyargs:=[],kw_defaults:=[],kwarg:=none,defaults:=[] }
def P0 (s:Stmt):List Stmt:=match s with
 | .FunctionDef _ _ b _ _ _ _ _ _ _=>b
 | _=>[]
def B1 (s:Stmt):Scope:=match s with
 | .FunctionDef _ _ _ _ _ _ sc _ _ _=>sc
 | _=>{ kind:=.function,names:=[],isGenerator:=false,isCoroutine:=false }
abbrev CX0:CXT:=λ_ _ _ _ _ _=>False
abbrev E0:XK:=λ_ _ _=>False
theorem A7 {X:Cx}:A3p CX0 X E0:=λ_ _ _ _ _ _ _ h=>h.elim
structure Fun (K:A9) (x qual:Str) (st:Stmt) (f:Addr) (fd:FuncData):Prop where
 ex:∃(oc:Value) (od:Option Addr) (kV doc pm:Value) (an:Option Addr) (cdv ct:Value) (osl:Array (Option Value)),
  fd=P6 x qual (P9 st) (P0 st) (B1 st) .none kV doc pm an cdv ct/\K.lookup f=some ⟨oc,od,.func fd,osl⟩/\T0 K cdv qual=true
 kp:Q4 K (.ref f)=true
section
variable {P:Program} {w:World} {K:A9} {mg:Str->Option Value} {base:Heap}
theorem Fun.ok {x qual:Str} {st:Stmt} {f:Addr} {fd:FuncData} {N ps:List Str} {k:Nat} {sp:Sp} (F:Fun K x qual st f fd) (S:D1 N ps (B1 st)) (len:∀vs H Q E,sp vs H Q E->vs.length=ps.length)
  (hbody:∀(cdv:Value) (A:Around) (outer:List Env) (s:Shared) (H:Hp) (vs:List V) (Q:VK) (E:XK),P7 k (A.deeper (envOfC qual (B1 st) s.heap.objs.size f cdv))->sp vs H Q E->
   ∃t,PSs (N6 CX0 P w K mg base N qual (B1 st) f cdv A outer s H E).nox (P0 st) t/\t { nx:=λ_ H'=>Q .non H',rt:=Q } (start N vs) H):C1 P w K mg base CX0 (k + 1) f fd ps sp:=by
 obtain⟨oc,od,kV,doc,pm,an,cdv,ct,osl,rfl,lk,hcd⟩:=F.ex
 refine C57 lk hcd S len λA outer s H vs Q E hr hsp=>?_
 obtain⟨t,h,q⟩:=hbody cdv A outer s H vs Q E hr hsp
 exact⟨t,h.nox,q⟩
theorem Fun.binds {x qual:Str} {st:Stmt} {f:Addr} {fd:FuncData} {ps:List Str} (F:Fun K x qual st f fd)
  (h:∀(kV doc pm:Value) (an:Option Addr) (cdv ct:Value) (us:List Value),us.length=ps.length->bindArgs (P6 x qual (P9 st) (P0 st) (B1 st) .none kV doc pm an cdv ct) ⟨us,[]⟩=pure (ps.zip us)):P8 K fd ps []:=by
 obtain⟨oc,od,kV,doc,pm,an,cdv,ct,osl,rfl,lk,hcd⟩:=F.ex
 exact .all (h kV doc pm an cdv ct)
theorem U1 {x qual:Str} {st:Stmt} {f:Addr} {oc:Value} {od an:Option Addr} {osl:Array (Option Value)} {kV doc pm cdv ct:Value} (l:K.lookup f=some ⟨oc,od,.func (P6 x qual (P9 st) (P0 st) (B1 st) .none kV doc pm an cdv ct),osl⟩)
  (c:T0 K cdv qual=true) (k:Q4 K (.ref f)=true):Fun K x qual st f (P6 x qual (P9 st) (P0 st) (B1 st) .none kV doc pm an cdv ct):=⟨⟨oc,od,kV,doc,pm,an,cdv,ct,osl,rfl,l,c⟩,k⟩
end
theorem B00 {n:Nat} (h:n<=1000):n < sizeLine:=Nat.lt_of_le_of_lt h (DD)
section
variable {X:Cx}
theorem pv (i:Nat) {x:Str} {pos:Pos} (hN:X.N[i]?=some x:=by rfl) (hv:Vis X.env.scope x:=by first | exact B3 rfl | exact Or.inr (B3 rfl) | exact Or.inr (Or.inr rfl)) (hd:(x == ("__debug__" : Str))=false:=by decide)
  (hcd:(x == ("__classdict__" : Str))=false:=by decide):PE X (.Name x pos) (U7 i):=C41 hN hv hd hcd
end
theorem C7 {A B:Prop} (h:B):if false=true then A else B:=by
 rw[if_neg Q2]
 exact h
theorem G0 {A B:Prop} (h:A):if true=true then A else B:=by
 rw[if_pos rfl]
 exact h
theorem A51 {c A B:Prop} [Decidable c] (h1:c->A) (h2:¬ c->B):if c then A else B:=by
 by_cases h:c
 ·rw[if_pos h]
  exact h1 h
 ·rw[if_neg h]
  exact h2 h
def Same (H H':Hp):Prop:=∀b o,H b=some o->H' b=some o
theorem Same.refl (H:Hp):Same H H:=λ_ _ h=>h
end L2
set_option maxHeartbeats 4000000
namespace L2
open PySem PySem.Spec PyProof.Rows
def Y1 (cells:List (Str×Addr)):List (Str×NameKind)->List (Str×Addr)->List (Str×Addr)
 | [],cs=>cs
 | (n,k)::r,cs=>Y1 cells r (if k == .free then (n,(cells.lookup n).getD 0)::cs else cs)
theorem B8z {scope:Scope} {env:Env} (h:∀y∈scope.names,y.2=.free->∃c,env.cells.lookup y.1=some c):closureFor scope env=pure (Y1 env.cells scope.names []):=by
 have key:∀(l:List (Str×NameKind)) (cs:List (Str×Addr)),(∀y∈l,y.2=.free->∃c,env.cells.lookup y.1=some c)->
   (forIn l cs λ(x:Str×NameKind) (r:List (Str×Addr))=>if (x.2 == NameKind.free)=true then do let a <-cellOf env x.1;pure (ForInStep.yield ((x.1,a)::r)) else pure (ForInStep.yield r):Sem (List (Str×Addr)))=pure (Y1 env.cells l cs):=by
  intro l
  induction l with
  | nil=>intro cs _;rfl
  | cons y r ih=>
   intro cs hl
   obtain⟨n,k⟩:=y
   rw[List.forIn_cons]
   by_cases hk:k=.free
   ·subst hk
    obtain⟨c,hc⟩:=hl (n,.free) D9 rfl
    have hc':env.cells.lookup n=some c:=hc
    have e1:cellOf env n=pure c:=by unfold cellOf;rw[hc']
    simp only[beq_self_eq_true,if_true,e1,pure_bind]
    rw[ih _ λz hz=>hl z (D3 _ hz)]
    show _=pure (Y1 env.cells r (if (NameKind.free == NameKind.free)=true then (n,(env.cells.lookup n).getD 0)::cs else cs))
    rw[hc']
    rfl
   ·have hb:(k == NameKind.free)=false:=by simpa using hk
    simp only[hb,B2z,if_false,pure_bind]
    rw[ih _ λz hz=>hl z (D3 _ hz)]
    show _=pure (Y1 env.cells r (if (k == NameKind.free)=true then (n,(env.cells.lookup n).getD 0)::cs else cs))
    rw[hb]
    rfl
 have k2:=key scope.names [] h
 have e:closureFor scope env=((forIn scope.names [] λ(x:Str×NameKind) (r:List (Str×Addr))=>if (x.2 == NameKind.free)=true then do let a <-cellOf env x.1;pure (ForInStep.yield ((x.1,a)::r)) else pure (ForInStep.yield r):Sem (List (Str×Addr))) >>= λcs=>pure cs):=rfl
 rw[e,k2]
 rfl
theorem B80 {cells:List (Str×Addr)}:∀{l:List (Str×NameKind)} {cs:List (Str×Addr)},(∀y∈l,y.2=.free->∃c,cells.lookup y.1=some c)->(∀x c,cs.lookup x=some c->cells.lookup x=some c)->
  ∀x c,(Y1 cells l cs).lookup x=some c->cells.lookup x=some c
 | [],_,_,h,x,c,e=>h x c e
 | (n,k)::r,cs,hl,h,x,c,e=>by
  unfold Y1 at e
  refine B80 (l:=r) (λz hz=>hl z (D3 _ hz)) (λy d q=>?_) x c e
  split at q
  ·rename_i hk
   obtain⟨c0,hc0⟩:=hl (n,k) D9 (by simpa using hk)
   have hc0':cells.lookup n=some c0:=hc0
   rw[hc0'] at q
   rw[A0k] at q
   split at q
   ·rename_i hb
    have:=eq_of_beq hb
    subst this
    rw[hc0']
    exact q
   ·exact h y d q
  ·exact h y d q
theorem B81 {cells:List (Str×Addr)} {x:Str}:∀{l:List (Str×NameKind)} {cs:List (Str×Addr)},(∃c,cs.lookup x=some c)->∃c,(Y1 cells l cs).lookup x=some c
 | [],_,h=>h
 | (n,k)::r,cs,h=>by
  unfold Y1
  refine B81 (l:=r) ?_
  split
  ·rw[A0k]
   split
   ·exact⟨_,rfl⟩
   ·exact h
  ·exact h
theorem B3t {cells:List (Str×Addr)} {x:Str}:∀{l:List (Str×NameKind)} {cs:List (Str×Addr)},(x,NameKind.free)∈l->∃c,(Y1 cells l cs).lookup x=some c
 | (n,k)::r,cs,h=>by
  unfold Y1
  rcases N3.mp h with e | h
  ·injection e with e1 e2
   subst e1 e2
   refine B81 (l:=r) ?_
   simp only[beq_self_eq_true,if_true]
   rw[A0k]
   simp
  ·exact B3t (l:=r) h
structure CA where
 s:Shared
 H:Hp
 C:Addr
 fp:List Addr
abbrev W7 (X:Cx) (scope:Scope) (N':List Str) (a:CA):Cx where
 prog:=X.prog
 w:=X.w
 K:=X.K
 mg:=X.mg
 base:=X.base
 A:=X.A
 N:=N'
 s₀:=a.s
 H₀:=a.H
 env:=compEnvC scope (Y1 X.env.cells scope.names []) a.C X.env
 outer:=X.stack
 stack:=X.stack
 ex:=a.fp
 fn:=λ_=>false
 calm:=X.calm
 pn:=[]
 xe:=λ_ _=>False
structure Q0 (N N':List Str) (osc scope:Scope) (j:Nat) (x:Str):Prop where
 nd:N'.Nodup
 at_:N'[j]?=some x
 sub:∀(i:Nat) y,i≠j->N'[i]?=some y->N[i]?=some y
 len:N'.length<=N.length + 1
 kind:scope.kind=.function
 cell:∀y∈scope.names,y.2≠.cell
 names:∀y∈scope.names,y.2=.local->scope.names.lookup y.1=some .local
 only:∀y∈scope.names,y.2=.local->y.1=x\/y.1∉N'
 loc:scope.names.lookup x=some .local
 okind:osc.kind=.function
 free:∀y∈scope.names,y.2=.free->osc.names.lookup y.1=some .cell
def B82 (N:List Str) (osc scope:Scope) (x:Str):Bool:=
 decide (N++[x]).Nodup&&decide (scope.kind=.function)&&decide (osc.kind=.function)&&(scope.names.lookup x == some .local)&&
  scope.names.all λy=>match y.2 with
   | .cell=>false
   | .local=>scope.names.lookup y.1 == some .local&&(y.1 == x||!((N++[x]).contains y.1))
   | .free=>osc.names.lookup y.1 == some .cell
   | _=>true
theorem Q0.new {N:List Str} {osc scope:Scope} {x:Str} (h:B82 N osc scope x=true):Q0 N (N++[x]) osc scope N.length x:=by
 unfold B82 at h
 simp only[A5n,decide_eq_true_eq,List.all_eq_true,beq_iff_eq] at h
 obtain⟨⟨⟨⟨h1,h2⟩,h3⟩,h4⟩,h5⟩:=h
 refine⟨h1,by simp,λi y ne e=>?_,by simp,h2,λy hy e=>?_,λy hy e=>?_,λy hy e=>?_,h4,h3,λy hy e=>?_⟩
 ·by_cases hi:i < N.length
  ·rw[A3d hi] at e;exact e
  ·rw[A5k (by lia)] at e
   cases q:i - N.length with
   | zero=>exact absurd (by lia) ne
   | succ k=>rw[q] at e;simp at e
 ·have:=h5 y hy;rw[e] at this;cases this
 ·have:=h5 y hy
  rw[e] at this
  simp only[A5n,beq_iff_eq] at this
  exact this.1
 ·have:=h5 y hy
  rw[e] at this
  simp only[A5n,Bool.or_eq_true,beq_iff_eq,Bool.not_eq_true',List.contains_eq_mem,decide_eq_false_iff_not] at this
  exact this.2
 ·have:=h5 y hy
  rw[e] at this
  simp only[beq_iff_eq] at this
  exact this
def V9 (n j:Nat) (σ:St):St:=((σ++[none]).take n).set j none
theorem B83 {n j i:Nat} {σ:St} {v:V} (h:(V9 n j σ)[i]?=some (some v)):i≠j/\σ[i]?=some (some v):=by
 unfold V9 at h
 by_cases e:i=j
 ·subst e
  rw[A3f] at h
  simp only[if_true] at h
  split at h <;> cases h
 ·refine⟨e,?_⟩
  rw[A1e (Ne.symm e)] at h
  have h2:(σ++[none])[i]?=some (some v):=by
   by_cases hi:i < n
   ·rw[List.getElem?_take_of_lt hi] at h;exact h
   ·rw[A11 (by rw[j6];lia)] at h;cases h
  by_cases hi:i < σ.length
  ·rw[A3d hi] at h2;exact h2
  ·rw[A5k (by lia)] at h2
   cases q:i - σ.length with
   | zero=>rw[q] at h2;cases h2
   | succ k=>rw[q] at h2;cases h2
theorem C6u {n j:Nat} {σ:St} (h:n<=σ.length + 1):(V9 n j σ).length=n:=by
 unfold V9
 rw[Y6,j6,U6]
 simp;lia
theorem A88 {env:Env}:∀{names:List (Str×NameKind)} {x:Str},((names.map λ(n,k)=>if (k == NameKind.free&&env.scope.kind == .function&&env.kindOf n == some .cell) then (n,NameKind.cell) else (n,k)).lookup x=some .cell\/
  (names.map λ(n,k)=>if (k == NameKind.free&&env.scope.kind == .function&&env.kindOf n == some .cell) then (n,NameKind.cell) else (n,k)).lookup x=some .free)->(∀y∈names,y.2≠.cell)->(x,NameKind.free)∈names
 | [],_,h,_=>by rcases h with h | h <;> cases h
 | (n,k)::r,x,h,hc=>by
  rw[Q9] at h
  dsimp only at h
  by_cases hk:(k == NameKind.free&&env.scope.kind == .function&&env.kindOf n == some .cell)=true
  ·rw[if_pos hk] at h
   simp only[A0k] at h
   cases hx:x == n with
   | true=>
    have e:=eq_of_beq hx
    subst e
    have k':k=.free:=by
     rw[A5n,A5n] at hk
     simpa using hk.1.1
    subst k'
    exact D9
   | false=>
    simp only[hx] at h
    exact D3 _ (A88 h λy hy=>hc y (D3 _ hy))
  ·rw[if_neg hk] at h
   simp only[A0k] at h
   cases hx:x == n with
   | true=>
    have e:=eq_of_beq hx
    subst e
    simp only[hx] at h
    rcases h with h | h
    ·exact absurd (Option.some.inj h) (hc (x,k) D9)
    ·have:=Option.some.inj h
     subst this
     exact D9
   | false=>
    simp only[hx] at h
    exact D3 _ (A88 h λy hy=>hc y (D3 _ hy))
theorem B01 {env:Env}:∀{names:List (Str×NameKind)} {x:Str},(names.map λ(n,k)=>if (k == NameKind.free&&env.scope.kind == .function&&env.kindOf n == some .cell) then (n,NameKind.cell) else (n,k)).lookup x=some .local->(x,NameKind.local)∈names
 | [],_,h=>by cases h
 | (n,k)::r,x,h=>by
  rw[Q9] at h
  dsimp only at h
  by_cases hk:(k == NameKind.free&&env.scope.kind == .function&&env.kindOf n == some .cell)=true
  ·rw[if_pos hk] at h
   simp only[A0k] at h
   cases hx:x == n with
   | true=>simp only[hx] at h;cases h
   | false=>
    simp only[hx] at h
    exact D3 _ (B01 h)
  ·rw[if_neg hk] at h
   simp only[A0k] at h
   cases hx:x == n with
   | true=>
    have e:=eq_of_beq hx
    subst e
    simp only[hx] at h
    have:=Option.some.inj h
    subst this
    exact D9
   | false=>
    simp only[hx] at h
    exact D3 _ (B01 h)
section
variable {X:Cx} {pins:List (Addr×Obj)} {σ:St} {H:Hp} {s:Shared}
structure Own (X:Cx) (pins:List (Addr×Obj)) (H:Hp) (C:Addr):Prop where
 no:H C=none
 ne:C≠X.env.locals
 ab:X.s₀.heap.objs.size<=C
 ce:∀x c,X.env.cells.lookup x=some c->c≠C
 pi:∀p∈X.pn++pins,p.1≠C
theorem Inv.own {C:Addr} {H':Hp} (I:Inv X pins σ H s) (h:s.heap.objs.size<=C) (hn:H' C=none):Own X pins H' C:=by
 refine⟨hn,A5j (X4 I.lt h),b3 I.sz h,λx c e z=>?_,λp hp z=>?_⟩
 ·obtain⟨v,q⟩:=I.cell x c e
  exact absurd (X4 q.lt (by rw[z];exact h)) (o9 _)
 ·exact absurd (X4 (G9 (I.pin p hp).1) (by rw[z];exact h)) (o9 _)
theorem Inv.own_turn {C:Addr} {h':Heap} (I:Inv X pins σ H s) (o:Own X pins H C) (hs:Heap.SameBut C s.heap h'):Inv X pins σ H { s with heap:=h' }:=
 I.turned (t':=s.toks) (λb ob hb e=>(hs.2 b hb).trans e) o.no o.ne (.inr o.ab) o.ce o.pi
theorem Inv.track {D:Addr} {ys:List V} {its:List Value} {n:Nat} (I:Inv X pins σ H s) (o:Own X pins H D) (e:s.heap.get? D=some { cls:=.type "list",data:=.seq its.toArray n }) (r:D5 ys its) (hz:ys.length<=sizeLine) :
  Inv X pins σ (upd H D (.lst ys)) s:=by
 have nD:∀b u,H b=some u->b≠D:=λb u q z=>by rw[z,o.no] at q;cases q
 have hok:HOk X.prog X.w (upd H D (.lst ys)) s.heap:=λb u q=>by
  by_cases hb:b=D
  ·subst hb
   rw[B6] at q
   cases q
   exact⟨hz,its,n,r,e⟩
  ·rw[B8 hb] at q
   exact (I.hok b u q).stay (λ_ _ _ z=>z) (λc z=>by rw[B8 (nD c _ z)];exact z) λc xs z=>by rw[B8 (nD c _ z)];exact z
 have:=I.step (H':=upd H D (.lst ys)) (h':=s.heap) (g':=s.gens) (t':=s.toks) (d':=s.drawn) (ch:=[D]) (λb hb=>by
   have e':b=D:=by simpa using hb
   subst e'
   exact⟨.inr o.ab,o.ne,o.ce,o.pi⟩) (λb ob _ _ _ q _=>q) (λb ob _ _ _ q _=>⟨ob.slots,q⟩) (λb ob hc q z=>by rw[B8 (by simpa using hc)];exact z) (λb ob _ q=>⟨ob,q⟩)
  (λb xs q=>by rw[B8 (nD b _ q)];exact q) (λb ob u q=>by rw[B8 (nD b _ q)];exact q) (λb ps q=>⟨#[],by rw[B8 (nD b _ q),q];simp⟩) (λm z=>z) hok I.bare
 exact this
end
section
variable {prog:Program} {w:World} {A:Around} {R:Result->Shared->Prop} {s:Shared}
theorem C6v {elt target iter:Expr} {ifs:List Expr} {scope:Scope} {pos:Pos} {it acc:Value} {env:Env} (I:Nat->Shared->Prop)
  (turn:∀n s,I n s->∀E:Value->Shared->Prop,wpAny (model prog w) A (pyNext it) (λr s₁=>match r with
   | none=>R (.ok .next) s₁
   | some v=>wpAny (model prog w) A (letOwnedTupleGo target it v) (λ_ s₁'=>wpAny (model prog w) A (assign target env v) (λ_ s₂=>
     wpAny (model prog w) A (forIn ifs true λc r=>if r=true then do let ok <-isTrue c env (eval c env);pure (ForInStep.yield ok) else pure (ForInStep.yield r)) (λok s₃=>
      if ok=true then wpAny (model prog w) A (eval elt env) (λx s₄=>
       wpAny (model prog w) A (call (.builtin "list.append") [acc,x]) (λ_ s₅=>∃m,m < n/\I m s₅) E s₄) E s₃
      else ∃m,m < n/\I m s₃) E s₂) E s₁') E s₁) E s)
  (n:Nat) (h:I n s) :
  codeAny (model prog w) A (.compLoop (.ListComp elt [⟨target,iter,ifs,0⟩] scope pos) 0 it acc env) R s:=by
 refine codeAny_loop rfl I (λn s hI=>?_) n h
 show wpAny _ A ((compTurn (.ListComp elt [⟨target,iter,ifs,0⟩] scope pos) 0 it acc env).onRaise (λx=>do noteFrame x env;theTreesLotGoes x)) _ _ s
 refine wpAny_noted ?_
 rw[compTurn_list]
 refine wpAny_bind (wpAny_standAt (wpAny_bind (wpAny_mono (turn n s hI _) (λr s₁ h₁=>?_) λ_ _ h'=>h')))
 cases r with
 | none=>exact wpAny_pure h₁
 | some v=>
  refine wpAny_bind (wpAny_mono h₁ (λ_ s₁' h₁'=>?_) λ_ _ h'=>h')
  refine wpAny_bind (wpAny_mono h₁' (λ_ s₂ h₂=>wpAny_bind (wpAny_mono h₂ (λok s₃ h₃=>?_) λ_ _ h'=>h')) λ_ _ h'=>h')
  cases ok with
  | false=>exact wpAny_pure ⟨rfl,h₃⟩
  | true=>
   exact wpAny_bind (wpAny_bind (wpAny_mono h₃ (λx s₄ h₄=>wpAny_bind (wpAny_mono h₄ (λ_ s₅ h₅=>wpAny_pure (wpAny_pure ⟨rfl,h₅⟩)) λ_ _ h'=>h')) λ_ _ h'=>h'))
end
def PTs (X:Cx) (ifs:List Expr) (t:TT):Prop:=
 ∀(pins:List (Addr×Obj)) (s:Shared) (σ:St) (H:Hp) (Q:Bool->Hp->Prop),Inv X pins σ H s->t σ H Q->
  wpAny (model X.prog X.w) X.A (forIn ifs true λc r=>if r=true then do let ok <-isTrue c X.env (eval c X.env);pure (ForInStep.yield ok) else pure (ForInStep.yield r)) (TP X pins σ Q) X.xe s
def A19:TT:=λ_ H Q=>Q true H
theorem A2a {X:Cx}:PTs X [] A19:=λ_ _ _ H _ I h=>wpAny_tests_nil ⟨H,I,h⟩
theorem B3u {X:Cx} {c:Expr} {t:TT} (h:PT X c t):PTs X [c] t:=λpins s σ H Q I q=>wpAny_tests_one (h pins s σ H Q I q)
def B02 (σ:St) (n j:Nat) (tt:CA->TT) (te:CA->TE) (J:It) (H1:Hp) (Q:List V->Hp->Prop):Prop:=
 ∃W:Nat->Nat->List V->Hp->Prop,(∃m,W 0 m [] H1)/\∀i m ys H,W i m ys H->ys.length<=sizeLine/\
  ((J.stop i H/\Q ys H)\/(J.go i H/\∃N:List V->Hp->Prop,(∀ys' H',N ys' H'->∃m',m' < m/\W (i + 1) m' ys' H')/\
   ∀x H',J.yld i H x H'->∀a:CA,tt a ((V9 n j σ).set j (some x)) H' λb H2=>if b=true then te a ((V9 n j σ).set j (some x)) H2 λy H3=>N (ys++[y]) H3 else N ys H2))
def A52 (wi:TI) (n j:Nat) (tt:CA->TT) (te:CA->TE):TE:=fun σ H Q=>wi σ H λJ H1=>B02 σ n j tt te J H1 λys H2=>∀p,H2 p=none->Q (.ref p) (upd H2 p (.lst ys))
section
variable {X:Cx} {pins:List (Addr×Obj)} {σ:St} {H:Hp} {s:Shared}
theorem B84 {elt iter:Expr} {x:Str} {px pos:Pos} {ifs:List Expr} {scope:Scope} {N':List Str} {j:Nat} {tt:CA->TT} {te:CA->TE} {it:Addr} {fp:List Addr} {tn:Nat->Heap->Prop} {J:It} {Q:List V->Hp->Prop}
  {RR:Value->Addr->Result->Shared->Prop} {E:Value->Shared->Prop}
  (S:Q0 X.N N' X.env.scope scope j x) (hc:X.calm=true)
  (ht:∀a:CA,PTs (W7 X scope N' a) ifs (tt a)) (he:∀a:CA,PE (W7 X scope N' a) elt (te a))
  (I:Inv X pins σ H s) (T:A5x X.prog X.w X.K (.Name x px) J fp it tn) (st:tn 0 s.heap) (f2:∀b∈fp,k0 X pins H b) (h:B02 σ N'.length j tt te J H Q)
  (hRR:∀(D C:Addr) (ys:List V) (H':Hp) (s':Shared) (m:Str->Option Value),s'.heap.Ns C m->Own X pins (upd H' D (.lst ys)) C->Inv X pins σ (upd H' D (.lst ys)) s'->H' D=none->Q ys H'->RR (.ref D) C (.ok .next) s') :
  wpAny (model X.prog X.w) X.A (newList []) (λacc s₃=>wpAny (model X.prog X.w) X.A (newFunctionEnv scope X.env.globals (Y1 X.env.cells scope.names []) [] X.env.qual none .none (some X.env)) (λcenv s₄=>
   codeAny (model X.prog X.w) X.A (.compStart (.ListComp elt [⟨.Name x px,iter,ifs,0⟩] scope pos) 0 (.ref it) acc { cenv with scope:=relabel scope X.env }) (RR acc cenv.locals) s₄) E s₃) E s:=by
 refine wpAny_newObj_type (wpAny_newFunctionEnv S.cell (by intro y hy;simp at hy) (λh₁ hns₁ hsb₁=>?_) S.kind)
 dsimp only at hns₁ hsb₁ ⊢
 generalize hH2:s.heap.push { cls:=.type "list",dict:=none,data:=.seq ([]:List Value).toArray }=H2 at hns₁ hsb₁ ⊢
 have hC:H2.objs.size=s.heap.objs.size + 1:=by rw[<-hH2,B7c]
 have hDC:s.heap.objs.size≠H2.objs.size:=by rw[hC];exact Q1 (B7d _)
 have hCle:s.heap.objs.size<=H2.objs.size:=by rw[hC];exact A1g _
 have below:∀b,b < s.heap.objs.size->b≠H2.objs.size/\b≠s.heap.objs.size:=λb hb=>⟨by rw[hC];exact Q1 (Nat.lt_succ_of_lt hb),Q1 hb⟩
 have old:∀b o,s.heap.get? b=some o->h₁.get? b=some o:=λb o e=>hsb₁.extBut b o (below b (G9 e)).1 (O0 _ (hH2▸O0 _ e))
 have hacc:h₁.get? s.heap.objs.size=some { cls:=.type "list",data:=.seq ([]:List Value).toArray }:=hsb₁.extBut _ _ hDC (O0 _ (hH2▸T9 _ rfl))
 have fplt:∀b∈fp,b < s.heap.objs.size:=λb hb=>let ⟨_,e,_⟩:=T.obj 0 _ st b hb;G9 e
 have hcells:∀y∈scope.names,y.2=.free->∃c,X.env.cells.lookup y.1=some c:=λy hy e=>I.ok.has y.1 (.inl (S.free y hy e))
 have sub:∀y c,(Y1 X.env.cells scope.names []).lookup y=some c->X.env.cells.lookup y=some c:=B80 hcells (λy c e=>by cases e)
 let a:CA:=⟨s,H,H2.objs.size,fp⟩
 have ok:(W7 X scope N' a).Ok:=by
  refine⟨I.ok.mod,S.kind,I.ok.glob,I.ok.blt,hCle,λy z c e1 e2=>I.ok.inj y z c (sub y c e1) (sub z c e2),λy hy=>?_,λy c z=>?_,I.ok.hd,I.ok.frames,.inl rfl,λb hb=>⟨(below b (fplt b hb)).1,λy c e=>(f2 b hb).2.2.2.2.1 y c (sub y c e)⟩,I.bs,
   b3 I.ok.bsz I.sz,λb o e hb=>?_,λb hb z=>?_,I.stack,I.stkFree⟩
  ·exact B3t (A88 hy S.cell)
  ·cases z
  ·rcases (f2 b hb).2.2.2.1 with z | z
   ·exact I.ok.noex b o e z
   ·exact absurd (X4 (G9 (I.ok.bs b o e).1) z) (o9 _)
  ·rcases N3.mp (I.stkSub b z) with e | e
   ·exact (f2 b hb).2.1 e
   ·exact (f2 b hb).2.2.1 e
 have look:∀(h':Heap) (m':Str->Option Value),(∀y c,X.env.cells.lookup y=some c->∀v,s.heap.IsCell c v->h'.IsCell c v)->∀(i:Nat) (y:Str) (v:V),N'[i]?=some y->(V9 N'.length j σ)[i]?=some (some v)->
   Vis (relabel scope X.env) y->∃u,E1 v u/\B7m (compEnvC scope (Y1 X.env.cells scope.names []) H2.objs.size X.env) h' m' y u:=by
  intro h' m' kc i y v e1 e2 e3
  obtain⟨ne,e4⟩:=B83 e2
  have e5:=S.sub i y ne e1
  have hy:(y,NameKind.free)∈scope.names:=by
   rcases e3 with e3 | e3 | e3
   ·rcases S.only _ (B01 e3) rfl with z | z
    ·exact absurd (B0t S.nd e1 (by rw[S.at_];exact congrArg some z.symm)) ne
    ·exact absurd (R6 e1) z
   ·exact A88 (.inl e3) S.cell
   ·exact A88 (.inr e3) S.cell
  have kcell:X.env.scope.names.lookup y=some .cell:=S.free _ hy rfl
  obtain⟨m0,hn0,hl0⟩:=I.loc
  obtain⟨u,r,l⟩:=hl0 i y v e5 e4 (.inr (.inl kcell))
  refine⟨u,r,.inr ⟨?_,?_⟩⟩
  ·rcases e3 with e3 | e3 | e3
   ·rcases S.only _ (B01 e3) rfl with z | z
    ·exact absurd (B0t S.nd e1 (by rw[S.at_];exact congrArg some z.symm)) ne
    ·exact absurd (R6 e1) z
   ·exact .inl e3
   ·exact .inr e3
  ·rcases l with ⟨k,_⟩ | ⟨k,c,e,z⟩
   ·have k':X.env.scope.names.lookup y=some .local:=k
    rw[kcell] at k';cases k'
   ·obtain⟨c',e'⟩:=B3t (cells:=X.env.cells) (cs:=[]) hy
    have e'':=sub y c' e'
    rw[e] at e''
    cases e''
    exact⟨c,e',kc y c e _ z⟩
 have cellOld:∀y c,X.env.cells.lookup y=some c->∀v,s.heap.IsCell c v->h₁.IsCell c v:=λy c _ v zz232=>el2 zz232 λo ho hd=>⟨o,old c o ho,hd⟩
 have fr0:∀b,s.heap.objs.size<=b->H b=none:=λb hb=>I.hok.fresh hb
 have noPn:∀p,p∉(W7 X scope N' a).pn++([]:List (Addr×Obj)):=λp hp=>by simp at hp
 have I0:Inv (W7 X scope N' a) [] (V9 N'.length j σ) H { s with heap:=h₁,toks:=s.toks + ([]:List (Str×Value)).length }:=by
  refine⟨ok,rfl,I.bare,Un.kept old,⟨_,hns₁,look h₁ _ cellOld⟩,λy c e=>?_,fr0 _ hCle,λy c e=>I.freeC y c (sub y c e),λp hp=>absurd hp (noPn p),I.hok.kept old,C6u (by rw[I.len];exact S.len)⟩
  obtain⟨v,z⟩:=I.cell y c (sub y c e)
  exact⟨v,cellOld y c (sub y c e) v z⟩
 obtain⟨W,⟨m0,w0⟩,turn⟩:=h
 have loop:∀s₃:Shared,s₃={ s with heap:=h₁,toks:=s.toks + ([]:List (Str×Value)).length }->
   codeAny (model X.prog X.w) X.A (.compLoop (.ListComp elt [⟨.Name x px,iter,ifs,0⟩] scope pos) 0 (.ref it) (.ref s.heap.objs.size) (compEnvC scope (Y1 X.env.cells scope.names []) H2.objs.size X.env)) (RR (.ref s.heap.objs.size) H2.objs.size) s₃:=by
  rintro s₃ rfl
  refine C6v (λk s'=>∃(i:Nat) (ys:List V) (its:List Value) (n:Nat) (H':Hp),Inv (W7 X scope N' a) [] (V9 N'.length j σ) H' s'/\s'.heap.get? s.heap.objs.size=some { cls:=.type "list",data:=.seq its.toArray n }/\D5 ys its/\
   H' s.heap.objs.size=none/\tn i s'.heap/\(∀b∈fp,H' b=none)/\W i k ys H') ?_ m0
   ⟨0,[],[],0,H,I0,hacc,.nil,fr0 _ (F9 _),T.keep _ _ _ st λb hb o e=>old b o e,λb hb=>(f2 b hb).1,w0⟩
  rintro k s' ⟨i,ys,its,n,H',I',hD,rv,nD',st',fr',w'⟩ E'
  obtain⟨hz,hw⟩:=turn i k ys H' w'
  have ownD:Own (W7 X scope N' a) [] H' s.heap.objs.size:=⟨nD',hDC,F9 _,λy c e z=>by
   obtain⟨v,q⟩:=I.cell y c (sub y c e)
   exact absurd q.lt (by rw[z];exact o9 _),λp hp=>absurd hp (noPn p)⟩
  have fpok:∀(pl:List (Addr×Obj)) (H'':Hp),(∀b∈fp,H'' b=none)->(∀p∈pl,p.1∉fp)->∀b∈fp,k0 (W7 X scope N' a) pl H'' b:=λpl H'' hn hpl b hb=>
   ⟨hn b hb,(below b (fplt b hb)).1,λz=>by
    rcases N3.mp (I.stkSub b z) with e | e
    ·exact (f2 b hb).2.1 e
    ·exact (f2 b hb).2.2.1 e,.inl hb,λy c e=>(f2 b hb).2.2.2.2.1 y c (sub y c e),λp hp z=>by
    have hp':p∈pl:=by simpa using hp
    exact hpl p hp' (z▸hb)⟩
  have nDfp:s.heap.objs.size∉fp:=λz=>absurd (fplt _ z) (o9 _)
  have pinD:∀p∈([(s.heap.objs.size,{ cls:=.type "list",data:=.seq its.toArray n })]:List (Addr×Obj)),s'.heap.get? p.1=some p.2/\H' p.1=none/\p.1≠(W7 X scope N' a).env.locals/\p.1∉(W7 X scope N' a).fs/\∀v,p.2.data≠.cell v:=λp hp=>by
   have e:p=(s.heap.objs.size,{ cls:=.type "list",data:=.seq its.toArray n }):=by simpa using hp
   subst e
   refine⟨hD,nD',hDC,λz=>?_,λv z=>by cases z⟩
   rcases N3.mp (I.stkSub _ z) with e | e
   ·exact absurd I.lt (by rw[<-e];exact o9 _)
   ·exact I.nofs (F9 _) e
  have Ip:=I'.pins_of pinD
  have hpl:∀p∈([(s.heap.objs.size,{ cls:=.type "list",data:=.seq its.toArray n })]:List (Addr×Obj)),p.1∉fp:=λp hp=>by
   have e:p=(s.heap.objs.size,{ cls:=.type "list",data:=.seq its.toArray n }):=by simpa using hp
   subst e
   exact nDfp
  rcases hw with ⟨stop,q⟩ | ⟨go,N,hN,step⟩
  ·refine thn (T.done (W7 X scope N' a) rfl rfl rfl hc i _ s' _ H' E' Ip (fpok _ H' fr' hpl) st' stop) λr s4 zz233=>zz233.elim λhr I4=>?_
   subst hr
   have hD4:=(I4.pin (s.heap.objs.size,{ cls:=.type "list",data:=.seq its.toArray n }) (by simp)).1
   have J4:Inv X pins σ H' s4:=I.call' (ch:=fp) I4.os I4.base I4.hok I4.bare λb hb=>⟨(f2 b hb).2.2.2.1,(f2 b hb).2.1,(f2 b hb).2.2.2.2.1,(f2 b hb).2.2.2.2.2⟩
   obtain⟨m4,hn4,_⟩:=I4.loc
   have hC4:H' H2.objs.size=none:=I4.free
   exact hRR _ _ ys H' s4 m4 hn4 (I.own hCle (by rw[B8 (Ne.symm hDC)];exact hC4)) (J4.track (I.own (F9 _) nD') hD4 rv hz) nD' q
  ·refine thn (T.item (W7 X scope N' a) rfl rfl rfl hc i _ s' _ H' E' Ip (fpok _ H' fr' hpl) st' go) λr s5 zz234=>el2 zz234 λu hr h5=>?_
   subst hr
   refine thn h5 λ_ s6 zz235=>zz235.elim λxv zz236=>zz236.elim λH6 zz237=>zz237.elim λI6 zz238=>zz238.elim λr6 zz239=>zz239.elim λy6 zz240=>zz240.elim λst6 fr6=>?_
   have I6':=I6.pinned (fpok _ H6 fr6 hpl) (T.obj _ _ st6)
   refine wpAny_assign_Name (A5u I6' S.nd S.at_ (.inl (lookup_relabel_local S.loc)) r6 (λs7 I7=>?_) (.inr (lookup_relabel_local S.loc)))
   have wk:∀(i:Nat) v,(V9 N'.length j σ)[i]?=some (some v)->((V9 N'.length j σ).set j (some xv))[i]?=some (some v):=λi v e=>by
    rw[A1e (Ne.symm (B83 e).1)];exact e
   refine wpAny_mono (ht a _ s7 _ H6 _ I7 (step xv H6 y6 a)) (λok s8 zz241=>el2 zz241 λH8 I8 q8=>?_) λ_ _ z=>z.elim
   have tnk:∀{H9:Hp} {s9:Shared} {σ9:St},Inv (W7 X scope N' a) ([(s.heap.objs.size,{ cls:=.type "list",data:=.seq its.toArray n })]++A85 fp s6.heap) σ9 H9 s9->tn (i + 1) s9.heap/\(∀b∈fp,H9 b=none)/\s9.heap.get? s.heap.objs.size=some { cls:=.type "list",data:=.seq its.toArray n }/\H9 s.heap.objs.size=none:=λ{H9 s9 σ9} I9=>by
    refine⟨T.keep _ _ _ st6 λb hb o e=>(I9.pin (b,o) (A0h _ (A0h _ (B0u hb e)))).1,λb hb=>?_,?_⟩
    ·obtain⟨o,e,d⟩:=T.obj _ _ st6 b hb
     exact (I9.pin (b,o) (A0h _ (A0h _ (B0u hb e)))).2.1
    ·have z:=I9.pin (s.heap.objs.size,{ cls:=.type "list",data:=.seq its.toArray n }) (A0h _ (C4d _ (by simp)))
     exact⟨z.1,z.2.1⟩
   cases ok with
   | false=>
    obtain⟨m',hm,w8⟩:∃m',m' < k/\W (i + 1) m' ys H8:=hN _ _ (by simpa using q8)
    obtain⟨t1,t2,t3,t4⟩:=tnk I8
    exact⟨m',hm,i + 1,ys,its,n,H8,(I8.pins_of (pins':=[]) λp hp=>nomatch hp).weak (by rw[Y6]) wk,t3,rv,t4,t1,t2,w8⟩
   | true=>
    have q8':=q8
    simp only[if_true] at q8'
    refine wpAny_mono (he a _ s8 _ H8 _ I8 q8') (λu9 s9 zz242=>el5 zz242 λv9 H9 I9 r9 q9=>?_) λ_ _ z=>z.elim
    obtain⟨m',hm,w9⟩:=hN _ _ q9
    obtain⟨t1,t2,t3,t4⟩:=tnk I9
    have hl:=rv.length
    refine append_at (hsz:=by show its.toArray.size<=sizeLine;rw[O8,<-hl];exact hz) t3 λh' hs' hD'=>?_
    have J9:=((I9.pins_of (pins':=[]) λp hp=>nomatch hp).weak (σ':=V9 N'.length j σ) (by rw[Y6]) wk).own_turn (C:=s.heap.objs.size) ⟨t4,ownD.ne,ownD.ab,ownD.ce,ownD.pi⟩ hs'
    refine⟨m',hm,i + 1,ys++[v9],its++[u9],n + 1,H9,J9,?_,D5.append rv (.cons r9 .nil),t4,T.keep _ _ _ t1 λb hb o e=>(hs'.2 b λz=>nDfp (z▸hb)).trans e,t2,w9⟩
    rw[List.push_toArray] at hD'
    exact hD'
 exact codeAny_compStart_list (loop _ rfl) (T.self _ 0 _ _ _ (T.keep _ _ _ st λb hb o e=>old b o e) (loop _ rfl))
theorem W8 {elt iter:Expr} {x:Str} {px pos:Pos} {ifs:List Expr} {scope:Scope} {N':List Str} {j:Nat} {wi:TI} {tt:CA->TT} {te:CA->TE} {osc:Scope} {N:List Str}
  (S:Q0 N N' osc scope j x) (hc:X.calm=true) (hi:PI X (.Name x px) iter wi) (ht:∀a:CA,PTs (W7 X scope N' a) ifs (tt a)) (he:∀a:CA,PE (W7 X scope N' a) elt (te a))
  (ho:X.env.scope=osc:=by rfl) (hN:X.N=N:=by rfl) (hs:∀x,foldedSetIterable iter X.env x=pure x:=by intro _;rfl):PE X (.ListComp elt [⟨.Name x px,iter,ifs,0⟩] scope pos) (A52 wi N'.length j tt te):=by
 subst ho hN
 intro pins s σ H Q I h
 rw[eval_ListComp]
 have hcells:∀y∈scope.names,y.2=.free->∃c,X.env.cells.lookup y.1=some c:=λy hy e=>I.ok.has y.1 (.inl (S.free y hy e))
 refine wpAny_comprehension_free (use:=none) rfl hs (B8z hcells) S.kind S.names (wpAny_mono (hi pins s σ H _ I h) (λxv s₁ h₁=>wpAny_mono h₁ (λitv s₂ h₂=>?_) λ_ _ e=>e) λ_ _ e=>e)
 obtain⟨it,fp,tn,J,H2,rfl,I2,T,st2,f2,q2⟩:=h₂
 refine B84 (RR:=λacc C=>compPost (model X.prog X.w) X.A X.xe none (EP X pins σ Q) acc C) S hc ht he I2 T st2 f2 q2 ?_
 intro D C ys H' s' m hn own I' hD q
 refine⟨m,hn,λh' hs'=>⟨.ref D,_,I'.own_turn own hs',rfl,q D hD⟩⟩
theorem B03 {elt iter:Expr} {x y:Str} {px pos py spos:Pos} {ifs:List Expr} {scope:Scope} {N':List Str} {j i:Nat} {wi:TI} {tt:CA->TT} {te:CA->TE} {osc:Scope} {N:List Str}
  (nd:X.N.Nodup) (hi':X.N[i]?=some y) (hy:Loc X.env.scope y)
  (S:Q0 N N' osc scope j x) (hc:X.calm=true) (hi:PI X (.Name x px) iter wi) (ht:∀a:CA,PTs (W7 X scope N' a) ifs (tt a)) (he:∀a:CA,PE (W7 X scope N' a) elt (te a))
  (hsw:swapsWith (.ListComp elt [⟨.Name x px,iter,ifs,0⟩] scope pos) (some (.Name y py)) spos.line X.env=pure true:=by rfl)
  (hf:X.fn y=true\/X.env.scope.names.lookup y=some .local:=by first | exact .inl rfl | exact .inr rfl | assumption)
  (ho:X.env.scope=osc:=by rfl) (hN:X.N=N:=by rfl) (hs:∀x,foldedSetIterable iter X.env x=pure x:=by intro _;rfl) :
  PS X (.Assign [.Name y py] (.ListComp elt [⟨.Name x px,iter,ifs,0⟩] scope pos) spos) (λD σ H=>A52 wi N'.length j tt te σ H λv H1=>D.nx (σ.set i (some v)) H1):=by
 subst ho hN
 intro pins s σ H D I h
 have hcells:∀y∈scope.names,y.2=.free->∃c,X.env.cells.lookup y.1=some c:=λy hy e=>I.ok.has y.1 (.inl (S.free y hy e))
 rw[exec_Assign_Name_used _ _ _ _ hsw]
 refine wpAny_bind (wpAny_standAt (wpAny_bind ?_))
 show wpAny _ X.A (do let _ <-comprehension (.ListComp elt [⟨.Name x px,iter,ifs,0⟩] scope pos) scope X.env _ (newList []) false (eval iter X.env) (some (assign (.Name y py) X.env))) _ _ s
 refine wpAny_bind (wpAny_mono (wpAny_comprehension_free (use:=some (assign (.Name y py) X.env)) (Q:=λ_ s'=>SP X pins D .next s') rfl hs (B8z hcells) S.kind S.names
  (wpAny_mono (hi pins s σ H _ I h) (λxv s₁ h₁=>wpAny_mono h₁ (λitv s₂ h₂=>?_) λ_ _ e=>e) λ_ _ e=>e)) (λ_ s' hq=>wpAny_pure (wpAny_pure hq)) λ_ _ e=>e)
 obtain⟨it,fp,tn,J,H2,rfl,I2,T,st2,f2,q2⟩:=h₂
 refine B84 (RR:=λacc C=>compPost (model X.prog X.w) X.A X.xe (some (assign (.Name y py) X.env)) (λ_ s'=>SP X pins D .next s') acc C) S hc ht he I2 T st2 f2 q2 ?_
 intro Da C ys H' s' m hn own I' hD q
 show wpAny _ X.A (assign (.Name y py) X.env (.ref Da)) _ _ _
 refine wpAny_assign_Name (B7n (v:=V.ref Da) I' nd hi' hy rfl (λs2 I2' hsb=>?_) hf)
 obtain⟨b,hs2,hb⟩:=hsb
 have hCb:C≠b:=by
  rcases hb with rfl | hb
  ·exact own.ne
  ·exact λz=>own.ce _ _ hb z.symm
 refine⟨m,hn.sameBut hs2 hCb,λh' hs'=>⟨_,_,I2'.own_turn own hs',q Da hD⟩⟩
end
theorem B3v {lo:Int} {n nn j:Nat} {σ:St} {tt:CA->TT} {te:CA->TE} {H1:Hp} {Q:List V->Hp->Prop} (Pv:Nat->List V->Hp->Prop) (hz:n < sizeLine) (h0:Pv 0 [] H1) (hl:∀i ys H,i<=n->Pv i ys H->ys.length<=i)
  (hs:∀i ys H,i < n->Pv i ys H->∀a:CA,tt a ((V9 nn j σ).set j (some (.int (lo + i)))) H λb H2=>if b=true then te a ((V9 nn j σ).set j (some (.int (lo + i)))) H2 λy H3=>Pv (i + 1) (ys++[y]) H3 else Pv (i + 1) ys H2)
  (hd:∀ys H,Pv n ys H->Q ys H):B02 σ nn j tt te (Itr lo n) H1 Q:=by
 refine⟨λi m ys H=>m=n - i/\i<=n/\Pv i ys H,⟨n,by simp,O7 _,h0⟩,?_⟩
 rintro i m ys H ⟨rfl,hi,p⟩
 have hy:=hl i ys H hi p
 refine⟨by lia,?_⟩
 by_cases hlt:i < n
 ·refine .inr ⟨hlt,Pv (i + 1),λys' H' p'=>⟨n - (i + 1),by lia,rfl,hlt,p'⟩,λx H' y=>?_⟩
  obtain⟨e,e2⟩:=y
  subst e e2
  exact hs i ys _ hlt p
 ·have e:i=n:=by lia
  subst e
  exact .inl ⟨F9 _,hd ys H p⟩
theorem A53 {K:A9} {a0:Addr} {xs:List V} {nn j:Nat} {σ:St} {tt:CA->TT} {te:CA->TE} {H1:Hp} {Q:List V->Hp->Prop} (Pv:Nat->List V->Hp->Prop) (hz:xs.length < sizeLine) (h0:Pv 0 [] H1)
  (hl:∀i ys H,i<=xs.length->Pv i ys H->ys.length<=i/\SqL K H a0 xs)
  (hs:∀i x ys H,xs[i]?=some x->Pv i ys H->∀a:CA,tt a ((V9 nn j σ).set j (some x)) H λb H2=>if b=true then te a ((V9 nn j σ).set j (some x)) H2 λy H3=>Pv (i + 1) (ys++[y]) H3 else Pv (i + 1) ys H2)
  (hd:∀ys H,Pv xs.length ys H->Q ys H):B02 σ nn j tt te (Itl K a0) H1 Q:=by
 refine⟨λi m ys H=>m=xs.length - i/\i<=xs.length/\Pv i ys H,⟨xs.length,by simp,O7 _,h0⟩,?_⟩
 rintro i m ys H ⟨rfl,hi,p⟩
 obtain⟨hy,q⟩:=hl i ys H hi p
 refine⟨by lia,?_⟩
 by_cases hlt:i < xs.length
 ·refine .inr ⟨⟨xs,xs[i],q,by simp [hlt]⟩,Pv (i + 1),λys' H' p'=>⟨xs.length - (i + 1),by lia,rfl,hlt,p'⟩,λx H' y=>?_⟩
  obtain⟨e,y⟩:=y
  subst e
  exact hs i x ys _ (y xs q) p
 ·have e:i=xs.length:=by lia
  subst e
  exact .inl ⟨⟨xs,q,F9 _⟩,hd ys H p⟩
section
variable {X:Cx}
def B3w (_ j:Int):Prop:=0 < j/\j < 100000000000000000000000000000000000000000000000000000000000000
theorem B3x:OpR X (binaryOp .FloorDiv) (rI B3w λi j=>.int (i / j)):=opI λi j _ _ _ _ _ hc q=>by
 have h1:(0:Int) < j:=hc.1
 have h2:j < 2 ^ 250:=Int.lt_trans hc.2 (DD)
 refine floordiv_int (by lia) (by rw[Int.fdiv_eq_ediv_of_nonneg i (by lia)];exact q) (.inl (PyProof.noPylong_of_log2 ?_))
 have h3:j.natAbs < 2 ^ 250:=by
  have:((j.natAbs:Nat):Int) < ((2 ^ 250:Nat):Int):=by
   rw[Int.natAbs_of_nonneg (Int.le_of_lt h1)]
   exact h2
  exact Int.ofNat_lt.mp this
 have h4:j.natAbs≠0:=by lia
 exact Nat.lt_trans ((Nat.log2_lt h4).mpr h3) (DD)
theorem B85:∀{bs:List Bool} {us:List Value},D5 (bs.map V.bl) us->LSm.BoolsAre us bs
 | [],_,.nil=>.nil
 | b::bs,_,.cons r t=>by
  cases (show _=Value.bool b from r)
  exact .cons b (B85 t)
theorem B86 (hc:X.calm=true):Y9 X (.builtin "all") (λxs H Q=>∃(p:Addr) (bs:List Bool),xs=[.ref p]/\SqL X.K H p (bs.map V.bl)/\Q (.bl (bs.all id)) H):=by
 intro pins s σ H xs us Q I r h
 obtain⟨p,bs,rfl,hq,q⟩:=h
 obtain⟨u,rfl,rx⟩:=Z2 r
 cases rx
 obtain⟨its,rv,pl,hz⟩:=I.list hq
 have hb:=B85 rv
 have hl:=pl.isList
 have hlt:p < s.heap.objs.size:=by obtain⟨_,e,_⟩:=hl;exact G9 e
 refine call_all_walk (wpAny_pyIter_list hl ?_)
 refine⟨s.heap.objs.size,[s.heap.objs.size,p],[s.heap.objs.size],its.toArray.size,_,_,λi=>(bs[i]?).getD true,rfl,Walks.list (A:=X.A.in1) (I.ok.hd hc) _ p (Q1 hlt) its.toArray,
  ⟨⟨_,T9 _ rfl,rfl,rfl⟩,hl.push _⟩,λi v s' Q' E' hP hQ=>?_,λh' tk hk=>?_⟩
 ·obtain⟨b,e,rfl⟩:=hb.get i v (by simpa using hP)
  simp only[e,Option.getD_some] at hQ
  exact wpAny_truthy_bool hQ
 ·have e:((T8 its.toArray.size).all λi=>(bs[i]?).getD true)=bs.all id:=by
   rw[O8,hb.length];exact LSm.range_all bs
  rw[e]
  exact⟨.bl _,H,I.kept (t':=tk) (LSm.kept_iter hk),rfl,q⟩
theorem C6w:Y9 X (.builtin "isinstance") (λxs H Q=>∃x cv c t b,xs=[x,cv]/\E1 cv c/\b8 X.K H x t/\p6 X.K t c=some b/\Q (.bl b) H):=by
 intro pins s σ H xs us Q I r h
 obtain⟨x,cv,c,t,b,rfl,rc,ty,k,q⟩:=h
 obtain⟨u,w',rfl,r1,r2⟩:=B0x r
 have e:w'=c:=by
  cases cv with
  | non=>exact r2.trans rc.symm
  | bl y=>exact r2.trans rc.symm
  | ref y=>exact r2.trans rc.symm
  | ty y=>exact r2.trans rc.symm
  | int y=>
   obtain⟨t1,rfl⟩:=rc
   exfalso
   unfold p6 A5p at k
   cases ty <;> simp at k
  | str y=>
   obtain⟨t1,rfl⟩:=rc
   exfalso
   unfold p6 A5p at k
   cases ty <;> simp at k
  | byt y=>
   obtain⟨t1,rfl⟩:=rc
   exfalso
   unfold p6 A5p at k
   cases ty <;> simp at k
  | flt y=>
   obtain⟨t1,rfl⟩:=rc
   exfalso
   unfold p6 A5p at k
   cases ty <;> simp at k
 subst e
 exact B8b I r1 ty k λtk=>⟨.bl b,H,I.tok tk,rfl,q⟩
end
mutual
inductive i7 (K:A9) (H:Hp):V->PyData->Prop
 | non:i7 K H .non .none
 | bl (b):i7 K H (.bl b) (.bool b)
 | int (i):i7 K H (.int i) (.int i)
 | str (x):i7 K H (.str x) (.str x)
 | lst {a xs ds}:SqL K H a xs->v8 K H xs ds->i7 K H (.ref a) (.list ds)
 | tup {a xs ds}:SqT K H a xs->v8 K H xs ds->i7 K H (.ref a) (.tuple ds)
inductive v8 (K:A9) (H:Hp):List V->List PyData->Prop
 | nil:v8 K H [] []
 | cons {x xs d ds}:i7 K H x d->v8 K H xs ds->v8 K H (x::xs) (d::ds)
end
section
variable {X:Cx} {pins:List (Addr×Obj)} {σ:St} {H:Hp} {s:Shared}
mutual
theorem i7.reads (I:Inv X pins σ H s):∀{x:V} {d:PyData} {u:Value},i7 X.K H x d->E1 x u->∃as,Reads s.heap u d as
 | _,_,_,.non,r=>by cases r;exact⟨_,.none⟩
 | _,_,_,.bl b,r=>by cases r;exact⟨_,.bool b⟩
 | _,_,_,.int i,r=>by obtain⟨t,rfl⟩:=r;exact⟨_,.int i t⟩
 | _,_,_,.str x,r=>by obtain⟨t,rfl⟩:=r;exact⟨_,.str x t⟩
 | _,_,_,.lst hq hs,r=>by
  cases r
  obtain⟨its,rv,pl,hz⟩:=I.list hq
  obtain⟨as,ra⟩:=v8.reads I hs rv
  obtain⟨o,e,c,n,d⟩:=pl.isList
  exact⟨_,.list e c d (by simpa using ra)⟩
 | _,_,_,.tup hq hs,r=>by
  cases r
  obtain⟨its,rv,pl,hz⟩:=I.tuple hq
  obtain⟨as,ra⟩:=v8.reads I hs rv
  obtain⟨o,e,c,n,d⟩:=pl
  exact⟨_,.tuple e c d (by simpa using ra)⟩
theorem v8.reads (I:Inv X pins σ H s):∀{xs:List V} {ds:List PyData} {us:List Value},v8 X.K H xs ds->D5 xs us->∃as,ReadsAll s.heap us ds as
 | _,_,_,.nil,.nil=>⟨_,.nil⟩
 | _,_,_,.cons h t,.cons r rs=>by
  obtain⟨as,ra⟩:=i7.reads I h r
  obtain⟨bs,rb⟩:=v8.reads I t rs
  exact⟨_,.cons ra rb⟩
end
end
section
variable {X:Cx}
def B04 (K:A9) (neg:Bool):R2:=λx y H Q=>∃da db,i7 K H x da/\i7 K H y db/\da.canLay0=true/\db.canLay0=true/\min da.depth db.depth<=64/\Q (.bl (if neg then !PyData.eqv da db else PyData.eqv da db)) H
theorem A2b (hu:X.A.units + 64 < cLine):OpR X (compareOp .Eq) (B04 X.K false):=by
 intro pins s σ H x y v u Q I rx ry h
 obtain⟨da,db,d1,d2,c1,c2,hd,q⟩:=h
 obtain⟨as,ra⟩:=d1.reads I rx
 obtain⟨bs,rb⟩:=d2.reads I ry
 exact SeqAt.compareEq_reads ra rb c1 c2 (by lia) ⟨.bl _,H,I,rfl,q⟩
theorem i8 (hu:X.A.units + 64 < cLine):OpR X (compareOp .NotEq) (B04 X.K true):=by
 intro pins s σ H x y v u Q I rx ry h
 obtain⟨da,db,d1,d2,c1,c2,hd,q⟩:=h
 obtain⟨as,ra⟩:=d1.reads I rx
 obtain⟨bs,rb⟩:=d2.reads I ry
 exact SeqAt.compareNe_reads ra rb c1 c2 (by lia) ⟨.bl _,H,I,rfl,q⟩
theorem B87:B7v X (λo i H Q=>∃p xs j v,o=.ref p/\i=.int j/\0<=j/\SqL X.K H p xs/\atI xs j=some v/\Q v H):=by
 intro pins s σ H o i ov iv Q I r1 r2 h
 obtain⟨p,xs,j,v,rfl,rfl,h0,hq,he,q⟩:=h
 cases r1
 obtain⟨t,rfl⟩:=r2
 obtain⟨its,r,pl,hz⟩:=I.list hq
 obtain⟨k,h1,h2,h3,h4,h5⟩:=B0z he
 obtain⟨w,ew,rw'⟩:=r.get h2
 have hl:=r.length
 have hn:=A5z
 have hj:j.toNat=k:=by
  rw[seqIndex_of h0 h5] at h1
  exact Option.some.inj h1
 exact wpAny_getItem_list pl.isList h0 (by lia) (by rw[hj];simpa using ew) ⟨v,H,I,rw',q⟩
theorem M5 {st:Stmt} {t:TS} (h:PS X st t):PS X st (λD σ H=>∃M:St->Hp->Prop,t { D with nx:=M } σ H/\∀σ' H',M σ' H'->D.nx σ' H'):=by
 intro pins s σ H D I q
 obtain⟨M,q1,q2⟩:=q
 refine thn (h pins s σ H _ I q1) λf s' z=>?_
 cases f with
 | next=>obtain⟨σ',H',I',m⟩:=z;exact⟨σ',H',I',q2 _ _ m⟩
 | brk=>exact z
 | cont=>exact z
 | ret v=>exact z
end
theorem V0:bootBuiltins "list" = some (.type "list"):=by decide +kernel
theorem B88:bootBuiltins "abs" = some (.builtin "abs"):=by decide +kernel
theorem A0w:bootBuiltins "min" = some (.builtin "min"):=by decide +kernel
theorem A2c:bootBuiltins "max" = some (.builtin "max"):=by decide +kernel
theorem A0x:bootBuiltins "isinstance" = some (.builtin "isinstance"):=by decide +kernel
theorem B3y:bootBuiltins "int" = some (.type "int"):=by decide +kernel
theorem B89:bootBuiltins "bool" = some (.type "bool"):=by decide +kernel
theorem B9a:bootBuiltins "all" = some (.builtin "all"):=by decide +kernel
theorem B3z:bootBuiltins "tuple" = some (.type "tuple"):=by decide +kernel
theorem A54:bootBuiltins "sorted" = some (.builtin "sorted"):=by decide +kernel
theorem T3:bootBuiltins "len" = some (.builtin "len"):=by decide +kernel
theorem C6x:bootBuiltins "dict" = some (.type "dict"):=by decide +kernel
theorem C6y:bootBuiltins "enumerate" = some (.type "enumerate"):=by decide +kernel
section
variable {es:List Expr} {env:Env}
theorem E6 {c j p}:starEach (.Constant c j p::es) env=(false,eval (.Constant c j p) env)::starEach es env:=by rfl
theorem A0 {c p}:starEach (.Name c p::es) env=(false,eval (.Name c p) env)::starEach es env:=by rfl
theorem F4 {a o b p}:starEach (.BinOp a o b p::es) env=(false,eval (.BinOp a o b p) env)::starEach es env:=by rfl
theorem B9b {o b p}:starEach (.UnaryOp o b p::es) env=(false,eval (.UnaryOp o b p) env)::starEach es env:=by rfl
theorem B9c {a o b p}:starEach (.Compare a o b p::es) env=(false,eval (.Compare a o b p) env)::starEach es env:=by rfl
theorem D4 {a o b p}:starEach (.Call a o b p::es) env=(false,eval (.Call a o b p) env)::starEach es env:=by rfl
theorem A6 {a o p}:starEach (.Subscript a o p::es) env=(false,eval (.Subscript a o p) env)::starEach es env:=by rfl
theorem M3 {a o p}:starEach (.Attribute a o p::es) env=(false,eval (.Attribute a o p) env)::starEach es env:=by rfl
theorem l6 {a p}:starEach (.List a p::es) env=(false,eval (.List a p) env)::starEach es env:=by rfl
theorem l7 {a k p}:starEach (.Tuple a k p::es) env=(false,eval (.Tuple a k p) env)::starEach es env:=by rfl
theorem C6z {a k p}:starEach (.Dict a k p::es) env=(false,eval (.Dict a k p) env)::starEach es env:=by rfl
theorem A0y {a b c p}:starEach (.ListComp a b c p::es) env=(false,eval (.ListComp a b c p) env)::starEach es env:=by rfl
theorem A3 {pos:Pos}:(backTo pos (starEach [] env)).any (·.1)=false:=by rfl
theorem A4 {pos:Pos} {e:Expr} (hs:starEach (e::es) env=(false,eval e env)::starEach es env) (h:(backTo pos (starEach es env)).any (·.1)=false):(backTo pos (starEach (e::es) env)).any (·.1)=false:=by
 rw[hs]
 exact h
end
section
variable {X:Cx} {pos:Pos}
def B9d (i j k:Nat) (ta:TA):TS:=λD σ H=>ta σ H λvs H1=>∃v w z,vs=[v,w,z]/\D.nx (((σ.set i (some v)).set j (some w)).set k (some z)) H1
theorem C60 {i0 i1 i2:Nat} {x y z:Str} {a b c:Expr} {ta:TA} {px py pz pt:Pos} {kt k2 pt2} (hc:X.calm=true) (hN:X.N.Nodup) (hi:X.N[i0]?=some x) (hj:X.N[i1]?=some y) (hk:X.N[i2]?=some z) (hij:i0≠i1) (hik:i0≠i2) (hjk:i1≠i2)
  (hx:X.env.scope.names.lookup x=some .local) (hy:X.env.scope.names.lookup y=some .local) (hz:X.env.scope.names.lookup z=some .local) (ha:PA X [a,b,c] ta)
  (hw:swappedStores [.Tuple [.Name x px,.Name y py,.Name z pz] kt pt] (.Tuple [a,b,c] k2 pt2) X.env=pure (some [x,y,z]))
  (hs:swapsWithSole [.Tuple [.Name x px,.Name y py,.Name z pz] kt pt] (.Tuple [a,b,c] k2 pt2) pos.line X.env=pure false:=by rfl) :
  PS X (.Assign [.Tuple [.Name x px,.Name y py,.Name z pz] kt pt] (.Tuple [a,b,c] k2 pt2) pos) (B9d i0 i1 i2 ta):=by
 intro pins s σ H D I h
 rw[exec_Assign_arm]
 refine wpAny_bind (wpAny_standAt ?_)
 rw[hs]
 refine wpAny_bind (wpAny_pure ?_)
 rw[if_neg (DD)]
 refine wpAny_bind (Tuple_ (thn (ha _ pins s σ H _ I h) λus s1 zz243=>el5 zz243 λvs H1 I1 r1 q1=>?_))
 obtain⟨v,w,t,e1,q1⟩:=q1
 subst e1
 obtain⟨u1,u2,u3,rfl,rv,rw',rt⟩:∃u1 u2 u3,us=[u1,u2,u3]/\E1 v u1/\E1 w u2/\E1 t u3:=by
  cases r1 with
  | cons p q=>
   cases q with
   | cons p' q'=>
    cases q' with
    | cons p'' q''=>
     cases q''
     exact⟨_,_,_,rfl,p,p',p''⟩
 refine wpAny_newObj_type ?_ (by show 3<=sizeLine;decide)
 have I2:Inv X pins σ H1 { s1 with heap:=s1.heap.push { cls:=.type "tuple",data:=.seq [u1,u2,u3].toArray } }:=I1.kept (t':=s1.toks) λb o e=>O0 _ e
 rw[hw]
 refine wpAny_bind (wpAny_pure ?_)
 show wpAny (model X.prog X.w) X.A (do rule "assign.swapped-stores";let items <-unpackItems (.ref s1.heap.objs.size) 3 none;assignInOrder [λv=>bindName X.env z v,λv=>bindName X.env y v,λv=>bindName X.env x v] items.reverse;pure Flow.next) _ _ _
 refine wpAny_bind (wpAny_rule (wpAny_bind (unpackItems_tuple (items:=#[u1,u2,u3]) (I.ok.hd hc) (IsTup.new s1.heap _) λh' hx'=>?_)))
 have I3:=I2.kept (h':=h') (t':=s1.toks) λb o e=>hx' b o (Q1 (G9 e)) e
 show wpAny _ _ (assignInOrder [λv=>bindName X.env z v,λv=>bindName X.env y v,λv=>bindName X.env x v] [u3,u2,u1] >>= λ_=>pure Flow.next) _ _ _
 refine wpAny_bind (assignInOrder_cons (wpAny_bindName (A5u I3 hN hk (.inl hz) rt (λs2 I4=>?_) (.inr hz))))
 refine assignInOrder_cons (wpAny_bindName (A5u I4 hN hj (.inl hy) rw' (λs3 I5=>?_) (.inr hy)))
 refine assignInOrder_cons (wpAny_bindName (A5u I5 hN hi (.inl hx) rv (λs4 I6=>assignInOrder_nil (wpAny_pure ?_)) (.inr hx)))
 have e:((σ.set i2 (some t)).set i1 (some w)).set i0 (some v)=((σ.set i0 (some v)).set i1 (some w)).set i2 (some t):=by
  rw[List.set_comm _ _ (Ne.symm hij),List.set_comm (l:=σ) _ _ (Ne.symm hik),List.set_comm _ _ (Ne.symm hjk)]
 rw[e] at I6
 exact⟨_,H1,I6,q1⟩
end
section
variable {X:Cx}
end
section
variable {X:Cx} {pins:List (Addr×Obj)} {σ:St} {H:Hp} {s:Shared} {h':Heap}
theorem Inv.turned2 {t':Nat} {e it:Addr} (I:Inv X pins σ H s) (k:∀b o,b≠e->b≠it->s.heap.get? b=some o->h'.get? b=some o) (fe:k0 X pins H e) (fi:k0 X pins H it):Inv X pins σ H { s with heap:=h',toks:=t' }:=by
 obtain⟨e0,e1,e2,e3,e4,e5⟩:=fe
 obtain⟨f0,f1,f2,f3,f4,f5⟩:=fi
 have nit:∀b u,H b=some u->b≠it:=λb u e z=>by rw[z,f0] at e;cases e
 have nie:∀b u,H b=some u->b≠e:=λb u q z=>by rw[z,e0] at q;cases q
 have kc:∀b o,b∉[e,it]->s.heap.get? b=some o->h'.get? b=some o:=λb o hc q=>k b o (λz=>hc (by simp [z])) (λz=>hc (by simp [z])) q
 refine I.step (g':=s.gens) (d':=s.drawn) (ch:=[e,it]) (λb hb=>?_) (λb o _ _ hc e _=>kc b o hc e) (λb o _ _ hc e _=>⟨o.slots,kc b o hc e⟩) (λ_ _ _ _ n=>n)
  (λb o hc e=>⟨o,kc b o hc e⟩) (λ_ _ e=>e) (λ_ _ _ e=>e) (λb ps e=>⟨#[],by rw[e];simp⟩) (λm hm=>?_) (λb u q=>?_) I.bare
 ·rcases N3.mp hb with z | z
  ·subst z;exact⟨e3,e1,e4,e5⟩
  ·have z':b=it:=by simpa using z
   subst z'
   exact⟨f3,f1,f4,f5⟩
 ·obtain⟨o,es,ep,ho,r⟩:=hm
  exact⟨o,es,ep,k _ o (Ne.symm e1) (Ne.symm f1) ho,r⟩
 ·refine (I.hok b u q).stay (λc v hc z=>k c v ?_ ?_ z) (λ_ z=>z) λ_ _ z=>z
  ·rcases hc with z | z
   ·rw[z];exact nie b u q
   ·exact nie c _ z
  ·rcases hc with z | z
   ·rw[z];exact nit b u q
   ·exact nit c _ z
end
def Ite (K:A9) (a:Addr):It:=
 ⟨λi H=>∃xs x,SqL K H a xs/\xs[i]?=some x,λi H x H'=>∃p v,x=.ref p/\H p=none/\H'=upd H p (.tup [.int ((i:Nat):Int),v])/\∀xs,SqL K H a xs->xs[i]?=some v,λi H=>∃xs,SqL K H a xs/\xs.length<=i⟩
theorem C61 {P:Program} {w:World} {K:A9} {elts:List Expr} {x1} {tpos:Pos} (a e it:Addr) (hne:e≠it):A5x P w K (.Tuple elts x1 tpos) (Ite K a) [e,it] e (λi h=>(∃old,IsEnum h e it ((i:Nat):Int) old)/\h.IsListIter it a i) where
 mem:=by simp
 obj:=λi h st b hb=>by
  obtain⟨⟨old,h1⟩,h2⟩:=st
  rcases N3.mp hb with z | z
  ·subst z
   exact⟨_,h1,λv z=>by
    have z':Data.fields _=Data.cell v:=z
    cases z'⟩
  ·have z':b=it:=by simpa using z
   subst z'
   obtain⟨o,e,c,d⟩:=h2
   exact⟨o,e,λv z=>by rw[d] at z;cases z⟩
 keep:=λi h h' st k=>by
  obtain⟨⟨old,h1⟩,h2⟩:=st
  exact⟨⟨old,k e (by simp) _ h1⟩,h2.at λo q=>k it (by simp) o q⟩
 item:=by
  intro X hP hw hK hc i pins s σ H E I hf st hg
  subst hP hw hK
  obtain⟨⟨old,st1⟩,st2⟩:=st
  obtain⟨xs,x,hq,hx⟩:=hg
  obtain⟨its,rv,p,hz⟩:=I.list hq
  obtain⟨u,hu,ru⟩:=rv.get hx
  have fe:=hf e (by simp)
  have fi:=hf it (by simp)
  have le:e < s.heap.objs.size:=G9 st1
  have li:it < s.heap.objs.size:=by obtain⟨_,q,_⟩:=id st2;exact G9 q
  refine wpAny_pyNext_enum_item st1 st2 p.isList (x:=u) (by simpa using hu) hne λh' ho hit' hT hsz hk=>?_
  refine⟨_,rfl,wpAny_letOwnedTupleGo_enum ho λh2 he2 hs2=>?_⟩
  replace hs2:Heap.SameBut e h' h2:=hs2
  have hn:H s.heap.objs.size=none:=I.hok.fresh (F9 _)
  have I1:Inv X pins σ (upd H s.heap.objs.size (.tup [.int ((i:Nat):Int),x])) { s with heap:=s.heap.push { cls:=.type "tuple",data:=.seq #[.int i s.toks,u] },toks:=s.toks }:=
   I.laid (λb o q=>O0 _ q) (F9 _) ⟨by show 2<=sizeLine;decide,[.int i s.toks,u],.cons ⟨_,rfl⟩ (.cons ru .nil),⟨_,T9 _ rfl,rfl,_,rfl⟩⟩
  have ge:∀b,b < s.heap.objs.size->k0 X pins H b->k0 X pins (upd H s.heap.objs.size (.tup [.int ((i:Nat):Int),x])) b:=λb hb f=>⟨by rw[B8 (Q1 hb)];exact f.1,f.2⟩
  have I2:=I1.turned2 (h':=h2) (t':=s.toks + 1) (e:=e) (it:=it) (λb o n1 n2 q=>by
   rw[hs2.2 b n1]
   rcases Heap.get?_push_cases q with ⟨z,z2⟩ | q
   ·subst z z2
    exact hT
   ·exact hk b o n1 n2 q) (ge e le fe) (ge it li fi)
  refine⟨.ref s.heap.objs.size,_,I2,rfl,⟨_,x,rfl,hn,rfl,λys hy=>by rw[I.list_inj hy hq];exact hx⟩,⟨⟨u,he2⟩,hit'.at λo q=>(hs2.2 it hne.symm).trans q⟩,λb hb=>?_⟩
  rcases N3.mp hb with z | z
  ·subst z;exact (ge b le fe).1
  ·have z':b=it:=by simpa using z
   subst z'
   exact (ge b li fi).1
 done:=by
  intro X hP hw hK hc i pins s σ H E I hf st hg
  subst hP hw hK
  obtain⟨⟨old,st1⟩,st2⟩:=st
  obtain⟨xs,hq,hx⟩:=hg
  obtain⟨its,rv,p,hz⟩:=I.list hq
  have hl:=rv.length
  exact wpAny_pyNext_enum_end (I.ok.hd hc) st1 st2 p.isList (by simp;lia) λh' eb=>⟨rfl,I.turned2 (t':=s.toks) (λb o n1 n2 q=>eb b o n2 q) (hf e (by simp)) (hf it (by simp))⟩
 self:=λ_ _ _ _ _ st h=>by
  obtain⟨⟨old,st1⟩,_⟩:=st
  exact wpAny_pyIter_enum st1 h
section
variable {X:Cx}
def B9e (K:A9) (ta:TA):TI:=fun σ H R=>ta σ H λvs H1=>∃a,vs=[.ref a]/\(∃xs,SqL K H1 a xs)/\R (Ite K a) H1
theorem B9f {elts:List Expr} {x1} {tpos:Pos} {a:Expr} {ta:TA} {p pos:Pos} (hg:Gl X "enumerate") (hm:X.mg "enumerate" = none) (ha:PA X [a] ta) (hs:starEach [a] X.env=[(false,eval a X.env)]:=by rfl):PI X (.Tuple elts x1 tpos) (.Call (.Name "enumerate" p) [a] [] pos) (B9e X.K ta):=by
 intro pins s σ H R I h
 refine Call_ (A1l I hg hm C6y (PyProof.Rows.callWith_type1 (thn (ha pos pins s σ H _ I h) λus s1 zz244=>el5 zz244 λvs H1 I1 r1 q1=>?_) hs rfl))
 obtain⟨a',e,⟨xs,hq⟩,q⟩:=q1
 subst e
 obtain⟨u,rfl,rx⟩:=Z2 r1
 cases rx
 obtain⟨its,rv,pl,hz⟩:=I1.list hq
 refine call_enumerate_list pl.isList λh' he hit hsz hk=>?_
 refine wpAny_pyIter_enum (s:={ s1 with heap:=h' }) he ?_
 have I2:Inv X pins σ H1 { s1 with heap:=h' }:=I1.kept (t':=s1.toks) hk
 refine⟨_,[s1.heap.objs.size + 1,s1.heap.objs.size],_,_,H1,rfl,I2,C61 a' _ _ (A5j (B7d _)),⟨⟨.none,he⟩,hit⟩,λb hb=>?_,q⟩
 rcases N3.mp hb with z | z
 ·subst z;exact I1.fpOk (A1g _) (I1.hok.fresh (A1g _))
 ·have z':b=s1.heap.objs.size:=by simpa using z
  subst z'
  exact I1.fpOk (F9 _) (I1.hok.fresh (F9 _))
theorem A1n {st:Stmt}:PS X st (λ_ _ _=>False):=λ_ _ _ _ _ _ h=>h.elim
end
section
variable {X:Cx} {pins:List (Addr×Obj)} {σ:St} {H:Hp} {s:Shared}
end
section
variable {X:Cx}
def B9g (K:A9):V->List V->Hp->VK->Prop:=λx vs H Q=>∃(l:Addr) (ns:List Int) (k:Int),x=.ref l/\vs=[.int k]/\SqL K H l (ns.map V.int)/\k∈ns/\ns.length<=100000/\Q (.int (ns.idxOf k:Nat)) H
theorem B9h:MtM X "list.index" (B9g X.K):=by
 intro pins s σ H x vs v us Q I rx rv h
 obtain⟨l,ns,k,rfl,rfl,hq,hk,hn,q⟩:=h
 cases rx
 obtain⟨u,rfl,t,rfl⟩:=Z2 rv
 obtain⟨its,r,pl,hz⟩:=I.list hq
 have hi:=B8l r
 obtain⟨⟨cls,dd,data,sl⟩,ho,hc,n,hd⟩:=pl.isList
 simp only at hc hd
 subst hc hd
 have hlen:=hi.length
 have hj:ns.idxOf k < ns.length:=B20.mpr hk
 refine call_meets C4h ⟨_,ho,rfl⟩ PySem.F.entry_list_index (PySem.F.args_list_index_2 _ _)
  (SeqAt.list_indexAt l its.toArray n dd sl (.int k t) (isInt k) (ns.idxOf k) (by simpa [hlen] using hj) (by lia) ?_ ?_) ⟨ho,λy hy=>(eq_isInt k t hi y (by simpa using hy)).at _ _,⟨.int _,H,I.tok _,⟨_,rfl⟩,q⟩⟩
 ·show isInt k its[ns.idxOf k]=true
  rw[isInt_at k hi _ (by lia) hj]
  simpa using C4i hj
 ·intro j hjs hlt
  show isInt k its[j]=false
  rw[isInt_at k hi j (by simpa using hjs) (by lia)]
  exact ne_of_lt_idxOf hlt _
end
inductive A89 (K:A9) (H:Hp):V->Value->Prop where
 | o {x:V} {t:Value}:b8 K H x t->A89 K H x t
 | f {a:Addr} {o:Obj} {kvs:List (List Key×V)}:H a=some (.frz o (.dT kvs))->A89 K H (.ref a) (.type "dict")
section
variable {X:Cx}
theorem A1o:Y9 X (.builtin "isinstance") (λxs H Q=>∃x cv c t b,xs=[x,cv]/\E1 cv c/\A89 X.K H x t/\p6 X.K t c=some b/\Q (.bl b) H):=by
 intro pins s σ H xs us Q I r h
 obtain⟨x,cv,c,t,b,rfl,rc,ty,k,q⟩:=h
 obtain⟨u,w',rfl,r1,r2⟩:=B0x r
 have e:w'=c:=by
  cases cv with
  | non=>exact r2.trans rc.symm
  | bl y=>exact r2.trans rc.symm
  | ref y=>exact r2.trans rc.symm
  | ty y=>exact r2.trans rc.symm
  | int y=>
   obtain⟨t1,rfl⟩:=rc
   exfalso
   unfold p6 A5p at k
   cases ty with
   | o ty=>cases ty <;> simp at k
   | f e=>simp at k
  | str y=>
   obtain⟨t1,rfl⟩:=rc
   exfalso
   unfold p6 A5p at k
   cases ty with
   | o ty=>cases ty <;> simp at k
   | f e=>simp at k
  | byt y=>
   obtain⟨t1,rfl⟩:=rc
   exfalso
   unfold p6 A5p at k
   cases ty with
   | o ty=>cases ty <;> simp at k
   | f e=>simp at k
  | flt y=>
   obtain⟨t1,rfl⟩:=rc
   exfalso
   unfold p6 A5p at k
   cases ty with
   | o ty=>cases ty <;> simp at k
   | f e=>simp at k
 subst e
 cases ty with
 | o ty=>exact B8b I r1 ty k λtk=>⟨.bl b,H,I.tok tk,rfl,q⟩
 | @f a o kvs ea=>
  cases (show u=Value.ref a from r1)
  obtain⟨_,_,_,xs,_,o',es,ep,h1,h2,_⟩:=(show N5 X.prog X.w H s.heap a (.frz o (.dT kvs)) from I.hok a _ ea)
  exact A0i PySem.W.kitx_dict I.kIn ⟨o',h1,h2.1⟩ k (λz=>nomatch z) λtk=>⟨.bl b,H,I.tok tk,rfl,q⟩
theorem D5.rev:∀{xs:List V} {us:List Value},D5 xs us->D5 xs.reverse us.reverse
 | _,_,.nil=>.nil
 | _::xs,_::us,.cons r t=>by
  rw[A8u,A8u]
  exact (D5.rev t).append (.cons r .nil)
end
theorem C62:typeLookup (.type "list_reverseiterator") "__len__" = pure none:=by
 rw[typeLookup_type,builtinLookup_eq_fast];kernel_rfl
theorem C63:typeLookup (.type "list_reverseiterator") "__length_hint__" = pure (some (.builtin "list_reverseiterator.__length_hint__")):=by
 rw[typeLookup_type,builtinLookup_eq_fast];kernel_rfl
section
variable {prog:Program} {w:World} {A:Around} {E:Value->Shared->Prop} {s:Shared}
theorem C64 {r l:Addr} {i:Int} {Q:Bool->Shared->Prop} (hr:s.heap.IsRevIter r l i) (h:∀tk,Q false { s with toks:=tk }):wpAny (model prog w) A (Builtin.List.listLengthHint (.ref r)) Q E s:=by
 have hT:=hr.typeIs
 unfold Builtin.List.listLengthHint
 refine wpAny_bind (wpAny_specialOf hT C62 ?_)
 show wpAny _ A (specialOf (Value.ref r) (Str.ofString "__length_hint__") >>= _) _ _ _
 refine wpAny_bind (wpAny_specialOf hT C63 ?_)
 generalize hid:("list_reverseiterator.__length_hint__" : String)=id0
 wp_delta
 rw[show splitId id0=some ("list_reverseiterator", "__length_hint__") from by subst hid;decide +kernel]
 subst hid
 refine wpAny_bind (wpAny_isInstance (b:=true) hT (by rw[isSubtype_type];kernel_rfl) ?_)
 exact wpAny_pure (h s.toks)
theorem C65 {r l:Addr} {items:Array Value} {Q:Value->Shared->Prop} (hh:A.handled=none) (hr:s.heap.IsRevIter r l ((items.size:Int) - 1)) (hl:s.heap.IsList l items) (hne:l≠r) (hz:items.size<=sizeLine)
  (hQ:∀(h':Heap) (tk:Nat) (acc:Array Value) (c:Nat),(∀b o,b≠r->s.heap.get? b=some o->h'.get? b=some o)->h'.get? s.heap.objs.size=some { cls:=.type "list",dict:=none,data:=.seq acc c,slots:=#[] }->
   ItemsOf (λi v=>items[items.size - 1 - i]?=some v) acc items.size->Q (.ref s.heap.objs.size) { s with heap:=h',toks:=tk }):wpAny (model prog w) A (call (.type "list") [.ref r]) Q E s:=by
 have rlt:r < s.heap.objs.size:=by obtain⟨_,q,_⟩:=hr;exact G9 q
 have llt:l < s.heap.objs.size:=by obtain⟨_,q,_⟩:=hl;exact G9 q
 refine callType_codes (Q₁:=λobj t=>obj=.ref s.heap.objs.size/\t={ s with heap:=s.heap.push { cls:=.type "list",data:=.seq #[] } }) F.called_list (F.typeCall_list_1 _) F.entry_list_init (code_list_new _ ⟨rfl,rfl⟩) λobj t ht=>?_
 obtain⟨rfl,rfl⟩:=ht
 have hS:(s.heap.push { cls:=.type "list",data:=.seq #[] }).get? s.heap.objs.size=some { cls:=.type "list",data:=.seq #[] }:=T9 _ rfl
 refine⟨⟨_,hS,rfl⟩,F.args_list_init_2 _ _,?_⟩
 generalize hh2:s.heap.push { cls:=.type "list",data:=.seq #[] }=h2 at hS
 have old:∀b o,s.heap.get? b=some o->h2.get? b=some o:=λb o e=>hh2▸O0 _ e
 have hSr:s.heap.objs.size≠r:=A5j rlt
 have hSl:s.heap.objs.size≠l:=A5j llt
 show wpAny _ _ (do let was <-Builtin.List.listItems (.ref s.heap.objs.size);Builtin.List.listUpdate (.ref s.heap.objs.size) (λ_=>#[]);letGo was.toList.reverse;Builtin.List.listExtendWith (.ref s.heap.objs.size) (.ref r) .none) _ _ _
 refine wpAny_bind ?_
 unfold Builtin.List.listItems
 refine wpAny_bind (wpAny_seqItems hS rfl (wpAny_pure ?_))
 show wpAny _ _ (updateSeq s.heap.objs.size (λ_=>#[]) >>= λ_=>letGo (#[]:Array Value).toList.reverse >>= λ_=>Builtin.List.listExtendWith (.ref s.heap.objs.size) (.ref r) .none) _ _ _
 refine wpAny_bind (wpAny_updateSeq hS rfl ?_)
 have hS3:=B7e (A5l (λ_=>(#[]:Array Value))) hS rfl
 refine wpAny_bind (wpAny_letGo ?_)
 have oth:∀b o,b≠s.heap.objs.size->h2.get? b=some o->(h2.update s.heap.objs.size (A5l (λ_=>(#[]:Array Value)))).get? b=some o:=λb o n e=>(A5m _ _ (Ne.symm n)).trans e
 generalize h2.update s.heap.objs.size (A5l (λ_=>(#[]:Array Value)))=h3 at hS3 oth
 have old3:∀b o,s.heap.get? b=some o->h3.get? b=some o:=λb o e=>oth b o (Q1 (G9 e)) (old b o e)
 have hr3:h3.IsRevIter r l ((items.size:Int) - 1):=hr.at λo e=>old3 r o e
 have hl3:h3.IsList l items:=hl.at λo e=>old3 l o e
 have W:=(Walks.listRev (prog:=prog) (w:=w) (A:=A.in1.in1) hh r l hne items).toS
 unfold Builtin.List.listExtendWith
 refine wpAny_bind (wpAny_typeOf (T:= "list_reverseiterator") (s:={ s with heap:=h3 }) hr3.typeIs ?_)
 have z1:Builtin.List.listSameRef (.ref s.heap.objs.size) (.ref r)=false:=by simp [Builtin.List.listSameRef,hSr]
 rw[if_neg (by rw[z1];decide)]
 refine wpAny_bind (wpAny_pyIter_revIter (s:={ s with heap:=h3 }) hr3 ?_)
 refine wpAny_bind (wpAny_holding (C64 (s:={ s with heap:=h3 }) hr3 λtk=>?_))
 rw[if_neg (DD)]
 have nf:s.heap.objs.size∉[r,l]:=λq=>by
  rcases N3.mp q with e | e
  ·exact hSr e
  ·exact hSl (by simpa using e)
 have st0:0<=items.size/\h3.IsRevIter r l ((items.size:Int) - 1 - ((0:Nat):Int))/\h3.IsList l items:=⟨O7 _,by simpa using hr3,hl3⟩
 refine wpAny_pure ⟨plainId_quiet F.plain_extend_loop _,codeAny_extend_loopS W hz _ nf _ items.size 0 _ _ _ rfl (O7 _) st0 hS3 (ItemsOf.nil _) λs' acc c hm hS' hacc=>?_⟩
 rw[Moved.eq_with hm]
 refine⟨rfl,hQ s'.heap s'.toks acc c (λb o n e=>hm.heap b o (λq=>?_) (old3 b o e)) hS' hacc⟩
 rcases N3.mp q with z | z
 ·exact Q1 (G9 e) z
 ·exact n (by simpa using z)
end
theorem B9i:bootBuiltins "reversed" = some (.type "reversed"):=by decide +kernel
theorem C66 {items:Array Value} {acc:Array Value} (h:ItemsOf (λi v=>items[items.size - 1 - i]?=some v) acc items.size):acc.toList=items.toList.reverse:=by
 have hl:acc.size=items.size:=h.1
 apply List.ext_getElem?
 intro i
 by_cases c:i < items.size
 ·have ha:i < acc.size:=by lia
  have e:=h.2 i acc[i] (Array.getElem?_eq_getElem ha)
  rw[List.getElem?_reverse (by rw[A8p];exact c),A8p,B7f,B7f,Array.getElem?_eq_getElem ha]
  exact e.symm
 ·rw[A11 (by rw[A8p];lia),A11 (by rw[A0l,A8p];lia)]
section
variable {X:Cx}
theorem B9j {e:Expr} {te:TA} {p1 p2 p3 p4:Pos} (hg1:Gl X "list") (hm1:X.mg "list" = none) (hg2:Gl X "reversed") (hm2:X.mg "reversed" = none) (hc:X.calm=true) (he:PA X [e] te) (hs:starEach [e] X.env=[(false,eval e X.env)]:=by rfl)
  (hs2:starEach [.Call (.Name "reversed" p2) [e] [] p3] X.env=[(false,eval (.Call (.Name "reversed" p2) [e] [] p3) X.env)]:=by rfl):PE X (.Call (.Name "list" p1) [.Call (.Name "reversed" p2) [e] [] p3] [] p4)
   (fun σ H Q=>te σ H λvs H1=>∃a xs,vs=[.ref a]/\SqL X.K H1 a xs/\∀p,H1 p=none->Q (.ref p) (upd H1 p (.lst xs.reverse))):=by
 intro pins s σ H Q I h
 refine Call_ (A1l I hg1 hm1 V0 (PyProof.Rows.callWith_type1 ?_ hs2 rfl))
 rw[hs2]
 show wpAny _ _ (spliced [(false,eval (.Call (.Name "reversed" p2) [e] [] p3) X.env)]) _ _ s
 refine Calls.spliced_cons ?_
 refine Call_ (A1l I hg2 hm2 B9i (PyProof.Rows.callWith_type1 (thn (he p3 pins s σ H _ I h) λus s1 zz271=>el5 zz271 λvs H1 I1 r1 q1=>?_) hs rfl))
 obtain⟨a,xs,rfl,hq,q⟩:=q1
 obtain⟨u,rfl,rx⟩:=Z2 r1
 cases rx
 obtain⟨its,rv,pl,hz⟩:=I1.list hq
 have alt:a < s1.heap.objs.size:=by obtain⟨_,z,_⟩:=pl.isList;exact G9 z
 refine call_reversed_list pl.isList (Calls.spliced_nil ?_)
 have hr:(s1.heap.push (revObj a ((its.toArray.size:Int) - 1))).IsRevIter s1.heap.objs.size a ((its.toArray.size:Int) - 1):=⟨_,T9 _ rfl,rfl,rfl⟩
 have hl2:(s1.heap.push (revObj a ((its.toArray.size:Int) - 1))).IsList a its.toArray:=pl.isList.push _
 have hsz:(s1.heap.push (revObj a ((its.toArray.size:Int) - 1))).objs.size=s1.heap.objs.size + 1:=B7c ..
 refine C65 (s:={ s1 with heap:=s1.heap.push (revObj a ((its.toArray.size:Int) - 1)) }) (I1.ok.hd hc) hr hl2 (Q1 alt) (by rw[O8,<-rv.length];exact hz) λh' tk acc c hk hS hacc=>?_
 have eq:=C66 hacc
 refine⟨.ref _,_,I1.laid (t':=tk) (o:=.lst xs.reverse) (λb o z=>hk b o (Q1 (G9 z)) (O0 _ z)) (by show s1.heap.objs.size<=_;rw[hsz];exact A1g _) (show N5 X.prog X.w _ h' _ (.lst xs.reverse) from ⟨by rw[A0l];exact hz,acc.toList,c,?_,by simpa using hS⟩),rfl,q _ (I1.hok.fresh (by show s1.heap.objs.size<=_;rw[hsz];exact A1g _))⟩
 rw[eq]
 exact D5.rev rv
def Itv (K:A9) (a:Addr) (n:Nat):It:=
 ⟨λi H=>∃xs x,SqL K H a xs/\xs.length=n/\xs.reverse[i]?=some x,λi H x H'=>H'=H/\∀xs,SqL K H a xs->xs.reverse[i]?=some x,λi _=>n<=i⟩
theorem C67 {P:Program} {w:World} {K:A9} {tg:Expr} (a it:Addr) (n:Nat):A5x P w K tg (Itv K a n) [it] it (λi h=>i<=n/\h.IsRevIter it a ((n:Int) - 1 - ((i:Nat):Int))) where
 mem:=by simp
 obj:=λi h st b hb=>by
  have e:b=it:=by simpa using hb
  subst e
  obtain⟨_,o,e,c,d⟩:=st
  exact⟨o,e,λv z=>by rw[d] at z;cases z⟩
 keep:=λi h h' st k=>⟨st.1,st.2.at λo e=>k it (by simp) o e⟩
 item:=by
  intro X hP hw hK hc i pins s σ H E I hf st hg
  subst hP hw hK
  obtain⟨xs,x,hq,hn,hx⟩:=hg
  obtain⟨its,rv,p,hz⟩:=I.list hq
  have hil:i < n:=by
   have:=(A1d.mp hx).1
   rw[A0l,hn] at this
   exact this
  have hx':xs[n - 1 - i]?=some x:=by rw[List.getElem?_reverse (by lia),hn] at hx;exact hx
  obtain⟨u,hu,ru⟩:=rv.get hx'
  obtain⟨f0,f1,f2,f3,f4,f5⟩:=hf it (by simp)
  have ei:(n:Int) - 1 - ((i:Nat):Int)=((n - 1 - i:Nat):Int):=by lia
  refine wpAny_pyNext_rev_item (i:=n - 1 - i) (by rw[<-ei];exact st.2) p.isList (x:=u) (by simpa using hu) λh' st' sb=>?_
  have I1:Inv X pins σ H { s with heap:=h' }:=I.turned (t':=s.toks) (λb o hb e=>(sb.2 b hb).trans e) f0 f1 f3 f4 f5
  obtain⟨o,e,c,d⟩:=id st'
  have ej:((n - 1 - i:Nat):Int) - 1=(n:Int) - 1 - ((i + 1:Nat):Int):=by lia
  exact⟨u,rfl,B3g (s:={ s with heap:=h' }) e c d DD ⟨x,H,I1,ru,⟨rfl,λys hy=>by rw[I.list_inj hy hq];exact hx⟩,⟨hil,by rw[<-ej];exact st'⟩,λb hb=>(hf b hb).1⟩⟩
 done:=by
  intro X hP hw hK hc i pins s σ H E I hf st hg
  subst hP hw hK
  obtain⟨f0,f1,f2,f3,f4,f5⟩:=hf it (by simp)
  have e:i=n:=Nat.le_antisymm st.1 hg
  have em:(n:Int) - 1 - ((i:Nat):Int)=-1:=by lia
  exact wpAny_pyNext_rev_end (I.ok.hd hc) (by rw[<-em];exact st.2) λh' eb=>⟨rfl,I.turned (t':=s.toks) (λb o hb e=>eb b o hb e) f0 f1 f3 f4 f5⟩
 self:=λ_ _ _ _ _ st h=>wpAny_pyIter_revIter st.2 h
def B9k (K:A9) (ta:TA):TI:=fun σ H R=>ta σ H λvs H1=>∃a xs,vs=[.ref a]/\SqL K H1 a xs/\R (Itv K a xs.length) H1
theorem B9l {tg a:Expr} {ta:TA} {p pos:Pos} (hg:Gl X "reversed") (hm:X.mg "reversed" = none) (ha:PA X [a] ta) (hs:starEach [a] X.env=[(false,eval a X.env)]:=by rfl):PI X tg (.Call (.Name "reversed" p) [a] [] pos) (B9k X.K ta):=by
 intro pins s σ H R I h
 refine Call_ (A1l I hg hm B9i (PyProof.Rows.callWith_type1 (thn (ha pos pins s σ H _ I h) λus s1 zz272=>el5 zz272 λvs H1 I1 r1 q1=>?_) hs rfl))
 obtain⟨a',xs,rfl,hq,q⟩:=q1
 obtain⟨u,rfl,rx⟩:=Z2 r1
 cases rx
 obtain⟨its,rv,pl,hz⟩:=I1.list hq
 have en:((its.toArray.size:Nat):Int) - 1=((xs.length:Nat):Int) - 1:=by rw[O8,<-rv.length]
 refine call_reversed_list pl.isList ?_
 rw[en]
 have hr:(s1.heap.push (revObj a' ((xs.length:Int) - 1))).IsRevIter s1.heap.objs.size a' ((xs.length:Int) - 1):=⟨_,T9 _ rfl,rfl,rfl⟩
 refine wpAny_pyIter_revIter (s:={ s1 with heap:=s1.heap.push (revObj a' ((xs.length:Int) - 1)) }) hr ?_
 refine⟨_,[s1.heap.objs.size],_,_,H1,rfl,I1.kept (t':=s1.toks) λb o e=>O0 _ e,C67 a' _ xs.length,⟨O7 _,by simpa using hr⟩,λb hb=>?_,q⟩
 have e:b=s1.heap.objs.size:=by simpa using hb
 subst e
 exact I1.fpOk (F9 _) (I1.hok.fresh (F9 _))
end
section
variable {X:Cx} {pins:List (Addr×Obj)} {σ:St} {H:Hp} {s:Shared}
end
section
variable {prog:Program} {w:World} {A:Around} {E:Value->Shared->Prop} {s:Shared}
end
section
variable {prog:Program} {w:World} {A:Around} {R:Result->Shared->Prop} {I:Addr} {fp wr:List Addr} {n:Nat} {P:Nat->Value->Prop} {St:Nat->Heap->Prop}
end
theorem D5.un:∀{xs:List V} {us:List Value} {i:Nat} {u:Value},D5 xs us->us[i]?=some u->∃x,xs[i]?=some x/\E1 x u
 | _,_,_,_,.nil,e=>by simp at e
 | _,_,0,_,.cons r _,e=>by
  cases e
  exact⟨_,rfl,r⟩
 | _,_,i + 1,_,.cons _ t,e=>D5.un (i:=i) t e
section
variable {X:Cx}
end
section
variable {X:Cx} {pins:List (Addr×Obj)} {σ:St} {H:Hp} {s:Shared} {h':Heap}
end
section
variable {X:Cx}
end
section
variable {X:Cx} {tg:Expr}
end
section
variable {prog:Program} {w:World} {A:Around} {R:Result->Shared->Prop} {I:Addr} {fp wr:List Addr} {n:Nat} {P:Nat->Value->Prop} {St:Nat->Heap->Prop}
theorem C68 (kw:List (Str×Value)) (val:Nat->Int) (hval:∀i v,P i v->∃t,v=.int (val i) t) (W:Walks prog w A.in1 I fp wr n P St) (S:Addr) (hSf:S∉fp) :
  ∀(k j:Nat) (s:Shared) (vb:Value) (c:Nat),n - (j + 1)=k->j + 1<=n->St (j + 1) s.heap->(∃i,P i vb/\i<=j/\∀q,q<=j->val q<=val i)->
  s.heap.get? S=some { cls:=.type "list",dict:=none,data:=.seq #[vb,vb] c,slots:=#[] }->
  (∀v h' tk,(∃i,P i v/\i < n/\∀q,q < n->val q<=val i)->(∀b o,b∉wr->b≠S->s.heap.get? b=some o->h'.get? b=some o)->R (.ok (.ret v)) { s with heap:=h',toks:=tk })->
  codeAny (model prog w) A (.builtin "max.loop" ⟨[.ref I,.none,.ref S],kw⟩) R s:=by
 have hSw:S∉wr:=λh=>hSf (W.sub _ h)
 have hname:(toString "max" ++toString ".loop" : String) = "max.loop" :=by decide
 intro k
 induction k with
 | zero=>
  intro j s vb c hk hj hst hPb hS hR
  have hin:j + 1=n:=by lia
  refine codeAny_builtin F.entry_max_loop ?_
  rw[Around.under_plainId F.plain_max_loop _]
  show wpAny _ A.in1 (seqItems? (.ref S) >>= _) _ _ s
  refine wpAny_bind (wpAny_seqItems hS rfl ?_)
  show wpAny _ A.in1 (tryCatch (pyNext (.ref I)) _ >>= _) _ _ s
  refine wpAny_bind (wpAny_tryCatch (W.done s _ _ (hin▸hst) λh' tk hk'=>?_))
  have hS':=hk' S _ hSw hS
  show wpAny _ A.in1 (updateSeq S (λ_=>#[]) >>= _) _ _ _
  refine wpAny_bind ?_
  refine wpAny_updateSeq hS' rfl (wpAny_bind (wpAny_letGo (wpAny_pure ?_)))
  obtain⟨i,h1,h2,h3⟩:=hPb
  exact hR vb _ tk ⟨i,h1,OO,λq hq=>h3 q OO⟩ λb o hbw hbS e=>(A5m _ _ (Ne.symm hbS)).trans (hk' b o hbw e)
 | succ k ih=>
  intro j s vb c hk hj hst hPb hS hR
  have hlt:j + 1 < n:=by lia
  refine codeAny_builtin F.entry_max_loop ?_
  rw[Around.under_plainId F.plain_max_loop _]
  show wpAny _ A.in1 (seqItems? (.ref S) >>= _) _ _ s
  refine wpAny_bind (wpAny_seqItems hS rfl ?_)
  show wpAny _ A.in1 (tryCatch (pyNext (.ref I)) _ >>= _) _ _ s
  refine wpAny_bind (wpAny_tryCatch (W.item (j + 1) s _ _ hlt hst λv h' tk hP hst' hk'=>?_))
  have hS':=hk' S _ hSw hS
  obtain⟨ib,hib,hi1,hi2⟩:=hPb
  obtain⟨t1,rfl⟩:=hval _ v hP
  obtain⟨t2,rfl⟩:=hval _ vb hib
  show wpAny _ A.in1 (tryCatch (holding [_,_] (richCompare .Gt _ _ >>= _)) _ >>= _) _ _ _
  refine wpAny_bind (wpAny_tryCatch (wpAny_holding (wpAny_bind (richCompare_gives (op:=.Gt) (typeIs_int _ _ t1) (typeIs_int _ _ t2) F.slot_int_gt F.entry_int_gt (F.args_int_gt_2 _ _) (gives_int_gt _ _ t1 t2) (λx=>nomatch x) ?_))))
  refine wpAny_bind (wpAny_holding (wpAny_truthy_bool ?_))
  refine wpAny_bind (wpAny_letGo (wpAny_pure ?_))
  by_cases bt:val (j + 1) > val ib
  ·rw[decide_eq_true bt]
   simp only[if_true]
   refine wpAny_bind ?_
   refine wpAny_updateSeq hS' rfl (wpAny_bind (wpAny_letGo ?_))
   rw[hname]
   refine wpAny_pure ⟨plainId_quiet F.plain_max_loop _,ih (j + 1) _ _ _ OO hlt (W.frame _ _ _ hst' λb hbf o e=>?_) ⟨j + 1,hP,F9 _,λq hq=>?_⟩ (B7e _ hS' rfl)
    λv' h'' tk'' hP' hk''=>?_⟩
   ·exact (A5m _ _ (λh:S=b=>hSf (by rw[h];exact hbf))).trans e
   ·by_cases e:q=j + 1
    ·subst e;exact A0m _
    ·have:=hi2 q (OO);lia
   ·exact hR v' h'' tk'' hP' λb o hbw hbS e=>hk'' b o hbw hbS ((A5m _ _ (Ne.symm hbS)).trans (hk' b o hbw e))
  ·rw[decide_eq_false bt]
   simp only[B2z,if_false]
   refine wpAny_bind (wpAny_letGo ?_)
   rw[hname]
   refine wpAny_pure ⟨plainId_quiet F.plain_max_loop _,ih (j + 1) _ _ c OO hlt hst' ⟨ib,hib,OO,λq hq=>?_⟩ hS' λv' h'' tk'' hP' hk''=>?_⟩
   ·by_cases e:q=j + 1
    ·subst e;lia
    ·exact hi2 q (OO)
   ·exact hR v' h'' tk'' hP' λb o hbw hbS e=>hk'' b o hbw hbS (hk' b o hbw e)
theorem B9m (kw:List (Str×Value)) (val:Nat->Int) (hval:∀i v,P i v->∃t,v=.int (val i) t) (W:Walks prog w A.in1 I fp wr n P St) (S:Addr) (hSf:S∉fp) (hn:0 < n) {s:Shared} {c:Nat} (hst:St 0 s.heap)
  (hS:s.heap.get? S=some { cls:=.type "list",dict:=none,data:=.seq #[] c,slots:=#[] })
  (hR:∀v h' tk,(∃i,P i v/\i < n/\∀q,q < n->val q<=val i)->(∀b o,b∉wr->b≠S->s.heap.get? b=some o->h'.get? b=some o)->R (.ok (.ret v)) { s with heap:=h',toks:=tk }) :
  codeAny (model prog w) A (.builtin "max.loop" ⟨[.ref I,.none,.ref S],kw⟩) R s:=by
 have hSw:S∉wr:=λh=>hSf (W.sub _ h)
 have hname:(toString "max" ++toString ".loop" : String) = "max.loop" :=by decide
 refine codeAny_builtin F.entry_max_loop ?_
 rw[Around.under_plainId F.plain_max_loop _]
 show wpAny _ A.in1 (seqItems? (.ref S) >>= _) _ _ s
 refine wpAny_bind (wpAny_seqItems hS rfl ?_)
 show wpAny _ A.in1 (tryCatch (pyNext (.ref I)) _ >>= _) _ _ s
 refine wpAny_bind (wpAny_tryCatch (W.item 0 s _ _ hn hst λv h' tk hP hst' hk'=>?_))
 have hS':=hk' S _ hSw hS
 show wpAny _ A.in1 (updateSeq S (λ_=>#[v,v]) >>= _) _ _ _
 refine wpAny_bind ?_
 refine wpAny_updateSeq hS' rfl ?_
 rw[hname]
 refine wpAny_pure ⟨plainId_quiet F.plain_max_loop _,C68 kw val hval W S hSf _ 0 _ v _ rfl hn (W.frame _ _ _ hst' λb hbf o e=>?_) ⟨0,hP,F9 _,λq hq=>by rw[show q=0 by lia];exact A0m _⟩ (B7e _ hS' rfl) λv' h'' tk'' hP' hk''=>?_⟩
 ·exact (A5m _ _ (λh:S=b=>hSf (by rw[h];exact hbf))).trans e
 ·exact hR v' h'' tk'' hP' λb o hbw hbS e=>hk'' b o hbw hbS ((A5m _ _ (Ne.symm hbS)).trans (hk' b o hbw e))
theorem C69 {dn:Str} {d:Value} (W:Walks prog w A.in1 I fp wr n P St) (S:Addr) (hSf:S∉fp) (hn:n=0) {s:Shared} {c:Nat} (hst:St 0 s.heap)
  (hS:s.heap.get? S=some { cls:=.type "list",dict:=none,data:=.seq #[] c,slots:=#[] })
  (hR:∀h' tk,(∀b o,b∉wr->b≠S->s.heap.get? b=some o->h'.get? b=some o)->R (.ok (.ret d)) { s with heap:=h',toks:=tk }) :
  codeAny (model prog w) A (.builtin "max.loop" ⟨[.ref I,.none,.ref S],[(dn,d)]⟩) R s:=by
 have hSw:S∉wr:=λh=>hSf (W.sub _ h)
 subst hn
 refine codeAny_builtin F.entry_max_loop ?_
 rw[Around.under_plainId F.plain_max_loop _]
 show wpAny _ A.in1 (seqItems? (.ref S) >>= _) _ _ s
 refine wpAny_bind (wpAny_seqItems hS rfl ?_)
 show wpAny _ A.in1 (tryCatch (pyNext (.ref I)) _ >>= _) _ _ s
 refine wpAny_bind (wpAny_tryCatch (W.done s _ _ hst λh' tk hk'=>?_))
 show wpAny _ A.in1 (rule _ >>= _) _ _ _
 refine wpAny_bind (wpAny_rule ?_)
 exact wpAny_pure (hR h' tk λb o hbw hbS e=>hk' b o hbw e)
end
section
variable {X:Cx}
def A9a (ns:List Int) (M:Int):Prop:=M∈ns/\∀n∈ns,n<=M
def C7a (K:A9):List V->Hp->VK->Prop:=λxs H Q=>∃(p:Addr) (ns:List Int),xs=[.ref p]/\SqL K H p (ns.map V.int)/\ns≠[]/\∀M,A9a ns M->Q (.int M) H
theorem B05 {ns:List Int} {its:List Value} (rv:D5 (ns.map V.int) its) {i:Nat} {v:Value} (h:its[i]?=some v):∃n t,ns[i]?=some n/\v=.int n t:=by
 obtain⟨x,hx,rx⟩:=D5.un rv h
 rw[K3] at hx
 cases e:ns[i]? with
 | none=>rw[e] at hx;cases hx
 | some n=>
  rw[e] at hx
  cases hx
  obtain⟨t,rfl⟩:=rx
  exact⟨n,t,rfl,rfl⟩
theorem C7b (hc:X.calm=true):Y9 X (.builtin "max") (C7a X.K):=by
 intro pins s σ H xs us Q I r h
 obtain⟨p,ns,rfl,hq,hne,q⟩:=h
 obtain⟨u,rfl,rx⟩:=Z2 r
 cases rx
 obtain⟨its,rv,pl,hz⟩:=I.list hq
 have hl:=pl.isList
 have hlt:p < s.heap.objs.size:=by obtain⟨_,e,_⟩:=hl;exact G9 e
 have hlen:=rv.length
 rw[C6] at hlen
 have hname:(toString "max" ++toString ".loop" : String) = "max.loop" :=by decide
 refine call_function_tree F.kind_max F.plain_max F.entry_max (F.args_max1 _) ?_
 show wpAny _ X.A.in1 (Builtin.Builtins.bindParams "max" ["key", "default"] 0 ⟨[],[]⟩ >>= _) _ _ s
 refine wpAny_bind (wpAny_of_eq (show Builtin.Builtins.bindParams "max" ["key", "default"] 0 ⟨[],[]⟩=pure [none,none] from rfl) ?_)
 refine wpAny_bind (wpAny_pure ?_)
 refine wpAny_bind (wpAny_pyIter_list hl ?_)
 refine wpAny_bind (wpAny_newObj_type ?_)
 rw[hname]
 have W:=Walks.list (prog:=X.prog) (w:=X.w) (A:=X.A.in1) (I.ok.hd hc) s.heap.objs.size p (Q1 hlt) its.toArray
 have sz:∀(h:Heap) (o:Obj),(h.push o).objs.size=h.objs.size + 1:=λh o=>by simp [Heap.push]
 refine wpAny_pure ⟨plainId_quiet F.plain_max_loop _,B9m [] (λi=>(ns[i]?).getD 0) (λi v hv=>?_) W _ ?_ ?_ ?_ (T9 _ rfl) λv h' tk hP hk=>?_⟩
 ·have hv':its[i]?=some v:=by simpa using hv
  obtain⟨n,t,e,rfl⟩:=B05 rv hv'
  exact⟨t,by rw[e];rfl⟩
 ·intro hm
  rw[sz] at hm
  rcases N3.mp hm with z | z
  ·exact absurd z (Nat.succ_ne_self _)
  ·have h2:s.heap.objs.size + 1=p:=A1h.mp z
   have h3:s.heap.objs.size + 1 < s.heap.objs.size:=by rw[h2];exact hlt
   exact absurd h3 (Nat.not_lt.mpr (A1g _))
 ·rw[O8,<-hlen]
  exact C4j.mpr hne
 ·exact W.frame _ _ _ ⟨⟨_,T9 _ rfl,rfl,rfl⟩,hl.push _⟩ λb _ o e=>O0 _ e
 ·obtain⟨i,hi,hi1,hi2⟩:=hP
  have hv':its[i]?=some v:=by simpa using hi
  obtain⟨n,t,e,rfl⟩:=B05 rv hv'
  refine⟨.int n,H,I.kept (t':=tk) λb o e=>?_,⟨t,rfl⟩,q n ⟨R6 e,λm hm=>?_⟩⟩
  ·have hb:=G9 e
   refine hk b o (λhm=>?_) (λhm=>?_) (O0 _ (O0 _ e))
   ·rw[A1h.mp hm] at hb;exact o9 _ hb
   ·rw[hm,sz] at hb;exact absurd hb (Nat.not_lt.mpr (A1g _))
  ·obtain⟨j,hj,rfl⟩:=A5q.mp hm
   have:=hi2 j (by rw[O8,<-hlen];exact hj)
   rw[M4 hj,e] at this
   exact this
theorem C7c (a b:Value):argsOk "max" ⟨[a],[(Str.ofString "default",b)]⟩:=by unfold argsOk;kernel_rfl
theorem C7d {prog:Program} {w:World} {A:Around} {E:Value->Shared->Prop} {s:Shared} {id:String} {b:Builtin} {args:List Value} {kw:List (Str×Value)} {Q:Value->Shared->Prop} (hk:builtinKind id=none) (hp:plainId id=true)
  (hb:entryFor table id=some b) (ha:argsOk id ⟨args,kw⟩)
  (hc:wpAny (model prog w) A.in1 (b ⟨args,kw⟩) (λfin s'=>match fin with
   | .done f=>(match (Except.ok f:Result) with | .ok (.ret v)=>Q v s' | .ok _=>False | .error e=>E e s')
   | .again c'=>c'.quiet=true/\codeAny (model prog w) A c' (λr s'=>match r with | .ok (.ret v)=>Q v s' | .ok _=>False | .error e=>E e s') s') E s) :
  wpAny (model prog w) A (call (.builtin id) args kw) Q E s:=by
 refine wpAny_call (codeAny_call_builtin hp hb ?_)
 simp only[checkBuiltinCall,hk]
 cases hsig:Manifest.signature? id with
 | none=>exact wpAny_pure hc
 | some sig=>
  have h2:Bind.checkArgs id sig ⟨args,kw⟩=pure ():=by simpa only[argsOk,hsig] using ha
  simp only[h2]
  exact wpAny_pure hc
def B30 (d:Int) (K:A9):List V->Hp->VK->Prop:=λxs H Q=>∃(p:Addr) (ns:List Int),xs=[.ref p]/\SqL K H p (ns.map V.int)/\(ns=[]->Q (.int d) H)/\∀M,A9a ns M->Q (.int M) H
theorem C7e {d:Int} {t0:Tok} (hc:X.calm=true) {pins:List (Addr×Obj)} {s:Shared} {σ:St} {H:Hp} {xs:List V} {us:List Value} {Q:VK} (I:Inv X pins σ H s) (r:D5 xs us) (h:B30 d X.K xs H Q) :
  wpAny (model X.prog X.w) X.A (call (.builtin "max") us [(Str.ofString "default",.int d t0)]) (EP X pins σ Q) X.xe s:=by
 obtain⟨p,ns,rfl,hq,q0,q⟩:=h
 obtain⟨u,rfl,rx⟩:=Z2 r
 cases rx
 obtain⟨its,rv,pl,hz⟩:=I.list hq
 have hl:=pl.isList
 have hlt:p < s.heap.objs.size:=by obtain⟨_,e,_⟩:=hl;exact G9 e
 have hlen:=rv.length
 rw[C6] at hlen
 have hname:(toString "max" ++toString ".loop" : String) = "max.loop" :=by decide
 refine C7d F.kind_max F.plain_max F.entry_max (C7c _ _) ?_
 show wpAny _ X.A.in1 (Builtin.Builtins.bindParams "max" ["key", "default"] 0 ⟨[],[(Str.ofString "default",.int d t0)]⟩ >>= _) _ _ s
 refine wpAny_bind (wpAny_of_eq (show Builtin.Builtins.bindParams "max" ["key", "default"] 0 ⟨[],[(Str.ofString "default",.int d t0)]⟩=pure [none,some (.int d t0)] from by kernel_rfl) ?_)
 refine wpAny_bind (wpAny_pure ?_)
 refine wpAny_bind (wpAny_pyIter_list hl ?_)
 refine wpAny_bind (wpAny_newObj_type ?_)
 rw[hname]
 have W:=Walks.list (prog:=X.prog) (w:=X.w) (A:=X.A.in1) (I.ok.hd hc) s.heap.objs.size p (Q1 hlt) its.toArray
 have sz:∀(h:Heap) (o:Obj),(h.push o).objs.size=h.objs.size + 1:=λh o=>by simp [Heap.push]
 have hS:(s.heap.push { cls:=.type "list_iterator",data:=.fields #[.ref p,.int 0 0] }).objs.size∉[s.heap.objs.size,p]:=by
  intro hm
  rw[sz] at hm
  rcases N3.mp hm with z | z
  ·exact absurd z (Nat.succ_ne_self _)
  ·have h2:s.heap.objs.size + 1=p:=A1h.mp z
   have h3:s.heap.objs.size + 1 < s.heap.objs.size:=by rw[h2];exact hlt
   exact absurd h3 (Nat.not_lt.mpr (A1g _))
 have keep:∀{h':Heap},(∀b o,b∉[s.heap.objs.size]->b≠(s.heap.push { cls:=.type "list_iterator",data:=.fields #[.ref p,.int 0 0] }).objs.size->((s.heap.push { cls:=.type "list_iterator",data:=.fields #[.ref p,.int 0 0] }).push { cls:=.type "list",data:=.seq #[] }).get? b=some o->h'.get? b=some o)->∀b o,s.heap.get? b=some o->h'.get? b=some o:=λhk b o e=>by
  have hb:=G9 e
  refine hk b o (λhm=>?_) (λhm=>?_) (O0 _ (O0 _ e))
  ·rw[A1h.mp hm] at hb;exact o9 _ hb
  ·rw[hm,sz] at hb;exact absurd hb (Nat.not_lt.mpr (A1g _))
 by_cases hne:ns=[]
 ·refine wpAny_pure ⟨plainId_quiet F.plain_max_loop _,C69 W _ hS ?_ ?_ (T9 _ rfl) λh' tk hk=>?_⟩
  ·rw[O8,<-hlen,hne];rfl
  ·exact W.frame _ _ _ ⟨⟨_,T9 _ rfl,rfl,rfl⟩,hl.push _⟩ λb _ o e=>O0 _ e
  ·exact⟨.int d,H,I.kept (t':=tk) (keep hk),⟨t0,rfl⟩,q0 hne⟩
 refine wpAny_pure ⟨plainId_quiet F.plain_max_loop _,B9m _ (λi=>(ns[i]?).getD 0) (λi v hv=>?_) W _ hS ?_ ?_ (T9 _ rfl) λv h' tk hP hk=>?_⟩
 ·have hv':its[i]?=some v:=by simpa using hv
  obtain⟨n,t,e,rfl⟩:=B05 rv hv'
  exact⟨t,by rw[e];rfl⟩
 ·rw[O8,<-hlen]
  exact C4j.mpr hne
 ·exact W.frame _ _ _ ⟨⟨_,T9 _ rfl,rfl,rfl⟩,hl.push _⟩ λb _ o e=>O0 _ e
 ·obtain⟨i,hi,hi1,hi2⟩:=hP
  have hv':its[i]?=some v:=by simpa using hi
  obtain⟨n,t,e,rfl⟩:=B05 rv hv'
  refine⟨.int n,H,I.kept (t':=tk) (keep hk),⟨t,rfl⟩,q n ⟨R6 e,λm hm=>?_⟩⟩
  obtain⟨j,hj,rfl⟩:=A5q.mp hm
  have:=hi2 j (by rw[O8,<-hlen];exact hj)
  rw[M4 hj,e] at this
  exact this
theorem C7f {e:Expr} {ta:TA} {p pos kpos cpos:Pos} {d:Int} {j} (hc:X.calm=true) (hg:Gl X "max") (hm:X.mg "max" = none) (hv:bootBuiltins "max" = some (.builtin "max")) (ha:PA X [e] ta)
  (he:starEach [e] X.env=[(false,eval e X.env)]:=by rfl):PE X (.Call (.Name "max" p) [e] [⟨some (Str.ofString "default"),.Constant (.int d) j cpos,kpos⟩] pos) (tCB (B30 d X.K) ta):=by
 intro pins s σ H Q I h
 refine wpAny_Call_Name_kw (A1l I hg hm hv ?_ DD DD)
 refine PyProof.Rows.callWith_kw (thn (ha pos pins s σ H _ I h) λus s1 zz=>el5 zz λvs H1 I1 r1 q1=>?_) (by rw[he];rfl) (by rw[he];rfl) rfl rfl
 show wpAny _ _ ((do let v <-eval (.Constant (.int d) j cpos) X.env;standAt pos;pure v) >>= _) _ _ _
 refine wpAny_bind (wpAny_bind (wpAny_Constant_int (wpAny_bind (wpAny_standAt (wpAny_pure ?_)))))
 refine wpAny_bind (wpAny_holding (wpAny_pure (wpAny_pure ?_)))
 exact C7e hc (I1.tok _) r1 q1
end
section
variable {prog:Program} {w:World} {A:Around} {R:Result->Shared->Prop} {I:Addr} {fp wr:List Addr} {n:Nat} {P:Nat->Value->Prop} {St:Nat->Heap->Prop}
end
section
variable {X:Cx}
end
end L2
namespace My
open PySem L2
def Hd (H:Hp) (a l:Addr):Prop:=∃(ns:List Int) (p b c u v:Int),H l=some (.lst (ns.map V.int))/\0<=p/\H a=some (.lst [.ref l,.int p,.int b,.int c,.int u,.int v])
def Kp (a:Addr) (H H':Hp):Prop:=∀b o,H b=some o->b≠a->H' b=some o
theorem Kp.refl (a:Addr) (H:Hp):Kp a H H:=λ_ _ e _=>e
theorem Kp.trans {a:Addr} {H H1 H2:Hp} (x:Kp a H H1) (y:Kp a H1 H2):Kp a H H2:=λb o e n=>y b o (x b o e n) n
theorem B06 {H:Hp} {a l:Addr} {ns:List Int} {xs:List V} (hl:H l=some (.lst (ns.map V.int))) (ha:H a=some (.lst (.ref l::xs))):l≠a:=B7l hl ha (by
 intro e
 injection e with e
 cases ns with
 | nil=>cases e
 | cons n r=>injection e with e1;cases e1)
theorem Hd.at1 {H:Hp} {a l:Addr} (h:Hd H a l):∃o,H a=some o:=let ⟨_,_,_,_,_,_,_,_,e⟩:=h;⟨_,e⟩
theorem Hd.at2 {H:Hp} {a l:Addr} (h:Hd H a l):∃o,H l=some o:=let ⟨_,_,_,_,_,_,e,_⟩:=h;⟨_,e⟩
theorem Hd.ne {H:Hp} {a l p:Addr} (h:Hd H a l) (hp:H p=none):p≠a/\p≠l:=by
 obtain⟨o,e⟩:=h.at1
 obtain⟨o',e'⟩:=h.at2
 exact⟨(g6 e hp).symm,(g6 e' hp).symm⟩
theorem Hd.wr {H:Hp} {a l p:Addr} {o:HO} (h:Hd H a l) (n1:p≠a) (n2:p≠l):Hd (upd H p o) a l:=by
 obtain⟨ns,q,b,c,u,v,h1,h2,h3⟩:=h
 exact⟨ns,q,b,c,u,v,by rw[B8 n2.symm];exact h1,h2,by rw[B8 n1.symm];exact h3⟩
theorem Hd.lay {H:Hp} {a l p:Addr} {o:HO} (h:Hd H a l) (hp:H p=none):Hd (upd H p o) a l:=h.wr (h.ne hp).1 (h.ne hp).2
theorem Hd.same {H H':Hp} {a l:Addr} (h:Hd H a l) (s:Same H H'):Hd H' a l:=by
 obtain⟨ns,q,b,c,u,v,h1,h2,h3⟩:=h
 exact⟨ns,q,b,c,u,v,s _ _ h1,h2,s _ _ h3⟩
theorem _root_.L2.Same.lay {p:Addr} {H H1:Hp} {o:HO} (x:Same H H1) (h:H1 p=none):Same H (upd H1 p o):=λb u e=>by
 have e1:=x b u e
 rw[B8 (g6 e1 h)];exact e1
theorem C7g {ns:List Int} {p:Int} (h0:0<=p) (h1:p < (ns.length:Int)):∃z,atI (ns.map V.int) p=some (.int z):=by
 obtain⟨n,rfl⟩:=Int.eq_ofNat_of_zero_le h0
 have hp:n < ns.length:=by lia
 exact⟨ns[n],c9 (by rw[K3,M4 hp];rfl)⟩
def C7h (K:A9):Sp:=λvs H Q _=>∃(a:Addr) (ns:List Int),vs=[.ref a]/\SqL K H a (ns.map V.int)/\∀(p l:Addr) (H':Hp),H p=none->H l=none->Hd H' p l->Same H H'->Q (.ref p) H'
def C7i:Sp:=λvs H Q _=>∃a l,vs=[.ref a]/\Hd H a l/\∀(r:Int) (H':Hp),Hd H' a l->Kp a H H'->Q (.int r) H'
def C7j:Sp:=λvs H Q _=>∃a l,vs=[.ref a]/\Hd H a l/\∀(H':Hp),Hd H' a l->Kp a H H'->Q .non H'
def C7k:Sp:=λvs H Q _=>∃a l m,vs=[.ref a,.int m]/\Hd H a l/\0 < m/\m < 100000000000000000000000000000000000000000000000000000000000000/\∀(r:Int) (H':Hp),0<=r->r < m->Hd H' a l->Kp a H H'->Q (.int r) H'
def dEn (ks:List (List Int)):List (List Key×V):=ks.map λk=>(k.map Sum.inl,V.bl true)
def dEm (ks:List (List Int×Int)):List (List Key×V):=ks.map λp=>(p.1.map Sum.inl,V.int p.2)
def C7l (k:List Int):PyData:=.tuple (k.map PyData.int)
inductive DiU:HO->List (PyData×PyData)->Prop
 | t:DiU (.dT []) []
 | k (i j:Int):DiU (.dK [(Sum.inl i,V.int j)]) [(.int i,.int j)]
 | f (o:Obj) (ks:List (List Int)):DiU (.frz o (.dT (dEn ks))) ((.none,.none)::ks.map λk=>(C7l k,.bool true))
mutual
inductive ThV (F:Addr->Prop) (H:Hp):V->PyData->Prop
 | non:ThV F H .non .none
 | bl (b):ThV F H (.bl b) (.bool b)
 | int (i):ThV F H (.int i) (.int i)
 | str (x):ThV F H (.str x) (.str x)
 | lst {a xs ds}:F a->H a=some (.lst xs)->B2 F H xs ds->ThV F H (.ref a) (.list ds)
 | tup {a xs ds}:F a->H a=some (.tup xs)->B2 F H xs ds->ThV F H (.ref a) (.tuple ds)
 | dic {a u kvs}:F a->H a=some u->DiU u kvs->ThV F H (.ref a) (.dict kvs)
inductive B2 (F:Addr->Prop) (H:Hp):List V->List PyData->Prop
 | nil:B2 F H [] []
 | cons {x xs d ds}:ThV F H x d->B2 F H xs ds->B2 F H (x::xs) (d::ds)
end
mutual
theorem ThV.mv {F G:Addr->Prop} {H H':Hp} (f:∀b o,F b->H b=some o->G b/\H' b=some o):∀{v:V} {d:PyData},ThV F H v d->ThV G H' v d
 | _,_,.non=>.non
 | _,_,.bl b=>.bl b
 | _,_,.int i=>.int i
 | _,_,.str x=>.str x
 | _,_,.lst n e t=>.lst (f _ _ n e).1 (f _ _ n e).2 (B2.mv f t)
 | _,_,.tup n e t=>.tup (f _ _ n e).1 (f _ _ n e).2 (B2.mv f t)
 | _,_,.dic n e t=>.dic (f _ _ n e).1 (f _ _ n e).2 t
theorem B2.mv {F G:Addr->Prop} {H H':Hp} (f:∀b o,F b->H b=some o->G b/\H' b=some o):∀{vs:List V} {ds:List PyData},B2 F H vs ds->B2 G H' vs ds
 | _,_,.nil=>.nil
 | _,_,.cons x t=>.cons (ThV.mv f x) (B2.mv f t)
end
theorem B2.same {F:Addr->Prop} {H H':Hp} {v:List V} {d:List PyData} (t:B2 F H v d) (s:Same H H'):B2 F H' v d:=t.mv λb o z e=>⟨z,s b o e⟩
theorem B2.append {F:Addr->Prop} {H:Hp} {xs:List V} {ds:List PyData} {ys:List V} {es:List PyData} (t:B2 F H xs ds) (y:B2 F H ys es):B2 F H (xs++ys) (ds++es):=by
 induction xs generalizing ds with
 | nil=>cases t;exact y
 | cons v xs ih=>
  cases t with
  | cons x t=>exact .cons x (ih t)
theorem B2.len {F:Addr->Prop} {H:Hp} {xs:List V} {ds:List PyData} (t:B2 F H xs ds):xs.length=ds.length:=by
 induction xs generalizing ds with
 | nil=>cases t;rfl
 | cons v xs ih=>
  cases t with
  | cons x t=>rw[J8,J8,ih t]
theorem B2.get {F:Addr->Prop} {H:Hp}:∀{xs:List V} {ds:List PyData} {i:Nat} {v:V},B2 F H xs ds->xs[i]?=some v->∃d,ds[i]?=some d/\ThV F H v d
 | _,_,_,_,.nil,e=>by simp at e
 | _,_,0,v,.cons (d:=d) x _,e=>by
  have e':=Option.some.inj e
  subst e'
  exact⟨d,rfl,x⟩
 | _,_,i + 1,v,.cons _ t,e=>B2.get (i:=i) t e
theorem B2.at {F:Addr->Prop} {H:Hp}:∀{xs:List V} {ds:List PyData} {i:Nat} {d:PyData},B2 F H xs ds->ds[i]?=some d->∃v,xs[i]?=some v/\ThV F H v d
 | _,_,_,_,.nil,e=>by simp at e
 | _,_,0,d,.cons (x:=v) x _,e=>by
  have e':=Option.some.inj e
  subst e'
  exact⟨v,rfl,x⟩
 | _,_,i + 1,v,.cons _ t,e=>B2.at (i:=i) t e
mutual
theorem ThV.dat {K:A9} {F:Addr->Prop} {H:Hp}:∀{v:V} {d:PyData},ThV F H v d->d.canLay0=true->i7 K H v d
 | _,_,.non,_=>.non
 | _,_,.bl b,_=>.bl b
 | _,_,.int i,_=>.int i
 | _,_,.str x,_=>.str x
 | _,_,.lst _ e t,h=>.lst (SqL.of e) (B2.dat t (by rw[PyData.canLay0] at h;exact h))
 | _,_,.tup _ e t,h=>.tup (SqT.of e) (B2.dat t (by rw[PyData.canLay0] at h;exact h))
 | _,_,.dic _ _ _,h=>by rw[PyData.canLay0] at h;cases h
theorem B2.dat {K:A9} {F:Addr->Prop} {H:Hp}:∀{vs:List V} {ds:List PyData},B2 F H vs ds->PyData.canLayAll0 ds=true->v8 K H vs ds
 | _,_,.nil,_=>.nil
 | _,_,.cons x t,h=>by
  rw[PyData.canLayAll0,A5n] at h
  exact .cons (ThV.dat x h.1) (B2.dat t h.2)
end
structure DC where
 F:Addr->Prop
 hand:Option (Addr×Addr)
 H0:Hp
def Kq (h:Option (Addr×Addr)) (H H':Hp):Prop:=∀b o,H b=some o->(∀q,h=some q->b≠q.1)->H' b=some o
def Hq (h:Option (Addr×Addr)) (H:Hp):Prop:=∀q,h=some q->Hd H q.1 q.2
section
variable {h:Option (Addr×Addr)} {H H1 H2 H':Hp} {p:Addr} {o:HO}
theorem Kq.refl:Kq h H H:=λ_ _ e _=>e
theorem Kq.trans (a:Kq h H H1) (b:Kq h H1 H2):Kq h H H2:=λc o e n=>b c o (a c o e n) n
theorem Kq.same (s:Same H H'):Kq h H H':=λb o e _=>s b o e
theorem Kq.fr {b:Addr} (k:Kq h H H') (q:Hq h H') (e:H' b=none):H b=none:=by
 cases z:H b with
 | none=>rfl
 | some o=>
  by_cases c:∀p,h=some p->b≠p.1
  ·rw[k b o z c] at e;cases e
  ·refine absurd (λp hp hb=>?_) c
   obtain⟨o',e'⟩:=(q p hp).at1
   rw[hb,e'] at e;cases e
theorem Kq.lay (hp:H p=none):Kq h H (upd H p o):=Kq.same ((Same.refl H).lay hp)
theorem Hq.lay (q:Hq h H) (hp:H p=none):Hq h (upd H p o):=λz hz=>(q z hz).lay hp
theorem Hq.same (q:Hq h H) (s:Same H H'):Hq h H':=λz hz=>(q z hz).same s
end
inductive Rws (G F:Addr->Prop) (H:Hp):List Addr->List (List PyData)->Prop
 | nil:Rws G F H [] []
 | cons {b vs as ds dss}:G b->H b=some (.lst vs)->B2 F H vs ds->Rws G F H as dss->Rws G F H (b::as) (ds::dss)
theorem Rws.mv {G F G' F':Addr->Prop} {H H':Hp} {as:List Addr} {dss:List (List PyData)} (t:Rws G F H as dss) (f:∀b o,F b->H b=some o->F' b/\H' b=some o) (g:∀b o,G b->H b=some o->G' b/\H' b=some o):Rws G' F' H' as dss:=by
 induction t with
 | nil=>exact .nil
 | cons x e y _ ih=>exact .cons (g _ _ x e).1 (g _ _ x e).2 (y.mv f) ih
theorem Rws.mvl {G F G' F':Addr->Prop} {H H':Hp} {as:List Addr} {dss:List (List PyData)} (t:Rws G F H as dss) (f:∀b o,F b->H b=some o->F' b/\H' b=some o) (g:∀b ys,G b->H b=some (.lst ys)->G' b/\H' b=some (.lst ys)):Rws G' F' H' as dss:=by
 induction t with
 | nil=>exact .nil
 | cons x e y _ ih=>exact .cons (g _ _ x e).1 (g _ _ x e).2 (y.mv f) ih
def A55 (H:Hp) (a:Addr) (ks:List (List Int)):Bool->Prop
 | false=>H a=some (.dT (dEn ks))
 | true=>∃o,H a=some (.frz o (.dT (dEn ks)))
theorem A55.mv {H H':Hp} {a:Addr} {ks:List (List Int)} {f:Bool} (h:A55 H a ks f) (k:∀o,H a=some o->H' a=some o):A55 H' a ks f:=by
 cases f with
 | false=>exact k _ h
 | true=>obtain⟨o,h⟩:=h;exact⟨o,k _ h⟩
theorem A55.ne {H:Hp} {a:Addr} {ks:List (List Int)} {f:Bool} (h:A55 H a ks f):H a≠none:=by
 cases f with
 | false=>exact λq=>by rw[show H a=_ from h] at q;cases q
 | true=>obtain⟨o,h⟩:=h;exact λq=>by rw[h] at q;cases q
def A56 (H:Hp) (a:Addr) (ks:List (List Int×Int)):Bool->Prop
 | false=>H a=some (.dT (dEm ks))
 | true=>∃o,H a=some (.frz o (.dT (dEm ks)))
theorem A56.mv {H H':Hp} {a:Addr} {ks:List (List Int×Int)} {f:Bool} (h:A56 H a ks f) (k:∀o,H a=some o->H' a=some o):A56 H' a ks f:=by
 cases f with
 | false=>exact k _ h
 | true=>obtain⟨o,h⟩:=h;exact⟨o,k _ h⟩
theorem A56.ne {H:Hp} {a:Addr} {ks:List (List Int×Int)} {f:Bool} (h:A56 H a ks f):H a≠none:=by
 cases f with
 | false=>exact λq=>by rw[show H a=_ from h] at q;cases q
 | true=>obtain⟨o,h⟩:=h;exact λq=>by rw[h] at q;cases q
structure B31 where
 p:(Addr->Prop)->Hp->V->Prop
 mv:∀{W W':Addr->Prop} {H H':Hp} {v:V},(∀b o,W b->H b=some o->W' b/\H' b=some o)->p W H v->p W' H' v
inductive Sl where
 | no
 | sh (d:PyData)
 | ow (ds:List PyData)
 | bo (ds:List PyData)
 | hd
 | o2 (dss:List (List PyData))
 | b2 (dss:List (List PyData))
 | di (f:Bool) (ks:List (List Int))
 | dm (f:Bool) (kvs:List (List Int×Int))
 | bd (d:PyData)
 | ot (d:PyData)
 | ob (R:B31)
abbrev Z (col:Addr->Nat):Addr->Prop:=λb=>col b=0
abbrev Le (C:DC):Addr->Prop:=λb=>C.H0 b≠none/\∀q,C.hand=some q->b≠q.1
abbrev Ow (C:DC) (col:Addr->Nat) (H:Hp) (i:Nat):Addr->Prop:=λb=>(col b=2 * i + 3/\C.H0 b=none)\/(col b=0/\∃xs,H b=some (.tup xs))
def SlR (C:DC) (col:Addr->Nat) (H:Hp) (i:Nat) (o:Option V):Sl->Prop
 | .no=>True
 | .sh d=>∃v,o=some v/\ThV (Z col) H v d
 | .ow ds=>∃a vs,o=some (.ref a)/\col a=2 * i + 3/\C.H0 a=none/\H a=some (.lst vs)/\B2 (Z col) H vs ds
 | .bo ds=>∃a vs,o=some (.ref a)/\col a<=1/\(∀q,C.hand=some q->a≠q.1)/\H a=some (.lst vs)/\B2 (Z col) H vs ds
 | .hd=>∃q,C.hand=some q/\o=some (.ref q.1)
 | .o2 dss=>∃a as,o=some (.ref a)/\(col a=2 * i + 3/\C.H0 a=none)/\H a=some (.lst (as.map V.ref))/\(a::as).Nodup/\Rws (λb=>col b=2 * i + 3/\C.H0 b=none) (Z col) H as dss
 | .b2 dss=>∃a as,o=some (.ref a)/\(col a<=1/\∀q,C.hand=some q->a≠q.1)/\H a=some (.lst (as.map V.ref))/\Rws (λb=>col b<=1/\∀q,C.hand=some q->b≠q.1) (Z col) H as dss
 | .di f ks=>∃a,o=some (.ref a)/\col a=2 * i + 3/\C.H0 a=none/\A55 H a ks f
 | .dm f ks=>∃a,o=some (.ref a)/\col a=2 * i + 3/\C.H0 a=none/\A56 H a ks f
 | .bd d=>∃v,o=some v/\ThV (Le C) C.H0 v d
 | .ot d=>∃v,o=some v/\ThV (Ow C col H i) H v d
 | .ob R=>∃v,o=some v/\R.p (Ow C col H i) H v
inductive Pe where
 | v (v:V) (d:PyData)
 | n (a:Addr) (o:HO)
 | s (vs:List V) (ds:List PyData)
 | o (c:Nat) (as:List Addr) (dss:List (List PyData))
 | w (v:V) (d:PyData)
def PeR (C:DC) (col:Addr->Nat) (H:Hp):Pe->Prop
 | .v v d=>ThV (Z col) H v d
 | .n a o=>col a<=1/\(∀q,C.hand=some q->a≠q.1)/\H a=some o
 | .s vs ds=>B2 (Z col) H vs ds
 | .o c as dss=>as.Nodup/\Rws (λb=>col b=2 * c + 2/\C.H0 b=none) (Z col) H as dss
 | .w v d=>ThV (Le C) C.H0 v d
structure F1 (C:DC) (col:Addr->Nat) (ρ:List Sl) (σ:St) (P:List Pe) (H:Hp):Prop where
 fresh:∀b,H b=none->col b=0
 inF:∀b,col b=0->C.F b
 hnd:∀q,C.hand=some q->col q.1=1
 sl:∀i s,ρ[i]?=some s->SlR C col H i (σ[i]?).join s
 pd:∀p∈P,PeR C col H p
 kq:Kq C.hand C.H0 H
 hq:Hq C.hand H
 hq0:Hq C.hand C.H0
 nf:(∀b,C.H0 b=none->C.F b)/\∀b xs,C.H0 b=some (.tup xs)->C.F b
 len:ρ.length=σ.length
def Rel (C:DC) (ρ:List Sl) (σ:St) (P:List Pe) (H:Hp):Prop:=∃col,F1 C col ρ σ P H
section
variable {C:DC} {col col':Addr->Nat} {ρ:List Sl} {σ:St} {P P':List Pe} {H H':Hp} {v:V} {d:PyData} {o:HO} {p:Addr}
theorem F1.notH (r:F1 C col ρ σ P H) {b:Addr} (hb:col b≠1):∀q,C.hand=some q->b≠q.1:=λq hq e=>hb (e▸r.hnd q hq)
theorem F1.mv (r:F1 C col ρ σ P H) (k:Kq C.hand H H') (q:Hq C.hand H'):F1 C col ρ σ P H':=by
 have mv0:∀b o,Z col b->H b=some o->Z col b/\H' b=some o:=λb o z e=>⟨z,k b o e (r.notH (by rw[show col b=0 from z];decide))⟩
 refine⟨λb e=>r.fresh b (k.fr q e),r.inF,r.hnd,λi s e=>?_,λp hp=>?_,r.kq.trans k,q,r.hq0,r.nf,r.len⟩
 ·have h:=r.sl i s e
  cases s with
  | no=>trivial
  | sh d=>obtain⟨v,e1,t⟩:=h;exact⟨v,e1,t.mv mv0⟩
  | ow ds=>obtain⟨a,vs,e1,c,n,e2,t⟩:=h;exact⟨a,vs,e1,c,n,k a _ e2 (r.notH (by lia)),t.mv mv0⟩
  | bo ds=>obtain⟨a,vs,e1,c,n,e2,t⟩:=h;exact⟨a,vs,e1,c,n,k a _ e2 n,t.mv mv0⟩
  | hd=>exact h
  | o2 dss=>obtain⟨a,as,e1,c,e2,nd,t⟩:=h;exact⟨a,as,e1,c,k a _ e2 (r.notH (by lia)),nd,t.mv mv0 λb o g e=>⟨g,k b o e (r.notH (by have:=g.1;lia))⟩⟩
  | b2 dss=>obtain⟨a,as,e1,c,e2,t⟩:=h;exact⟨a,as,e1,c,k a _ e2 c.2,t.mv mv0 λb o g e=>⟨g,k b o e g.2⟩⟩
  | di f ks=>obtain⟨a,e1,c,n,e2⟩:=h;exact⟨a,e1,c,n,e2.mv λo e=>k a o e (r.notH (by lia))⟩
  | dm f ks=>obtain⟨a,e1,c,n,e2⟩:=h;exact⟨a,e1,c,n,e2.mv λo e=>k a o e (r.notH (by lia))⟩
  | bd d=>exact h
  | ot d=>
   obtain⟨v,e1,t⟩:=h
   refine⟨v,e1,t.mv λb o g e=>?_⟩
   have e':H' b=some o:=k b o e (r.notH (by rcases g with g | g <;> (have:=g.1;lia)))
   exact⟨g.imp id λ⟨c,xs,z⟩=>⟨c,xs,by rw[e] at z;rw[e'];exact z⟩,e'⟩
  | ob R=>
   obtain⟨v,e1,t⟩:=h
   refine⟨v,e1,R.mv (λb o g e=>?_) t⟩
   have e':H' b=some o:=k b o e (r.notH (by rcases g with g | g <;> (have:=g.1;lia)))
   exact⟨g.imp id λ⟨c,xs,z⟩=>⟨c,xs,by rw[e] at z;rw[e'];exact z⟩,e'⟩
 ·have h:=r.pd p hp
  cases p with
  | v v d=>exact ThV.mv mv0 h
  | n a o=>exact⟨h.1,h.2.1,k a o h.2.2 h.2.1⟩
  | s vs ds=>exact B2.mv mv0 h
  | o c as dss=>exact⟨h.1,h.2.mv mv0 λb o g e=>⟨g,k b o e (r.notH (by have:=g.1;lia))⟩⟩
  | w v d=>exact h
theorem F1.lay (r:F1 C col ρ σ P H) (hp:H p=none):F1 C col ρ σ P (upd H p o):=r.mv (Kq.lay hp) (r.hq.lay hp)
theorem F1.add (r:F1 C col ρ σ P H) {x:Pe} (t:PeR C col H x):F1 C col ρ σ (x::P) H:=
 { r with pd:=λp hp=>(N3.mp hp).elim (λe=>e▸t) (r.pd p) }
theorem F1.push (r:F1 C col ρ σ P H) (t:ThV (Z col) H v d):F1 C col ρ σ (.v v d::P) H:=r.add t
theorem F1.sub (r:F1 C col ρ σ P H) (h:∀p∈P',p∈P):F1 C col ρ σ P' H:={ r with pd:=λp hp=>r.pd p (h p hp) }
theorem Rel.sub (r:Rel C ρ σ P H) (h:∀p∈P',p∈P):Rel C ρ σ P' H:=let ⟨c,r⟩:=r;⟨c,r.sub h⟩
theorem Rel.pop {x:Pe} (r:Rel C ρ σ (x::P) H):Rel C ρ σ P H:=r.sub λ_ h=>D3 _ h
theorem F1.tup {vs:List V} {ds:List PyData} (r:F1 C col ρ σ P H) (t:B2 (Z col) H vs ds) (hp:H p=none):F1 C col ρ σ (.v (.ref p) (.tuple ds)::P) (upd H p (.tup vs)):=
 (r.lay hp).push (.tup (r.fresh p hp) B6 (t.same ((Same.refl H).lay hp)))
theorem F1.lst {vs:List V} {ds:List PyData} (r:F1 C col ρ σ P H) (t:B2 (Z col) H vs ds) (hp:H p=none):F1 C col ρ σ (.v (.ref p) (.list ds)::P) (upd H p (.lst vs)):=
 (r.lay hp).push (.lst (r.fresh p hp) B6 (t.same ((Same.refl H).lay hp)))
theorem F1.recol (r:F1 C col ρ σ P H) {ρ':List Sl} {σ':St} (hl:ρ'.length=σ'.length) (f:∀b,H b=none->col' b=0) (i:∀b,col' b=0->C.F b) (n:∀q,C.hand=some q->col' q.1=1) (z:∀b,col b=0->H b≠none->col' b=0)
  (lo:∀b,col b<=1->H b≠none->col' b<=1) (c2:∀b c,col b=2 * c + 2->col' b=2 * c + 2) (s:∀i s,ρ'[i]?=some s->SlR C col' H i (σ'[i]?).join s):F1 C col' ρ' σ' P H:=by
 have mv0:∀b o,Z col b->H b=some o->Z col' b/\H b=some o:=λb o zz e=>⟨z b zz (by rw[e];exact λq=>nomatch q),e⟩
 refine⟨f,i,n,s,λp hp=>?_,r.kq,r.hq,r.hq0,r.nf,hl⟩
 have h:=r.pd p hp
 cases p with
 | v v d=>exact ThV.mv mv0 h
 | n a o=>exact⟨lo a h.1 (by rw[h.2.2];exact λq=>nomatch q),h.2⟩
 | s vs ds=>exact B2.mv mv0 h
 | o c as dss=>exact⟨h.1,h.2.mv mv0 λb o g e=>⟨⟨c2 b c g.1,g.2⟩,e⟩⟩
 | w v d=>exact h
theorem F1.freeze {i:Nat} {ds:List PyData} (r:F1 C col ρ σ P H) (e:ρ[i]?=some (.ow ds)) :
  ∃a,(σ[i]?).join=some (.ref a)/\Rel C (ρ.set i (.sh (.list ds))) σ (.v (.ref a) (.list ds)::P) H:=by
 obtain⟨a,vs,e1,c,n,e2,t⟩:=r.sl i _ e
 let col':Addr->Nat:=λb=>if b=a then 0 else col b
 have ca:col' a=0:=if_pos rfl
 have cn:∀b,b≠a->col' b=col b:=λb hb=>if_neg hb
 have z:∀b,col b=0->col' b=0:=λb hb=>by
  by_cases q:b=a
  ·rw[q];exact ca
  ·rw[cn b q];exact hb
 have mv0:∀b o,Z col b->H b=some o->Z col' b/\H b=some o:=λb o zz e=>⟨z b zz,e⟩
 have T:ThV (Z col') H (.ref a) (.list ds):=.lst ca e2 (t.mv mv0)
 have R:F1 C col' (ρ.set i (.sh (.list ds))) σ P H:=by
  refine r.recol (by rw[Y6];exact r.len) (λb hb=>z b (r.fresh b hb)) (λb hb=>?_) (λq hq=>?_) (λb hb _=>z b hb) (λb hb _=>?_) (λb c2 hb=>by rw[cn b (λq=>by rw[q] at hb;lia)];exact hb) λj s es=>?_
  ·by_cases q:b=a
   ·rw[q];exact r.nf.1 a n
   ·rw[cn b q] at hb;exact r.inF b hb
  ·rw[cn _ λq'=>by have:=r.hnd q hq;rw[q'] at this;lia];exact r.hnd q hq
  ·by_cases q:b=a
   ·rw[q,ca];lia
   ·rw[cn b q];exact hb
  ·by_cases hj:j=i
   ·subst hj
    rw[A3f] at es
    simp only[if_true] at es
    split at es
    ·cases es;exact⟨_,e1,T⟩
    ·cases es
   ·rw[A1e (Ne.symm hj)] at es
    have h:=r.sl j s es
    cases s with
    | no=>trivial
    | sh d=>obtain⟨v,e1,t⟩:=h;exact⟨v,e1,t.mv mv0⟩
    | ow ds=>obtain⟨a',vs',e1',c',n',e2',t'⟩:=h;exact⟨a',vs',e1',by rw[cn a' (λq=>by rw[q] at c';lia)];exact c',n',e2',t'.mv mv0⟩
    | bo ds=>obtain⟨a',vs',e1',c',n',e2',t'⟩:=h;exact⟨a',vs',e1',by by_cases q:a'=a;{ rw[q,ca];lia };{ rw[cn a' q];exact c' },n',e2',t'.mv mv0⟩
    | hd=>exact h
    | o2 dss=>obtain⟨a',as',e1',c',e2',nd',t'⟩:=h;exact⟨a',as',e1',⟨by rw[cn a' (λq=>by rw[q] at c';lia)];exact c'.1,c'.2⟩,e2',nd',t'.mv mv0 λb o g e=>⟨⟨by rw[cn b (λq=>by have:=g.1;rw[q] at this;lia)];exact g.1,g.2⟩,e⟩⟩
    | b2 dss=>obtain⟨a',as',e1',c',e2',t'⟩:=h;exact⟨a',as',e1',⟨by by_cases q:a'=a;{ rw[q,ca];lia };{ rw[cn a' q];exact c'.1 },c'.2⟩,e2',t'.mv mv0 λb o g e=>⟨⟨by by_cases q:b=a;{ rw[q,ca];lia };{ rw[cn b q];exact g.1 },g.2⟩,e⟩⟩
    | di f ks=>obtain⟨a',e1',c',n',e2'⟩:=h;exact⟨a',e1',by rw[cn a' (λq=>by rw[q] at c';lia)];exact c',n',e2'⟩
    | dm f ks=>obtain⟨a',e1',c',n',e2'⟩:=h;exact⟨a',e1',by rw[cn a' (λq=>by rw[q] at c';lia)];exact c',n',e2'⟩
    | bd d=>exact h
    | ot d=>obtain⟨v,e1',t'⟩:=h;exact⟨v,e1',t'.mv λb o g e=>⟨g.imp (λg=>⟨by rw[cn b (λq=>by rw[q] at g;have:=g.1;lia)];exact g.1,g.2⟩) λg=>⟨z b g.1,g.2⟩,e⟩⟩
    | ob R=>obtain⟨v,e1',t'⟩:=h;exact⟨v,e1',R.mv (λb o g e=>⟨g.imp (λg=>⟨by rw[cn b (λq=>by rw[q] at g;have:=g.1;lia)];exact g.1,g.2⟩) λg=>⟨z b g.1,g.2⟩,e⟩) t'⟩
 exact⟨a,e1,col',R.push T⟩
theorem F1.store {i:Nat} (r:F1 C col ρ σ P H) (t:ThV (Z col) H v d):F1 C col (ρ.set i (.sh d)) (σ.set i (some v)) P H:=by
 refine { r with sl:=λj s es=>?_,len:=by rw[Y6,Y6];exact r.len }
 by_cases hj:j=i
 ·subst hj
  rw[A3f] at es
  simp only[if_true] at es
  split at es
  ·rename_i hl
   cases es
   refine⟨v,?_,t⟩
   rw[A3f,if_pos rfl,if_pos (by rw[<-r.len];exact hl)];rfl
  ·cases es
 ·rw[A1e (Ne.symm hj)] at es
  rw[A1e (Ne.symm hj)]
  exact r.sl j s es
theorem F1.own {i:Nat} {vs:List V} {ds:List PyData} (r:F1 C col ρ σ P H) (t:B2 (Z col) H vs ds) (hp:H p=none):Rel C (ρ.set i (.ow ds)) (σ.set i (some (.ref p))) P (upd H p (.lst vs)):=by
 let col':Addr->Nat:=λb=>if b=p then 2 * i + 3 else col b
 have ca:col' p=2 * i + 3:=if_pos rfl
 have cn:∀b,b≠p->col' b=col b:=λb hb=>if_neg hb
 have ne:∀b,H b≠none->b≠p:=λb hb q=>hb (q▸hp)
 have mv0:∀b o,Z col b->H b=some o->Z col' b/\upd H p (.lst vs) b=some o:=λb o zz e=>by
  have q:=ne b (by rw[e];exact λq=>nomatch q)
  exact⟨(cn b q).trans zz,by rw[B8 q];exact e⟩
 have r1:=r.lay (o:=.lst vs) hp
 have c0:C.H0 p=none:=r.kq.fr r.hq hp
 refine⟨col',λb hb=>?_,λb hb=>?_,λq hq=>?_,λj s es=>?_,λx hx=>?_,r1.kq,r1.hq,r.hq0,r.nf,by rw[Y6,Y6];exact r.len⟩
 ·have q:b≠p:=λq=>by rw[q,B6] at hb;cases hb
  rw[cn b q];exact r1.fresh b hb
 ·have q:b≠p:=λq=>by rw[q,ca] at hb;cases hb
  rw[cn b q] at hb;exact r.inF b hb
 ·obtain⟨o',e'⟩:=(r.hq q hq).at1
  rw[cn _ (ne _ (by rw[e'];exact λq=>nomatch q))];exact r.hnd q hq
 ·by_cases hj:j=i
  ·subst hj
   rw[A3f] at es
   simp only[if_true] at es
   split at es
   ·rename_i hl
    cases es
    exact⟨p,vs,by rw[A3f,if_pos rfl,if_pos (by rw[<-r.len];exact hl)];rfl,ca,c0,B6,t.mv mv0⟩
   ·cases es
  ·rw[A1e (Ne.symm hj)] at es
   rw[A1e (Ne.symm hj)]
   have h:=r.sl j s es
   cases s with
   | no=>trivial
   | sh d=>obtain⟨v,e1,t⟩:=h;exact⟨v,e1,t.mv mv0⟩
   | ow ds=>
    obtain⟨a',vs',e1',c',n',e2',t'⟩:=h
    have q:=ne a' (by rw[e2'];exact λq=>nomatch q)
    exact⟨a',vs',e1',by rw[cn a' q];exact c',n',by rw[B8 q];exact e2',t'.mv mv0⟩
   | bo ds=>
    obtain⟨a',vs',e1',c',n',e2',t'⟩:=h
    have q:=ne a' (by rw[e2'];exact λq=>nomatch q)
    exact⟨a',vs',e1',by rw[cn a' q];exact c',n',by rw[B8 q];exact e2',t'.mv mv0⟩
   | hd=>exact h
   | o2 dss=>
    obtain⟨a',as',e1',c',e2',nd',t'⟩:=h
    have q:=ne a' (by rw[e2'];exact λq=>nomatch q)
    exact⟨a',as',e1',⟨by rw[cn a' q];exact c'.1,c'.2⟩,by rw[B8 q];exact e2',nd',t'.mv mv0 λb o g e=>by
     have q:=ne b (by rw[e];exact λq=>nomatch q)
     exact⟨⟨by rw[cn b q];exact g.1,g.2⟩,by rw[B8 q];exact e⟩⟩
   | b2 dss=>
    obtain⟨a',as',e1',c',e2',t'⟩:=h
    have q:=ne a' (by rw[e2'];exact λq=>nomatch q)
    exact⟨a',as',e1',⟨by rw[cn a' q];exact c'.1,c'.2⟩,by rw[B8 q];exact e2',t'.mv mv0 λb o g e=>by
     have q:=ne b (by rw[e];exact λq=>nomatch q)
     exact⟨⟨by rw[cn b q];exact g.1,g.2⟩,by rw[B8 q];exact e⟩⟩
   | di f ks=>
    obtain⟨a',e1',c',n',e2'⟩:=h
    have q:=ne a' e2'.ne
    exact⟨a',e1',by rw[cn a' q];exact c',n',e2'.mv λo e=>by rw[B8 q];exact e⟩
   | dm f ks=>
    obtain⟨a',e1',c',n',e2'⟩:=h
    have q:=ne a' e2'.ne
    exact⟨a',e1',by rw[cn a' q];exact c',n',e2'.mv λo e=>by rw[B8 q];exact e⟩
   | bd d=>exact h
   | ot d=>
    obtain⟨v,e1',t'⟩:=h
    exact⟨v,e1',t'.mv λb o g e=>by
     have q:=ne b (by rw[e];exact λq=>nomatch q)
     exact⟨g.imp (λg=>⟨by rw[cn b q];exact g.1,g.2⟩) λg=>⟨by rw[cn b q];exact g.1,by rw[B8 q];exact g.2⟩,by rw[B8 q];exact e⟩⟩
   | ob R=>
    obtain⟨v,e1',t'⟩:=h
    exact⟨v,e1',R.mv (λb o g e=>by
     have q:=ne b (by rw[e];exact λq=>nomatch q)
     exact⟨g.imp (λg=>⟨by rw[cn b q];exact g.1,g.2⟩) λg=>⟨by rw[cn b q];exact g.1,by rw[B8 q];exact g.2⟩,by rw[B8 q];exact e⟩) t'⟩
 ·have h:=r.pd x hx
  cases x with
  | v v d=>exact ThV.mv mv0 h
  | n a o=>
   have q:=ne a (by rw[h.2.2];exact λq=>nomatch q)
   exact⟨by rw[cn a q];exact h.1,h.2.1,by rw[B8 q];exact h.2.2⟩
  | s vs ds=>exact B2.mv mv0 h
  | o c as dss=>exact⟨h.1,h.2.mv mv0 λb o g e=>by
    have q:=ne b (by rw[e];exact λq=>nomatch q)
    exact⟨⟨by rw[cn b q];exact g.1,g.2⟩,by rw[B8 q];exact e⟩⟩
  | w v d=>exact h
theorem F1.write {i:Nat} {a:Addr} {ws:List V} {ds es:List PyData} (r:F1 C col ρ σ P H) (e:ρ[i]?=some (.ow ds)) (ea:(σ[i]?).join=some (.ref a)) (t:B2 (Z col) H ws es) :
  F1 C col (ρ.set i (.ow es)) σ P (upd H a (.lst ws)):=by
 obtain⟨a',vs',e1,c,n,e2,_⟩:=r.sl i _ e
 rw[e1] at ea
 cases ea
 have ne:∀b,col b≠2 * i + 3->b≠a:=λb hb q=>hb (q▸c)
 have mv0:∀b o,Z col b->H b=some o->Z col b/\upd H a (.lst ws) b=some o:=λb o zz e=>⟨zz,by rw[B8 (ne b (by rw[show col b=0 from zz];lia))];exact e⟩
 refine⟨λb hb=>?_,r.inF,r.hnd,λj s es'=>?_,λx hx=>?_,λb o e q=>?_,λq hq=>?_,r.hq0,r.nf,by rw[Y6];exact r.len⟩
 ·by_cases q:b=a
  ·rw[q,B6] at hb;cases hb
  ·rw[B8 q] at hb;exact r.fresh b hb
 ·by_cases hj:j=i
  ·subst hj
   rw[A3f] at es'
   simp only[if_true] at es'
   split at es'
   ·cases es'
    exact⟨a,ws,e1,c,n,B6,t.mv mv0⟩
   ·cases es'
  ·rw[A1e (Ne.symm hj)] at es'
   have h:=r.sl j s es'
   cases s with
   | no=>trivial
   | sh d=>obtain⟨v,e1,t⟩:=h;exact⟨v,e1,t.mv mv0⟩
   | ow ds=>
    obtain⟨a',vs',e1',c',n',e2',t'⟩:=h
    exact⟨a',vs',e1',c',n',by rw[B8 (ne a' (by lia))];exact e2',t'.mv mv0⟩
   | bo ds=>
    obtain⟨a',vs',e1',c',n',e2',t'⟩:=h
    exact⟨a',vs',e1',c',n',by rw[B8 (ne a' (by lia))];exact e2',t'.mv mv0⟩
   | hd=>exact h
   | o2 dss=>
    obtain⟨a',as',e1',c',e2',nd',t'⟩:=h
    exact⟨a',as',e1',c',by rw[B8 (ne a' (by lia))];exact e2',nd',t'.mv mv0 λb o g e=>⟨g,by rw[B8 (ne b (by have:=g.1;lia))];exact e⟩⟩
   | b2 dss=>
    obtain⟨a',as',e1',c',e2',t'⟩:=h
    exact⟨a',as',e1',c',by rw[B8 (ne a' (by have:=c'.1;lia))];exact e2',t'.mv mv0 λb o g e=>⟨g,by rw[B8 (ne b (by have:=g.1;lia))];exact e⟩⟩
   | di f ks=>
    obtain⟨a',e1',c',n',e2'⟩:=h
    exact⟨a',e1',c',n',e2'.mv λo e=>by rw[B8 (ne a' (by lia))];exact e⟩
   | dm f ks=>
    obtain⟨a',e1',c',n',e2'⟩:=h
    exact⟨a',e1',c',n',e2'.mv λo e=>by rw[B8 (ne a' (by lia))];exact e⟩
   | bd d=>exact h
   | ot d=>
    obtain⟨v,e1',t'⟩:=h
    exact⟨v,e1',t'.mv λb o g e=>by
     have q:=ne b (by rcases g with g | g <;> (have:=g.1;lia))
     exact⟨g.imp id λg=>⟨g.1,by rw[B8 q];exact g.2⟩,by rw[B8 q];exact e⟩⟩
   | ob R=>
    obtain⟨v,e1',t'⟩:=h
    exact⟨v,e1',R.mv (λb o g e=>by
     have q:=ne b (by rcases g with g | g <;> (have:=g.1;lia))
     exact⟨g.imp id λg=>⟨g.1,by rw[B8 q];exact g.2⟩,by rw[B8 q];exact e⟩) t'⟩
 ·have h:=r.pd x hx
  cases x with
  | v v d=>exact ThV.mv mv0 h
  | n b o=>exact⟨h.1,h.2.1,by rw[B8 (ne b (by have:=h.1;lia))];exact h.2.2⟩
  | s vs ds=>exact B2.mv mv0 h
  | o c as dss=>exact⟨h.1,h.2.mv mv0 λb o g e=>⟨g,by rw[B8 (ne b (by have:=g.1;lia))];exact e⟩⟩
  | w v d=>exact h
 ·have z:=r.kq b o e q
  have q':b≠a:=λq'=>by rw[q',n] at e;cases e
  rw[B8 q'];exact z
 ·obtain⟨o1,h1⟩:=(r.hq0 q hq).at1
  obtain⟨o2,h2⟩:=(r.hq0 q hq).at2
  exact (r.hq q hq).wr (λz=>by rw[<-z,n] at h1;cases h1) (λz=>by rw[<-z,n] at h2;cases h2)
end
open Classical in
theorem F1.norm {C:DC} {col:Addr->Nat} {ρ:List Sl} {σ:St} {P:List Pe} {H:Hp} (r:F1 C col ρ σ P H):∃col',F1 C col' ρ σ P H/\∀b xs,H b=some (.tup xs)->col' b=0:=by
 let col':Addr->Nat:=λb=>if ∃xs,H b=some (.tup xs) then 0 else col b
 have ct:∀b xs,H b=some (.tup xs)->col' b=0:=λb xs e=>if_pos ⟨xs,e⟩
 have cn:∀b,(∀xs,H b≠some (.tup xs))->col' b=col b:=λb h=>if_neg λ⟨xs,e⟩=>h xs e
 have hl:∀b ys,H b=some (.lst ys)->col' b=col b:=λb ys e=>cn b λxs z=>by rw[e] at z;cases z
 have hd:∀q,C.hand=some q->∀xs,H q.1≠some (.tup xs):=λq hq xs z=>by
  obtain⟨_,_,_,_,_,_,_,_,e⟩:=r.hq q hq
  rw[e] at z;cases z
 have z0:∀b,col b=0->col' b=0:=λb hb=>by
  by_cases h:∃xs,H b=some (.tup xs)
  ·exact if_pos h
  ·exact (if_neg h).trans hb
 have lo:∀b,col b<=1->col' b<=1:=λb hb=>by
  by_cases h:∃xs,H b=some (.tup xs)
  ·rw[show col' b=0 from if_pos h];lia
  ·rw[show col' b=col b from if_neg h];exact hb
 have mv0:∀b o,Z col b->H b=some o->Z col' b/\H b=some o:=λb o zz e=>⟨z0 b zz,e⟩
 refine⟨col',⟨λb e=>z0 b (r.fresh b e),λb hb=>?_,λq hq=>(cn _ (hd q hq)).trans (r.hnd q hq),λi s e=>?_,λp hp=>?_,r.kq,r.hq,r.hq0,r.nf,r.len⟩,ct⟩
 ·by_cases h:∃xs,H b=some (.tup xs)
  ·obtain⟨xs,h⟩:=h
   cases q:C.H0 b with
   | none=>exact r.nf.1 b q
   | some o=>
    have:=r.kq b o q λp hp e=>hd p hp xs (e▸h)
    rw[this] at h
    cases h
    exact r.nf.2 b xs q
  ·rw[show col' b=col b from if_neg h] at hb;exact r.inF b hb
 ·have h:=r.sl i s e
  cases s with
  | no=>trivial
  | sh d=>obtain⟨v,e1,t⟩:=h;exact⟨v,e1,t.mv mv0⟩
  | ow ds=>obtain⟨a,vs,e1,c,n,e2,t⟩:=h;exact⟨a,vs,e1,(hl a _ e2).trans c,n,e2,t.mv mv0⟩
  | bo ds=>obtain⟨a,vs,e1,c,n,e2,t⟩:=h;exact⟨a,vs,e1,lo a c,n,e2,t.mv mv0⟩
  | hd=>exact h
  | o2 dss=>obtain⟨a,as,e1,c,e2,nd,t⟩:=h;exact⟨a,as,e1,⟨(hl a _ e2).trans c.1,c.2⟩,e2,nd,t.mvl mv0 λb ys g e=>⟨⟨(hl b _ e).trans g.1,g.2⟩,e⟩⟩
  | b2 dss=>obtain⟨a,as,e1,c,e2,t⟩:=h;exact⟨a,as,e1,⟨lo a c.1,c.2⟩,e2,t.mvl mv0 λb ys g e=>⟨⟨lo b g.1,g.2⟩,e⟩⟩
  | di f ks=>
   obtain⟨a,e1,c,n,e2⟩:=h
   refine⟨a,e1,(cn a λxs z=>?_).trans c,n,e2⟩
   cases f with
   | false=>rw[show H a=_ from e2] at z;cases z
   | true=>obtain⟨o,e2⟩:=e2;rw[e2] at z;cases z
  | dm f ks=>
   obtain⟨a,e1,c,n,e2⟩:=h
   refine⟨a,e1,(cn a λxs z=>?_).trans c,n,e2⟩
   cases f with
   | false=>rw[show H a=_ from e2] at z;cases z
   | true=>obtain⟨o,e2⟩:=e2;rw[e2] at z;cases z
  | bd d=>exact h
  | ot d=>
   obtain⟨v,e1,t⟩:=h
   refine⟨v,e1,t.mv λb o g e=>⟨?_,e⟩⟩
   by_cases q:∃xs,H b=some (.tup xs)
   ·obtain⟨xs,q⟩:=q
    exact .inr ⟨ct b xs q,xs,q⟩
   ·rcases g with g | g
    ·exact .inl ⟨(if_neg q).trans g.1,g.2⟩
    ·exact absurd g.2 q
  | ob R=>
   obtain⟨v,e1,t⟩:=h
   refine⟨v,e1,R.mv (λb o g e=>⟨?_,e⟩) t⟩
   by_cases q:∃xs,H b=some (.tup xs)
   ·obtain⟨xs,q⟩:=q
    exact .inr ⟨ct b xs q,xs,q⟩
   ·rcases g with g | g
    ·exact .inl ⟨(if_neg q).trans g.1,g.2⟩
    ·exact absurd g.2 q
 ·have h:=r.pd p hp
  cases p with
  | v v d=>exact ThV.mv mv0 h
  | n a o=>exact⟨lo a h.1,h.2⟩
  | s vs ds=>exact B2.mv mv0 h
  | o c as dss=>exact⟨h.1,h.2.mvl mv0 λb ys g e=>⟨⟨(hl b _ e).trans g.1,g.2⟩,e⟩⟩
  | w v d=>exact h
inductive Pds (P:List Pe):List V->List PyData->Prop
 | nil:Pds P [] []
 | cons {v d vs ds}:Pe.v v d∈P->Pds P vs ds->Pds P (v::vs) (d::ds)
theorem Pds.th {C:DC} {col:Addr->Nat} {ρ:List Sl} {σ:St} {P:List Pe} {H:Hp} (r:F1 C col ρ σ P H):∀{vs:List V} {ds:List PyData},Pds P vs ds->B2 (Z col) H vs ds
 | _,_,.nil=>.nil
 | _,_,.cons h t=>.cons (r.pd _ h) (Pds.th r t)
abbrev DE:=List Sl->(PyData->List Sl->Prop)->Prop
abbrev DT:=List Sl->(Bool->List Sl->Prop)->Prop
abbrev DF:=List Sl->(List PyData->List Sl->Prop)->Prop
def eOf (C:DC) (t:DE):TE:=fun σ H Q=>∃ρ P Qd,Rel C ρ σ P H/\t ρ Qd/\∀v d ρ' H',Rel C ρ' σ (.v v d::P) H'->Qd d ρ'->Q v H'
def cOf (C:DC) (t:DT):TT:=fun σ H Q=>∃ρ P Qd,Rel C ρ σ P H/\t ρ Qd/\∀b ρ' H',Rel C ρ' σ P H'->Qd b ρ'->Q b H'
def fOf (C:DC) (t:DF):TE:=fun σ H Q=>∃ρ P Qd,Rel C ρ σ P H/\t ρ Qd/\∀p vs ds ρ' H1,(∃col,F1 C col ρ' σ P H1/\B2 (Z col) H1 vs ds)->H1 p=none->Qd ds ρ'->Q (.ref p) (upd H1 p (.lst vs))
def vOf (C:DC) (t:DF):TA:=fun σ H Q=>∃ρ P Qd,Rel C ρ σ P H/\t ρ Qd/\∀vs ds ρ' P' H',Rel C ρ' σ P' H'->(∀p∈P,p∈P')->Pds P' vs ds->Qd ds ρ'->Q vs H'
def bnd {α:Type} (o:Option α) (Q:α->Prop):Prop:=match o with
 | some a=>Q a
 | none=>False
theorem M9 {α:Type} {o:Option α} {Q:α->Prop} (h:bnd o Q):∃a,o=some a/\Q a:=by
 cases o with
 | none=>exact h.elim
 | some a=>exact⟨a,rfl,h⟩
section
variable {X:Cx} {C:DC}
theorem PE.wk {e:Expr} {t t':TE} (h:PE X e t) (f:∀σ H Q,t' σ H Q->t σ H Q):PE X e t':=λpins s σ H Q I q=>h pins s σ H Q I (f σ H Q q)
theorem PT.wk {e:Expr} {t t':TT} (h:PT X e t) (f:∀σ H Q,t' σ H Q->t σ H Q):PT X e t':=λpins s σ H Q I q=>h pins s σ H Q I (f σ H Q q)
theorem PW.wk {e:Expr} {t t':TT} (h:PW X e t) (f:∀σ H Q,t' σ H Q->t σ H Q):PW X e t':=λwh pins s σ H Q I q=>h wh pins s σ H Q I (f σ H Q q)
theorem PA.wk {es:List Expr} {t t':TA} (h:PA X es t) (f:∀σ H Q,t' σ H Q->t σ H Q):PA X es t':=λpos pins s σ H Q I q=>h pos pins s σ H Q I (f σ H Q q)
theorem PO.wk {e:Option Expr} {t t':TO} (h:PO X e t) (f:∀σ H Q,t' σ H Q->t σ H Q):PO X e t':=λpins s σ H Q I q=>h pins s σ H Q I (f σ H Q q)
def dC (d:PyData)  (ρ:List Sl) (Q:PyData->List Sl->Prop):Prop:=Q d ρ
theorem B07 {e:Expr} {v:V} {d:PyData} (h:PE X e (tC v)) (t:∀F H,ThV F H v d):PE X e (eOf C (dC d)):=PE.wk h λ_ _ _ zz1=>el3 zz1 λ_ _ _ zz2 ht k=>zz2.elim λcol r=>k _ _ _ _ ⟨col,r.push (t _ _)⟩ ht
theorem C5 {i j pos}:PE X (.Constant (.int i) j pos) (eOf C (dC (.int i))):=B07 A8 λ_ _=>.int i
theorem B9n {b j pos}:PE X (.Constant (.bool b) j pos) (eOf C (dC (.bool b))):=B07 A0o λ_ _=>.bl b
theorem J0 {j pos}:PE X (.Constant .none j pos) (eOf C (dC .none)):=B07 A0p λ_ _=>.non
theorem D6 {e:Expr} {i:Int} (h:PE X e (tC (.int i))):PE X e (eOf C (dC (.int i))):=B07 h λ_ _=>.int i
theorem N7 {α:Type} {o:Option (Option α)} {v:α} (h:o.join=some v):o=some (some v):=by
 cases o with
 | none=>cases h
 | some q=>exact congrArg some h
def A2d (i:Nat)  (ρ:List Sl) (Q:PyData->List Sl->Prop):Prop:=match ρ[i]? with
 | some (.sh d)=>Q d ρ
 | some (.ow ds)=>Q (.list ds) (ρ.set i (.sh (.list ds)))
 | _=>False
theorem A2 {e:Expr} {i:Nat} (h:PE X e (U7 i)):PE X e (eOf C (A2d i)):=PE.wk h fun σ H Q zz3=>el3 zz3 fun ρ P Qd zz4 ht k=>zz4.elim λcol r=>by
 unfold A2d at ht
 split at ht
 ·rename_i d e
  obtain⟨v,e1,t⟩:=r.sl i _ e
  exact⟨v,N7 e1,k _ _ _ _ ⟨col,r.push t⟩ ht⟩
 ·rename_i ds e
  obtain⟨a,e1,R⟩:=r.freeze e
  exact⟨_,N7 e1,k _ _ _ _ R ht⟩
 ·exact ht.elim
def R9 (ρ:List Sl) (i:Nat):Option PyData:=match ρ[i]? with
 | some (.sh d)=>some d
 | some (.ow ds)=>some (.list ds)
 | some (.bo ds)=>some (.list ds)
 | _=>none
inductive Red (col:Addr->Nat) (H:Hp):V->PyData->Prop
 | th {v d}:ThV (Z col) H v d->Red col H v d
 | ls {a vs ds}:H a=some (.lst vs)->B2 (Z col) H vs ds->Red col H (.ref a) (.list ds)
theorem F1.slot {col:Addr->Nat} {ρ:List Sl} {σ:St} {P:List Pe} {H:Hp} (r:F1 C col ρ σ P H) {i:Nat} {d:PyData} (h:R9 ρ i=some d):∃v,σ[i]?=some (some v)/\Red col H v d:=by
 unfold R9 at h
 split at h
 ·rename_i d' e
  cases h
  obtain⟨v,e1,t⟩:=r.sl i _ e
  exact⟨v,N7 e1,.th t⟩
 ·rename_i ds e
  cases h
  obtain⟨a,vs,e1,_,_,e2,t⟩:=r.sl i _ e
  exact⟨_,N7 e1,.ls e2 t⟩
 ·rename_i ds e
  cases h
  obtain⟨a,vs,e1,_,_,e2,t⟩:=r.sl i _ e
  exact⟨_,N7 e1,.ls e2 t⟩
 ·cases h
theorem Red.lst {col:Addr->Nat} {H:Hp} {v:V} {ds:List PyData} (h:Red col H v (.list ds)):∃a vs,v=.ref a/\H a=some (.lst vs)/\B2 (Z col) H vs ds:=by
 cases h with
 | th t=>cases t with
  | lst _ e t=>exact⟨_,_,rfl,e,t⟩
 | ls e t=>exact⟨_,_,rfl,e,t⟩
theorem Red.tup {col:Addr->Nat} {H:Hp} {v:V} {ds:List PyData} (h:Red col H v (.tuple ds)):∃a vs,v=.ref a/\H a=some (.tup vs)/\B2 (Z col) H vs ds:=by
 cases h with
 | th t=>cases t with
  | tup _ e t=>exact⟨_,_,rfl,e,t⟩
abbrev G2:=PyData->PyData->(PyData->Prop)->Prop
def V1 (C:DC) (r:R2) (g:G2):Prop:=
 ∀{ρ:List Sl} {σ:St} {P:List Pe} {H:Hp} {v w:V} {a b:PyData} {Qd:PyData->Prop} {Q:VK},Rel C ρ σ (.v w b::.v v a::P) H->g a b Qd->(∀u d H',Rel C ρ σ (.v u d::P) H'->Qd d->Q u H')->r v w H Q
def dOp (g:G2) (ta tb:DE)  (ρ:List Sl) (Q:PyData->List Sl->Prop):Prop:=ta ρ λa ρ1=>tb ρ1 λb ρ2=>g a b λd=>Q d ρ2
theorem B32 {r:R2} {g:G2} {ta tb:DE} (hg:V1 C r g) {σ:St} {H:Hp} {Q:VK} (h:eOf C (dOp g ta tb) σ H Q):tOp r (eOf C ta) (eOf C tb) σ H Q:=by
 obtain⟨ρ,P,Qd,R,ht,k⟩:=h
 exact⟨ρ,P,_,R,ht,λv a ρ1 H1 R1 h1=>⟨ρ1,_,_,R1,h1,λw b ρ2 H2 R2 h2=>hg R2 h2 λu d H' R' q=>k u d ρ2 H' R' q⟩⟩
variable {a b:Expr} {ta tb:DE} {pos:Pos}
theorem F6 {op:Operator} {r:R2} {g:G2} (ho:OpR X (binaryOp op) r) (hg:V1 C r g) (ha:PE X a (eOf C ta)) (hb:PE X b (eOf C tb)):PE X (.BinOp a op b pos) (eOf C (dOp g ta tb)):=PE.wk (J2 ho ha hb) λ_ _ _ h=>B32 hg h
theorem w4 {op:CmpOp} {r:R2} {g:G2} (ho:OpR X (compareOp op) r) (hg:V1 C r g) (ha:PE X a (eOf C ta)) (hb:PE X b (eOf C tb)) (hm:behindInMarks op b=false):PE X (.Compare a [op] [b] pos) (eOf C (dOp g ta tb)):=PE.wk (A5y ho ha hb hm) λ_ _ _ h=>B32 hg h
def dT (t:DE)  (ρ:List Sl) (Q:Bool->List Sl->Prop):Prop:=t ρ λd ρ'=>match d with
 | .bool b=>Q b ρ'
 | _=>False
theorem B33 {t:DE} {σ:St} {H:Hp} {Q:Bool->Hp->Prop} (h:cOf C (dT t) σ H Q):eOf C t σ H λx H'=>∃k,x=.bl k/\Q k H':=by
 obtain⟨ρ,P,Qd,R,ht,k⟩:=h
 refine⟨ρ,P,_,R,ht,λv d ρ' H' R' q=>?_⟩
 split at q
 ·obtain⟨col,r⟩:=R'
  have t:=r.pd _ D9
  cases (show ThV (Z col) H' v (.bool _) from t)
  exact⟨_,rfl,k _ _ _ (Rel.pop ⟨col,r⟩) q⟩
 ·exact q.elim
theorem l8 {e:Expr} {t:DE} (h:PE X e (eOf C t)) (he:∀whole,isTrue e X.env whole=(do let v <-whole;standAt e.pos;holding [v] (truthy v)):=by intro _;rfl):PT X e (cOf C (dT t)):=PT.wk (b4 h he) λ_ _ _ h=>B33 h
theorem J5 {op:CmpOp} {r:R2} {g:G2} (ho:OpR X (compareOp op) r) (hg:V1 C r g) (ha:PE X a (eOf C ta)) (hb:PE X b (eOf C tb)) (hm:behindInMarks op b=false):PT X (.Compare a [op] [b] pos) (cOf C (dT (dOp g ta tb))):=
 PT.wk (J3 ho ha hb hm) fun σ H Q h=>B32 hg (B33 h)
def A3s (t:DT)  (ρ:List Sl) (Q:Bool->List Sl->Prop):Prop:=t ρ λb ρ'=>Q (!b) ρ'
theorem l9 {t:DT} (h:PT X a (cOf C t)):PT X (.UnaryOp .Not a pos) (cOf C (A3s t)):=PT.wk (b5 h) λ_ _ _ zz5=>el3 zz5 fun ρ P _ R ht k=>⟨ρ,P,_,R,ht,λb ρ' H' R' q=>k _ _ _ R' q⟩
def A3t (t u:DT)  (ρ:List Sl) (Q:Bool->List Sl->Prop):Prop:=t ρ λb ρ'=>if b=true then u ρ' Q else Q false ρ'
def dOr (t u:DT)  (ρ:List Sl) (Q:Bool->List Sl->Prop):Prop:=t ρ λb ρ'=>if b=true then Q true ρ' else u ρ' Q
variable {t u:DT} {T1:List Expr}
theorem B08 (h:PT X a (cOf C t)):PW X (.BoolOp .And [a] pos) (cOf C t):=A81 h
theorem w5 (h:PT X a (cOf C t)):PW X (.BoolOp .Or [a] pos) (cOf C t):=A14 h
theorem A9b (ha:PT X a (cOf C t)) (hb:PW X (.BoolOp .And (b::T1) pos) (cOf C u)):PW X (.BoolOp .And (a::b::T1) pos) (cOf C (A3t t u)):=PW.wk (A82 ha hb) λ_ _ _ zz6=>el3 zz6 fun ρ P Qd R ht k=>
 ⟨ρ,P,_,R,ht,λb ρ' H' R' q=>by
  cases b with
  | true=>exact⟨ρ',P,Qd,R',by simpa using q,k⟩
  | false=>exact k _ _ _ R' (by simpa using q)⟩
theorem i9 (ha:PT X a (cOf C t)) (hb:PW X (.BoolOp .Or (b::T1) pos) (cOf C u)):PW X (.BoolOp .Or (a::b::T1) pos) (cOf C (dOr t u)):=PW.wk (A0r ha hb) λ_ _ _ zz7=>el3 zz7 fun ρ P Qd R ht k=>
 ⟨ρ,P,_,R,ht,λb ρ' H' R' q=>by
  cases b with
  | true=>exact k _ _ _ R' (by simpa using q)
  | false=>exact⟨ρ',P,Qd,R',by simpa using q,k⟩⟩
def dBV (t:DE) (f:Bool->List Sl->Prop)  (ρ:List Sl):Prop:=t ρ λd ρ'=>match d with
 | .bool b=>f b ρ'
 | _=>False
def A3u (ta tb:DE)  (ρ:List Sl) (Q:PyData->List Sl->Prop):Prop:=dBV ta (λb ρ'=>if b=true then tb ρ' Q else Q (.bool false) ρ') ρ
def A3v (ta tb:DE)  (ρ:List Sl) (Q:PyData->List Sl->Prop):Prop:=dBV ta (λb ρ'=>if b=true then Q (.bool true) ρ' else tb ρ' Q) ρ
def A3w (ta:DE)  (ρ:List Sl) (Q:PyData->List Sl->Prop):Prop:=dBV ta (λb ρ'=>Q (.bool (!b)) ρ') ρ
theorem B34 {f:Bool->List Sl->Prop} {ρ:List Sl} {σ:St} {P:List Pe} {H:Hp} {Q:VK} (R:Rel C ρ σ P H) (ht:dBV ta f ρ) (k:∀c ρ' H',Rel C ρ' σ P H'->f c ρ'->Q (.bl c) H'):eOf C ta σ H Q:=by
 refine⟨ρ,P,_,R,ht,λv d ρ' H' R' q=>?_⟩
 split at q
 ·obtain⟨col,r⟩:=R'
  have t:=r.pd _ D9
  cases (show ThV (Z col) H' v (.bool _) from t)
  exact k _ _ _ (Rel.pop ⟨col,r⟩) q
 ·exact q.elim
theorem e7 {op} (h:PE X a (eOf C ta)):PE X (.BoolOp op [a] pos) (eOf C ta):=B7p h
theorem m5 (ha:PE X a (eOf C ta)) (hb:PE X (.BoolOp .And (b::T1) pos) (eOf C tb)):PE X (.BoolOp .And (a::b::T1) pos) (eOf C (A3u ta tb)):=PE.wk (B7q ha hb) λ_ _ _ zz8=>el3 zz8 λ_ P Qd R ht k=>
 B34 R ht λc ρ' H' R' q=>⟨c,rfl,by
  cases c with
  | true=>exact G0 ⟨ρ',P,Qd,R',by simpa using q,k⟩
  | false=>
   obtain⟨col,r⟩:=R'
   exact C7 (k _ _ _ _ ⟨col,r.push (.bl false)⟩ (by simpa using q))⟩
theorem B35 (ha:PE X a (eOf C ta)) (hb:PE X (.BoolOp .Or (b::T1) pos) (eOf C tb)):PE X (.BoolOp .Or (a::b::T1) pos) (eOf C (A3v ta tb)):=PE.wk (C46 ha hb) λ_ _ _ zz9=>el3 zz9 λ_ P Qd R ht k=>
 B34 R ht λc ρ' H' R' q=>⟨c,rfl,by
  cases c with
  | true=>
   obtain⟨col,r⟩:=R'
   exact G0 (k _ _ _ _ ⟨col,r.push (.bl true)⟩ (by simpa using q))
  | false=>exact C7 ⟨ρ',P,Qd,R',by simpa using q,k⟩⟩
theorem B9o (ha:PE X a (eOf C ta)):PE X (.UnaryOp .Not a pos) (eOf C (A3w ta)):=PE.wk (C47 ha) λ_ _ _ zz10=>el3 zz10 λ_ _ _ R ht k=>
 B34 R ht λc ρ' H' zz11 q=>zz11.elim λcol r=>⟨c,rfl,k _ _ _ _ ⟨col,r.push (.bl _)⟩ q⟩
def A3x (ta:DE)  (ρ:List Sl) (Q:PyData->List Sl->Prop):Prop:=ta ρ λd ρ'=>match d with
 | .int i=>Q (.int (-i)) ρ'
 | _=>False
theorem w6 (ha:PE X a (eOf C ta)):PE X (.UnaryOp .USub a pos) (eOf C (A3x ta)):=PE.wk (C5l C5m ha) λ_ _ _ zz12=>el3 zz12 fun ρ P _ R ht k=>⟨ρ,P,_,R,ht,λv d ρ' H' R' q=>by
 split at q
 ·obtain⟨col,r⟩:=R'
  have t:=r.pd _ D9
  cases (show ThV (Z col) H' v (.int _) from t)
  exact⟨_,rfl,k _ _ _ _ ⟨col,(r.sub λ_ h=>D3 _ h).push (.int _)⟩ q⟩
 ·exact q.elim⟩
def dIf (c:DT) (ta tb:DE)  (ρ:List Sl) (Q:PyData->List Sl->Prop):Prop:=c ρ λb ρ'=>if b=true then ta ρ' Q else tb ρ' Q
theorem B36 {c:Expr} (hc:PT X c (cOf C t)) (ha:PE X a (eOf C ta)) (hb:PE X b (eOf C tb)):PE X (.IfExp c a b pos) (eOf C (dIf t ta tb)):=PE.wk (B7r hc ha hb) λ_ _ _ zz13=>el3 zz13 fun ρ P Qd R ht k=>
 ⟨ρ,P,_,R,ht,λb ρ' H' R' q=>by
  cases b with
  | true=>exact G0 ⟨ρ',P,Qd,R',by simpa using q,k⟩
  | false=>exact C7 ⟨ρ',P,Qd,R',by simpa using q,k⟩⟩
def A1p (g g':G2) (ta tb tc:DE)  (ρ:List Sl) (Q:PyData->List Sl->Prop):Prop:=ta ρ λa ρ1=>tb ρ1 λb ρ2=>g a b λz=>match z with
 | .bool k=>if k=true then tc ρ2 λc ρ3=>g' b c λd=>Q d ρ3 else Q (.bool false) ρ2
 | _=>False
end
def gI (c:Int->Int->Prop) (f:Int->Int->PyData)  (a b:PyData) (Q:PyData->Prop):Prop:=match a,b with
 | .int i,.int j=>c i j/\Q (f i j)
 | _,_=>False
def gI0 (f:Int->Int->PyData)  (a b:PyData) (Q:PyData->Prop):Prop:=match a,b with
 | .int i,.int j=>Q (f i j)
 | _,_=>False
section
variable {C:DC} {X:Cx}
theorem th2 {ρ:List Sl} {σ:St} {P:List Pe} {H:Hp} {v w:V} {a b:PyData} (r:Rel C ρ σ (.v w b::.v v a::P) H):∃col,F1 C col ρ σ P H/\ThV (Z col) H v a/\ThV (Z col) H w b:=by
 obtain⟨col,r⟩:=r
 exact⟨col,r.sub λ_ h=>D3 _ (D3 _ h),r.pd _ (D3 _ D9),r.pd _ D9⟩
theorem A57 {f:Int->Int->V} {g:Int->Int->PyData} (h:∀i j F H,ThV F H (f i j) (g i j)):V1 C (rI0 f) (gI0 g):=by
 intro ρ σ P H v w a b Qd Q R hg k
 unfold gI0 at hg
 split at hg
 ·obtain⟨col,r,t1,t2⟩:=th2 R
  cases t1;cases t2
  exact⟨_,_,rfl,rfl,k _ _ _ ⟨col,r.push (h _ _ _ _)⟩ hg⟩
 ·exact hg.elim
theorem B37 {c:Int->Int->Prop} {f:Int->Int->V} {g:Int->Int->PyData} (h:∀i j F H,ThV F H (f i j) (g i j)):V1 C (rI c f) (gI c g):=by
 intro ρ σ P H v w a b Qd Q R hg k
 unfold gI at hg
 split at hg
 ·obtain⟨col,r,t1,t2⟩:=th2 R
  cases t1;cases t2
  exact⟨_,_,rfl,rfl,hg.1,k _ _ _ ⟨col,r.push (h _ _ _ _)⟩ hg.2⟩
 ·exact hg.elim
def A3y:G2:=gI0 λi j=>.int (i + j)
def A3z:G2:=gI0 λi j=>.int (i - j)
def A30:G2:=gI A17 λi j=>.int (i * j)
def A58:G2:=gI (λ_ j=>0 < j) λi j=>.int (i % j)
def A31:G2:=gI B3w λi j=>.int (i / j)
def A32:G2:=gI B3i λi j=>.int (i ^ j.toNat)
def gLt:G2:=gI0 λi j=>.bool (decide (i < j))
def gLe:G2:=gI0 λi j=>.bool (decide (i<=j))
def gGt:G2:=gI0 λi j=>.bool (decide (j < i))
def gGe:G2:=gI0 λi j=>.bool (decide (j<=i))
theorem S6:V1 C (rI0 (λi j=>.int (i + j))) A3y:=A57 (f:=λi j=>.int (i + j)) λ_ _ _ _=>.int _
theorem A2e:V1 C (rI0 (λi j=>.int (i - j))) A3z:=A57 (f:=λi j=>.int (i - j)) λ_ _ _ _=>.int _
theorem A0z:V1 C (rI A17 (λi j=>.int (i * j))) A30:=B37 (f:=λi j=>.int (i * j)) λ_ _ _ _=>.int _
theorem B9p:V1 C (rI B3w (λi j=>.int (i / j))) A31:=B37 (f:=λi j=>.int (i / j)) λ_ _ _ _=>.int _
theorem m6:V1 C (rI B3i (λi j=>.int (i ^ j.toNat))) A32:=B37 (f:=λi j=>.int (i ^ j.toNat)) λ_ _ _ _=>.int _
theorem y4:V1 C (rI0 (λi j=>.bl (decide (i < j)))) gLt:=A57 (f:=λi j=>.bl (decide (i < j))) λ_ _ _ _=>.bl _
theorem C7m:V1 C (rI0 (λi j=>.bl (decide (i<=j)))) gLe:=A57 (f:=λi j=>.bl (decide (i<=j))) λ_ _ _ _=>.bl _
theorem A2f:V1 C (rI0 (λi j=>.bl (decide (j < i)))) gGt:=A57 (f:=λi j=>.bl (decide (j < i))) λ_ _ _ _=>.bl _
theorem B9q:V1 C (rI0 (λi j=>.bl (decide (j<=i)))) gGe:=A57 (f:=λi j=>.bl (decide (j<=i))) λ_ _ _ _=>.bl _
def gEq (neg:Bool)  (a b:PyData) (Q:PyData->Prop):Prop:=a.canLay0=true/\b.canLay0=true/\min a.depth b.depth<=64/\Q (.bool (if neg then !PyData.eqv a b else PyData.eqv a b))
theorem m7 {K:A9} {neg:Bool}:V1 C (B04 K neg) (gEq neg):=by
 intro ρ σ P H v w a b Qd Q R hg k
 obtain⟨col,r,t1,t2⟩:=th2 R
 exact⟨a,b,t1.dat hg.1,t2.dat hg.2.1,hg.1,hg.2.1,hg.2.2.1,k _ _ _ ⟨col,r.push (.bl _)⟩ hg.2.2.2⟩
def isN:PyData->Bool
 | .none=>true
 | _=>false
def A00 (neg:Bool)  (a b:PyData) (Q:PyData->Prop):Prop:=match b with
 | .none=>Q (.bool (if neg then !isN a else isN a))
 | _=>False
theorem B9r {F:Addr->Prop} {H:Hp} {v:V} {a:PyData} (t:ThV F H v a):decide (v=V.non)=isN a:=by
 cases t <;> simp [isN]
theorem j0:V1 C (λx y H Q=>y=.non/\Q (.bl (decide (x=.non))) H) (A00 false):=by
 intro ρ σ P H v w a b Qd Q R hg k
 unfold A00 at hg
 split at hg
 ·obtain⟨col,r,t1,t2⟩:=th2 R
  cases t2
  refine⟨rfl,k _ _ _ ⟨col,r.push (d:=.bool (isN a)) ?_⟩ hg⟩
  rw[B9r t1];exact .bl _
 ·exact hg.elim
theorem A9c:V1 C (λx y H Q=>y=.non/\Q (.bl (!decide (x=.non))) H) (A00 true):=by
 intro ρ σ P H v w a b Qd Q R hg k
 unfold A00 at hg
 split at hg
 ·obtain⟨col,r,t1,t2⟩:=th2 R
  cases t2
  refine⟨rfl,k _ _ _ ⟨col,r.push (d:=.bool (!isN a)) ?_⟩ hg⟩
  rw[B9r t1];exact .bl _
 ·exact hg.elim
end
section
variable {X:Cx} {C:DC} {a b c:Expr} {ta tb tc:DE} {pos:Pos}
theorem B9s {f f':Int->Int->Bool} {σ:St} {H:Hp} {Q:VK} (h:eOf C (A1p (gI0 λi j=>.bool (f i j)) (gI0 λi j=>.bool (f' i j)) ta tb tc) σ H Q) :
  B3j (rI0 λi j=>.bl (f i j)) (rI0 λi j=>.bl (f' i j)) (eOf C ta) (eOf C tb) (eOf C tc) σ H Q:=by
 obtain⟨ρ,P,Qd,R,ht,k⟩:=h
 exact⟨ρ,P,_,R,ht,λv x ρ1 H1 R1 h1=>⟨ρ1,_,_,R1,h1,λw y ρ2 H2 R2 h2=>by
  obtain⟨col,r,t1,t2⟩:=th2 R2
  cases x with
  | int i=>
   cases y with
   | int j=>
    cases t1;cases t2
    refine⟨i,j,rfl,rfl,f i j,rfl,?_⟩
    have h2':if f i j=true then tc ρ2 (λc ρ3=>gI0 (λi j=>.bool (f' i j)) (.int j) c λd=>Qd d ρ3) else Qd (.bool false) ρ2:=h2
    cases e:f i j with
    | true=>
     rw[e] at h2'
     refine G0 ⟨ρ2,P,_,⟨col,r⟩,by simpa using h2',λu z ρ3 H3 R3 h3=>?_⟩
     obtain⟨col3,r3⟩:=R3
     have t3:=r3.pd _ D9
     cases z with
     | int l=>
      cases (show ThV (Z col3) H3 u (.int l) from t3)
      exact⟨j,l,rfl,rfl,k _ _ _ _ ⟨col3,(r3.sub λ_ h=>D3 _ h).push (.bl _)⟩ h3⟩
     | _=>exact h3.elim
    | false=>
     rw[e] at h2'
     exact C7 (k _ _ _ _ ⟨col,r.push (.bl false)⟩ (by simpa using h2'))
   | _=>exact h2.elim
  | _=>exact h2.elim⟩⟩
theorem A9d {op op':CmpOp} {f f':Int->Int->Bool} (ho:OpR X (compareOp op) (rI0 λi j=>.bl (f i j))) (ho':OpR X (compareOp op') (rI0 λi j=>.bl (f' i j))) (ha:PE X a (eOf C ta)) (hb:PE X b (eOf C tb)) (hc:PE X c (eOf C tc))
  (hm:lastMarks [op,op'] [b,c]=false:=by with_unfolding_all rfl):PE X (.Compare a [op,op'] [b,c] pos) (eOf C (A1p (gI0 λi j=>.bool (f i j)) (gI0 λi j=>.bool (f' i j)) ta tb tc)):=PE.wk (C5n ho ho' ha hb hc hm) λ_ _ _ h=>B9s h
theorem B38 {op op':CmpOp} {f f':Int->Int->Bool} (ho:OpR X (compareOp op) (rI0 λi j=>.bl (f i j))) (ho':OpR X (compareOp op') (rI0 λi j=>.bl (f' i j))) (ha:PE X a (eOf C ta)) (hb:PE X b (eOf C tb)) (hc:PE X c (eOf C tc))
  (hm:lastMarks [op,op'] [b,c]=false:=by with_unfolding_all rfl):PT X (.Compare a [op,op'] [b,c] pos) (cOf C (dT (A1p (gI0 λi j=>.bool (f i j)) (gI0 λi j=>.bool (f' i j)) ta tb tc))):=PT.wk (C5o ho ho' ha hb hc hm) λ_ _ _ h=>B9s (B33 h)
end
section
variable {X:Cx} {C:DC} {e a b:Expr} {es:List Expr} {t ta tb:DE} {u:DF} {pos:Pos}
theorem B9t {P P':List Pe} {x:Pe} (h:∀p∈P,p∈P'):∀p∈x::P,p∈x::P':=λp hp=>(N3.mp hp).elim (λe=>e▸D9) λhp=>D3 _ (h p hp)
def A33  (ρ:List Sl) (Q:List PyData->List Sl->Prop):Prop:=Q [] ρ
def A34 (t:DE) (u:DF)  (ρ:List Sl) (Q:List PyData->List Sl->Prop):Prop:=t ρ λd ρ1=>u ρ1 λds ρ2=>Q (d::ds) ρ2
theorem E7:PA X [] (vOf C A33):=PA.wk A5 λ_ _ _ zz1=>el3 zz1 λ_ _ _ R ht k=>k [] [] _ _ _ R (λ_ h=>h) .nil ht
theorem C3 (ha:PE X e (eOf C t)) (hr:PA X es (vOf C u)) (hs:starEach (e::es) X.env=(false,eval e X.env)::starEach es X.env:=by rfl):PA X (e::es) (vOf C (A34 t u)):=PA.wk (A1 ha hr hs) λ_ _ _ zz2=>el3 zz2 fun ρ P _ R ht k=>
 ⟨ρ,P,_,R,ht,λ_ _ ρ1 _ R1 h1=>⟨ρ1,_,_,R1,h1,λ_ _ _ _ _ R2 s2 p2 h2=>k _ _ _ _ _ R2 (λp hp=>s2 p (D3 _ hp)) (.cons (s2 _ D9) p2) h2⟩⟩
def A35 (t:DF)  (ρ:List Sl) (Q:PyData->List Sl->Prop):Prop:=t ρ λds ρ'=>ds.length<=1000/\Q (.tuple ds) ρ'
theorem U2 {x1} (h:PA X es (vOf C u)):PE X (.Tuple es x1 pos) (eOf C (A35 u)):=PE.wk (R8 h) λ_ _ _ zz3=>el3 zz3 fun ρ P _ R ht k=>⟨ρ,P,_,R,ht,λvs ds ρ' P' H' zz4 s p q=>zz4.elim λcol r=>
 ⟨by rw[(p.th r).len];exact A8o (B00 q.1),λb hb=>k _ _ _ _ ⟨col,(r.tup (p.th r) hb).sub (B9t s)⟩ q.2⟩⟩
def A36 (t:DF)  (ρ:List Sl) (Q:List PyData->List Sl->Prop):Prop:=t ρ λds ρ'=>ds.length<=1000/\Q ds ρ'
theorem W9 (h:PA X es (vOf C u)):PE X (.List es pos) (fOf C (A36 u)):=PE.wk (U9 h) λ_ _ _ zz5=>el3 zz5 fun ρ P _ R ht k=>⟨ρ,P,_,R,ht,λvs ds ρ' P' H' zz6 s p q=>zz6.elim λcol r=>
 ⟨by rw[(p.th r).len];exact A8o (B00 q.1),λb hb=>k _ _ _ _ _ ⟨col,r.sub s,p.th r⟩ hb q.2⟩⟩
def dF (t:DF)  (ρ:List Sl) (Q:PyData->List Sl->Prop):Prop:=t ρ λds ρ'=>Q (.list ds) ρ'
theorem K6 (h:PE X e (fOf C u)):PE X e (eOf C (dF u)):=PE.wk h λ_ _ _ zz7=>el3 zz7 fun ρ P _ R ht k=>⟨ρ,P,_,R,ht,λ_ _ _ _ _ zz8 hp q=>el2 zz8 λcol r t=>k _ _ _ _ ⟨col,r.lst t hp⟩ q⟩
def ixD (a b:PyData):Option PyData:=match a,b with
 | .list xs,.int i=>atI xs i
 | .tuple xs,.int i=>atI xs i
 | _,_=>none
theorem B09 {F:Addr->Prop} {H:Hp} {vs:List V} {ds:List PyData} {i:Int} {d:PyData} (t:B2 F H vs ds) (h:atI ds i=some d):∃v,atI vs i=some v/\ThV F H v d:=by
 unfold atI at h ⊢
 rw[t.len]
 cases q:ixN ds.length i with
 | none=>rw[q] at h;cases h
 | some j=>
  rw[q] at h
  exact t.at h
theorem B9u {K:A9} {col:Addr->Nat} {H:Hp} {v w:V} {a b d:PyData} (t1:Red col H v a) (t2:ThV (Z col) H w b) (h:ixD a b=some d):∃u,ThV (Z col) H u d/\∀Q:VK,Q u H->rIx K v w H Q:=by
 unfold ixD at h
 split at h
 ·cases t2
  obtain⟨p,vs,rfl,e,t⟩:=t1.lst
  obtain⟨u,hu,tu⟩:=B09 t h
  exact⟨u,tu,λQ q=>.inl ⟨p,vs,_,u,rfl,rfl,SqL.of e,hu,q⟩⟩
 ·cases t2
  obtain⟨p,vs,rfl,e,t⟩:=t1.tup
  obtain⟨u,hu,tu⟩:=B09 t h
  exact⟨u,tu,λQ q=>.inr (.inl ⟨p,vs,_,u,rfl,rfl,SqT.of e,hu,q⟩)⟩
 ·cases h
def dIx (ta tb:DE)  (ρ:List Sl) (Q:PyData->List Sl->Prop):Prop:=ta ρ λa ρ1=>tb ρ1 λb ρ2=>bnd (ixD a b) λd=>Q d ρ2
theorem P2 (ha:PE X a (eOf C ta)) (hb:PE X b (eOf C tb)) (hs:B3n b):PE X (.Subscript a b pos) (eOf C (dIx ta tb)):=PE.wk (C4 X8 ha hb hs) λ_ _ _ zz9=>el3 zz9 fun ρ P _ R ht k=>⟨ρ,P,_,R,ht,λv _ ρ1 H1 R1 h1=>⟨ρ1,_,_,R1,h1,λw _ ρ2 H2 R2 h2=>by
 obtain⟨d,hd,q⟩:=M9 h2
 obtain⟨col,r,t1,t2⟩:=th2 R2
 obtain⟨u,tu,f⟩:=B9u (K:=X.K) (.th t1) t2 hd
 exact f _ (k _ _ _ _ ⟨col,r.push tu⟩ q)⟩⟩
def A37 (i:Nat) (tb:DE)  (ρ:List Sl) (Q:PyData->List Sl->Prop):Prop:=bnd (R9 ρ i) λ_=>tb ρ λb ρ2=>bnd (R9 ρ2 i) λa=>bnd (ixD a b) λd=>Q d ρ2
theorem C2 {i:Nat} (ha:PE X a (U7 i)) (hb:PE X b (eOf C tb)) (hs:B3n b):PE X (.Subscript a b pos) (eOf C (A37 i tb)):=PE.wk (C4 X8 ha hb hs) fun σ H Q zz10=>el3 zz10 fun ρ P Qd zz11 ht k=>zz11.elim λcol0 r0=>by
 obtain⟨_,h0,ht⟩:=M9 ht
 obtain⟨v,ev,_⟩:=r0.slot h0
 refine⟨v,ev,ρ,P,_,⟨col0,r0⟩,ht,λw b ρ2 H2 R2 h2=>?_⟩
 obtain⟨a,ha,h2⟩:=M9 h2
 obtain⟨d,hd,q⟩:=M9 h2
 obtain⟨col,r⟩:=R2
 obtain⟨v',ev',t1⟩:=r.slot ha
 rw[ev] at ev'
 cases ev'
 obtain⟨u,tu,f⟩:=B9u (K:=X.K) t1 (r.pd _ D9) hd
 exact f _ (k _ _ _ _ ⟨col,(r.sub λ_ h=>D3 _ h).push tu⟩ q)
def A01 (C:DC) (r:List V->Hp->VK->Prop) (g:List PyData->(PyData->Prop)->Prop):Prop:=
 ∀{ρ:List Sl} {σ:St} {P:List Pe} {col:Addr->Nat} {H:Hp} {vs:List V} {ds:List PyData} {Qd:PyData->Prop} {Q:VK},F1 C col ρ σ P H->B2 (Z col) H vs ds->g ds Qd->(∀u d H',Rel C ρ σ (.v u d::P) H'->Qd d->Q u H')->r vs H Q
def dCb (g:List PyData->(PyData->Prop)->Prop) (u:DF)  (ρ:List Sl) (Q:PyData->List Sl->Prop):Prop:=u ρ λds ρ'=>g ds λd=>Q d ρ'
theorem S7 {r:List V->Hp->VK->Prop} {g:List PyData->(PyData->Prop)->Prop} (hr:A01 C r g) (h:PE X e (tCB r (vOf C u))):PE X e (eOf C (dCb g u)):=PE.wk h λ_ _ _ zz12=>el3 zz12 fun ρ P _ R ht k=>⟨ρ,P,_,R,ht,λvs ds ρ' P' H' zz13 s p q=>zz13.elim λcol r=>
 hr (r.sub s) (p.th r) q λu d H2 R2 q2=>k _ _ _ _ R2 q2⟩
theorem A2g {F:Addr->Prop} {H:Hp} {vs:List V} {d:PyData} (t:B2 F H vs [d]):∃v,vs=[v]/\ThV F H v d:=by
 cases t with
 | cons x y=>cases y;exact⟨_,rfl,x⟩
theorem Q7 {F:Addr->Prop} {H:Hp} {vs:List V} {d d':PyData} (t:B2 F H vs [d,d']):∃v w,vs=[v,w]/\ThV F H v d/\ThV F H w d':=by
 cases t with
 | cons x y=>
  obtain⟨w,rfl,z⟩:=A2g y
  exact⟨_,w,rfl,x,z⟩
def lenD:PyData->Option Nat
 | .list xs=>some xs.length
 | .tuple xs=>some xs.length
 | _=>none
def A2h  (ds:List PyData) (Q:PyData->Prop):Prop:=match ds with
 | [d]=>bnd (lenD d) λn=>Q (.int n)
 | _=>False
abbrev B39 (K:A9):List V->Hp->VK->Prop:=λxs H Q=>∃p ys,xs=[.ref p]/\(SqL K H p ys\/SqT K H p ys)/\Q (.int ys.length) H
theorem B9v {K:A9} {col:Addr->Nat} {H:Hp} {v:V} {a:PyData} {n:Nat} {Q:VK} (t:Red col H v a) (h:lenD a=some n) (q:Q (.int n) H):B39 K [v] H Q:=by
 cases a with
 | list ds=>
  cases h
  obtain⟨p,vs,rfl,e,t⟩:=t.lst
  exact⟨p,vs,rfl,.inl (SqL.of e),by rw[t.len];exact q⟩
 | tuple ds=>
  cases h
  obtain⟨p,vs,rfl,e,t⟩:=t.tup
  exact⟨p,vs,rfl,.inr (SqT.of e),by rw[t.len];exact q⟩
 | _=>cases h
theorem B4a {K:A9}:A01 C (B39 K) A2h:=by
 intro ρ σ P col H vs ds Qd Q r t g k
 unfold A2h at g
 split at g
 ·obtain⟨v,rfl,t1⟩:=A2g t
  obtain⟨n,hn,q⟩:=M9 g
  exact B9v (.th t1) hn (k _ _ _ ⟨col,r.push (.int _)⟩ q)
 ·exact g.elim
def A38 (i:Nat)  (ρ:List Sl) (Q:PyData->List Sl->Prop):Prop:=bnd (R9 ρ i) λa=>bnd (lenD a) λn=>Q (.int n) ρ
theorem A39 {i:Nat} {K:A9} (h:PE X e (tCB (B39 K) (g8 (U7 i) g7))):PE X e (eOf C (A38 i)):=PE.wk h λ_ _ _ zz14=>el3 zz14 fun ρ P _ zz15 ht k=>zz15.elim λcol r=>by
 obtain⟨a,ha,ht⟩:=M9 ht
 obtain⟨n,hn,q⟩:=M9 ht
 obtain⟨v,ev,t⟩:=r.slot ha
 exact⟨v,ev,B9v t hn (k _ _ _ _ ⟨col,r.push (.int _)⟩ q)⟩
def gI2 (f:Int->Int->Int)  (ds:List PyData) (Q:PyData->Prop):Prop:=match ds with
 | [.int i,.int j]=>Q (.int (f i j))
 | _=>False
theorem B9w {f:Int->Int->Int}:A01 C (λxs H Q=>∃i j,xs=[.int i,.int j]/\Q (.int (f i j)) H) (gI2 f):=by
 intro ρ σ P col H vs ds Qd Q r t g k
 unfold gI2 at g
 split at g
 ·obtain⟨v,w,rfl,t1,t2⟩:=Q7 t
  cases t1;cases t2
  exact⟨_,_,rfl,k _ _ _ ⟨col,r.push (.int _)⟩ g⟩
 ·exact g.elim
def A4a:=gI2 λi j=>if j < i then j else i
def A4b:=gI2 λi j=>if j > i then j else i
theorem A02:A01 C (λxs H Q=>∃i j,xs=[.int i,.int j]/\Q (.int (if j < i then j else i)) H) A4a:=B9w (f:=λi j=>if j < i then j else i)
theorem A9e:A01 C (λxs H Q=>∃i j,xs=[.int i,.int j]/\Q (.int (if j > i then j else i)) H) A4b:=B9w (f:=λi j=>if j > i then j else i)
def A2i  (ds:List PyData) (Q:PyData->Prop):Prop:=match ds with
 | [.int i]=>Q (.int (if i < 0 then -i else i))
 | _=>False
theorem C7n:A01 C (λxs H Q=>∃i,xs=[.int i]/\Q (.int (if i < 0 then -i else i)) H) A2i:=by
 intro ρ σ P col H vs ds Qd Q r t g k
 unfold A2i at g
 split at g
 ·obtain⟨v,rfl,t1⟩:=A2g t
  cases t1
  exact⟨_,rfl,k _ _ _ ⟨col,r.push (.int _)⟩ g⟩
 ·exact g.elim
def A2j  (ds:List PyData) (Q:PyData->Prop):Prop:=match ds with
 | [.int i]=>Q (.int i)
 | [.bool b]=>Q (.int (if b then 1 else 0))
 | _=>False
theorem C7o:A01 C (λxs H Q=>(∃i,xs=[.int i]/\Q (.int i) H)\/∃k,xs=[.bl k]/\Q (.int (if k then 1 else 0)) H) A2j:=by
 intro ρ σ P col H vs ds Qd Q r t g k
 unfold A2j at g
 split at g
 ·obtain⟨v,rfl,t1⟩:=A2g t
  cases t1
  exact .inl ⟨_,rfl,k _ _ _ ⟨col,r.push (.int _)⟩ g⟩
 ·obtain⟨v,rfl,t1⟩:=A2g t
  cases t1
  exact .inr ⟨_,rfl,k _ _ _ ⟨col,r.push (.int _)⟩ g⟩
 ·exact g.elim
def A4c:List PyData->Option (List Bool)
 | []=>some []
 | .bool b::r=>(A4c r).map (b::·)
 | _::_=>none
theorem C7p {F:Addr->Prop} {H:Hp} {ds:List PyData} {vs:List V} {bs:List Bool} (t:B2 F H vs ds) (h:A4c ds=some bs):vs=bs.map V.bl:=by
 induction ds generalizing vs bs with
 | nil=>cases t;cases h;rfl
 | cons d r ih=>
  cases t with
  | cons x y=>
   cases x with
   | bl b=>
    have h':(A4c r).map (b::·)=some bs:=h
    cases q:A4c r with
    | none=>rw[q] at h';cases h'
    | some cs=>
     rw[q] at h'
     cases h'
     rw[ih y q];rfl
   | _=>cases h
def gBs (f:List Bool->Bool)  (ds:List PyData) (Q:PyData->Prop):Prop:=match ds with
 | [.list xs]=>bnd (A4c xs) λbs=>Q (.bool (f bs))
 | _=>False
theorem C7q {K:A9} {f:List Bool->Bool}:A01 C (λxs H Q=>∃(p:Addr) (bs:List Bool),xs=[.ref p]/\SqL K H p (bs.map V.bl)/\Q (.bl (f bs)) H) (gBs f):=by
 intro ρ σ P col H vs ds Qd Q r t g k
 unfold gBs at g
 split at g
 ·obtain⟨bs,hb,q⟩:=M9 g
  obtain⟨v,rfl,t1⟩:=A2g t
  cases t1 with
  | lst _ e t2=>
   have z:=C7p t2 hb
   subst z
   exact⟨_,bs,rfl,SqL.of e,k _ _ _ ⟨col,r.push (.bl _)⟩ q⟩
 ·exact g.elim
def A4d:=gBs λbs=>bs.all id
def A59:=gBs λbs=>bs.any id
theorem C7r {K:A9}:A01 C (λxs H Q=>∃(p:Addr) (bs:List Bool),xs=[.ref p]/\SqL K H p (bs.map V.bl)/\Q (.bl (bs.all id)) H) A4d:=C7q
abbrev B9x (K:A9):List V->Hp->VK->Prop:=λxs H Q=>∃p ys,xs=[.ref p]/\(SqL K H p ys\/SqT K H p ys)/\∀l,H l=none->Q (.ref l) (upd H l (.lst ys))
def A03:PyData->Option (List PyData)
 | .list xs=>some xs
 | .tuple xs=>some xs
 | _=>none
theorem B9y {col:Addr->Nat} {H:Hp} {v:V} {a:PyData} {ds:List PyData} (t:Red col H v a) (h:A03 a=some ds):∃p vs,v=.ref p/\(H p=some (.lst vs)\/H p=some (.tup vs))/\B2 (Z col) H vs ds:=by
 cases a with
 | list ds=>
  cases h
  obtain⟨p,vs,rfl,e,t⟩:=t.lst
  exact⟨p,vs,rfl,.inl e,t⟩
 | tuple ds=>
  cases h
  obtain⟨p,vs,rfl,e,t⟩:=t.tup
  exact⟨p,vs,rfl,.inr e,t⟩
 | _=>cases h
def A4e (i:Nat)  (ρ:List Sl) (Q:List PyData->List Sl->Prop):Prop:=bnd (R9 ρ i) λa=>bnd (A03 a) λds=>Q ds ρ
theorem B4b {i:Nat} {K:A9} (h:PE X e (tCB (B9x K) (g8 (U7 i) g7))):PE X e (fOf C (A4e i)):=PE.wk h λ_ _ _ zz16=>el3 zz16 fun ρ P _ zz17 ht k=>zz17.elim λcol r=>by
 obtain⟨a,ha,ht⟩:=M9 ht
 obtain⟨ds,hn,q⟩:=M9 ht
 obtain⟨v,ev,t⟩:=r.slot ha
 obtain⟨p,vs,rfl,e,t⟩:=B9y t hn
 exact⟨_,ev,p,vs,rfl,e.elim (λe=>.inl (SqL.of e)) (λe=>.inr (SqT.of e)),λl hl=>k _ _ _ _ _ ⟨col,r,t⟩ hl q⟩
def A4f (ta:DE)  (ρ:List Sl) (Q:List PyData->List Sl->Prop):Prop:=ta ρ λa ρ'=>bnd (A03 a) λds=>Q ds ρ'
theorem C7s {K:A9} (h:PE X e (tCB (B9x K) (g8 (eOf C ta) g7))):PE X e (fOf C (A4f ta)):=PE.wk h λ_ _ _ zz18=>el3 zz18 fun ρ P _ R ht k=>⟨ρ,P,_,R,ht,λv d ρ' H' zz19 q=>zz19.elim λcol r=>by
 obtain⟨ds,hn,q⟩:=M9 q
 obtain⟨p,vs,rfl,e,t⟩:=B9y (.th (r.pd _ D9)) hn
 exact⟨p,vs,rfl,e.elim (λe=>.inl (SqL.of e)) (λe=>.inr (SqT.of e)),λl hl=>k _ _ _ _ _ ⟨col,r.sub λ_ h=>D3 _ h,t⟩ hl q⟩⟩
abbrev DO:=List Sl->(Option Int->List Sl->Prop)->Prop
def oOf (C:DC) (t:DO):TO:=fun σ H Q=>∃ρ P Qd,Rel C ρ σ P H/\t ρ Qd/\∀o ρ' H',Rel C ρ' σ P H'->Qd o ρ'->Q o H'
def oN  (ρ:List Sl) (Q:Option Int->List Sl->Prop):Prop:=Q none ρ
def oS (t:DE)  (ρ:List Sl) (Q:Option Int->List Sl->Prop):Prop:=t ρ λd ρ'=>match d with
 | .int i=>Q (some i) ρ'
 | _=>False
theorem B4c:PO X none (oOf C oN):=PO.wk B8m λ_ _ _ zz20=>el3 zz20 λ_ _ _ R ht k=>k _ _ _ R ht
theorem A9f (h:PE X e (eOf C t)):PO X (some e) (oOf C (oS t)):=PO.wk (B8n h) λ_ _ _ zz21=>el3 zz21 fun ρ P _ R ht k=>⟨ρ,P,_,R,ht,λv d ρ' H' R' q=>by
 split at q
 ·obtain⟨col,r⟩:=R'
  have t:=r.pd _ D9
  cases (show ThV (Z col) H' v (.int _) from t)
  exact⟨_,rfl,k _ _ _ (Rel.pop ⟨col,r⟩) q⟩
 ·exact q.elim⟩
def m8 (xs:List PyData) (lo hi:Option Int):List PyData:=(xs.drop (HT.sIx xs.length 0 lo)).take (HT.sIx xs.length xs.length hi - HT.sIx xs.length 0 lo)
theorem B2.drop {F:Addr->Prop} {H:Hp}:∀{vs:List V} {ds:List PyData} (n:Nat),B2 F H vs ds->B2 F H (vs.drop n) (ds.drop n)
 | _,_,0,h=>h
 | _,_,_ + 1,.nil=>.nil
 | _,_,n + 1,.cons _ t=>B2.drop n t
theorem B2.take {F:Addr->Prop} {H:Hp}:∀{vs:List V} {ds:List PyData} (n:Nat),B2 F H vs ds->B2 F H (vs.take n) (ds.take n)
 | _,_,0,_=>.nil
 | _,_,_ + 1,.nil=>.nil
 | _,_,n + 1,.cons x t=>.cons x (B2.take n t)
theorem B9z {F:Addr->Prop} {H:Hp} {vs:List V} {ds:List PyData} (t:B2 F H vs ds) (lo hi:Option Int):B2 F H (A3q vs lo hi) (m8 ds lo hi):=by
 unfold A3q m8
 rw[t.len]
 exact (t.drop _).take _
def O1:PyData->Option (List PyData)
 | .list xs=>some xs
 | _=>none
def A4g (i:Nat) (tl th:DO)  (ρ:List Sl) (Q:List PyData->List Sl->Prop):Prop:=bnd (R9 ρ i) λ_=>tl ρ λlo ρ1=>th ρ1 λhi ρ2=>bnd (R9 ρ2 i) λa=>bnd (O1 a) λxs=>Q (m8 xs lo hi) ρ2
theorem B90 {i:Nat} {lo hi:Option Expr} {p2:Pos} {tl th:DO} (ha:PE X a (U7 i)) (hl:PO X lo (oOf C tl)) (hh:PO X hi (oOf C th)):PE X (.Subscript a (.Slice lo hi none p2) pos) (fOf C (A4g i tl th)):=PE.wk (B3m B3o ha hl hh) fun σ H Q zz22=>el3 zz22 fun ρ P Qd zz23 ht k=>zz23.elim λcol0 r0=>by
 obtain⟨_,h0,ht⟩:=M9 ht
 obtain⟨v,ev,_⟩:=r0.slot h0
 refine⟨v,ev,ρ,P,_,⟨col0,r0⟩,ht,λlo ρ1 H1 R1 h1=>⟨ρ1,P,_,R1,h1,λhi ρ2 H2 R2 h2=>?_⟩⟩
 obtain⟨a,ha,h2⟩:=M9 h2
 obtain⟨xs,hx,q⟩:=M9 h2
 obtain⟨col,r⟩:=R2
 obtain⟨v',ev',t1⟩:=r.slot ha
 rw[ev] at ev'
 cases ev'
 cases a with
 | list ds=>
  cases hx
  obtain⟨p,vs,rfl,e,t⟩:=t1.lst
  exact⟨p,vs,rfl,SqL.of e,λb hb=>k _ _ _ _ _ ⟨col,r,B9z t lo hi⟩ hb q⟩
 | _=>cases hx
def dSl (ta:DE) (tl th:DO)  (ρ:List Sl) (Q:List PyData->List Sl->Prop):Prop:=ta ρ λa ρ0=>tl ρ0 λlo ρ1=>th ρ1 λhi ρ2=>bnd (O1 a) λxs=>Q (m8 xs lo hi) ρ2
theorem B91 {lo hi:Option Expr} {p2:Pos} {tl th:DO} (ha:PE X a (eOf C ta)) (hl:PO X lo (oOf C tl)) (hh:PO X hi (oOf C th)):PE X (.Subscript a (.Slice lo hi none p2) pos) (fOf C (dSl ta tl th)):=PE.wk (B3m B3o ha hl hh) fun σ H Q zz24=>el3 zz24 fun ρ P Qd R ht k=>
 ⟨ρ,P,_,R,ht,λv a ρ0 H0 R0 h0=>⟨ρ0,_,_,R0,h0,λlo ρ1 H1 R1 h1=>⟨ρ1,_,_,R1,h1,λhi ρ2 H2 R2 h2=>by
  obtain⟨xs,hx,q⟩:=M9 h2
  obtain⟨col,r⟩:=R2
  cases a with
  | list ds=>
   cases hx
   obtain⟨p,vs,rfl,e,t⟩:=Red.lst (.th (r.pd _ D9))
   exact⟨p,vs,rfl,SqL.of e,λb hb=>k _ _ _ _ _ ⟨col,r.sub λ_ h=>D3 _ h,B9z t lo hi⟩ hb q⟩
  | _=>cases hx⟩⟩⟩
def A4h (ta tb:DE)  (ρ:List Sl) (Q:List PyData->List Sl->Prop):Prop:=ta ρ λa ρ1=>tb ρ1 λb ρ2=>bnd (O1 a) λxs=>bnd (O1 b) λys=>xs.length + ys.length<=100000/\Q (xs++ys) ρ2
theorem A9g (ha:PE X a (eOf C ta)) (hb:PE X b (eOf C tb)):PE X (.BinOp a .Add b pos) (fOf C (A4h ta tb)):=PE.wk (J2 B8y ha hb) fun σ H Q zz25=>el3 zz25 fun ρ P Qd R ht k=>
 ⟨ρ,P,_,R,ht,λv a ρ1 H1 R1 h1=>⟨ρ1,_,_,R1,h1,λw b ρ2 H2 R2 h2=>by
  obtain⟨xs,hx,h2⟩:=M9 h2
  obtain⟨ys,hy,h3,q⟩:=M9 h2
  obtain⟨col,r,t1,t2⟩:=th2 R2
  cases a with
  | list ds=>
   cases b with
   | list es=>
    cases hx;cases hy
    obtain⟨p,vs,rfl,e,t⟩:=Red.lst (.th t1)
    obtain⟨p',vs',rfl,e',t'⟩:=Red.lst (.th t2)
    exact⟨p,p',vs,vs',rfl,rfl,e,e',by rw[t.len,t'.len,sizeLine_eq];lia,λb hb=>k _ _ _ _ _ ⟨col,r,t.append t'⟩ hb q⟩
   | _=>cases hy
  | _=>cases hx⟩⟩
def A4i (xs:List PyData) (n:Nat):List PyData:=(E5 n xs).flatten
theorem B92 {F:Addr->Prop} {H:Hp} {vs:List V} {ds:List PyData} (t:B2 F H vs ds):∀n:Nat,B2 F H (E5 n vs).flatten (A4i ds n)
 | 0=>.nil
 | n + 1=>by
  unfold A4i
  rw[A0j,A0j,A3e,A3e]
  exact t.append (B92 t n)
def A4j (ta tb:DE)  (ρ:List Sl) (Q:List PyData->List Sl->Prop):Prop:=ta ρ λa ρ1=>tb ρ1 λb ρ2=>match b with
 | .int k=>bnd (O1 a) λxs=>(-1000<=k/\k<=1000/\xs.length<=100)/\Q (A4i xs k.toNat) ρ2
 | _=>False
theorem B4d (ha:PE X a (eOf C ta)) (hb:PE X b (eOf C tb)):PE X (.BinOp a .Mult b pos) (fOf C (A4j ta tb)):=PE.wk (J2 C6p ha hb) fun σ H Q zz26=>el3 zz26 fun ρ P Qd R ht k=>
 ⟨ρ,P,_,R,ht,λv a ρ1 H1 R1 h1=>⟨ρ1,_,_,R1,h1,λw b ρ2 H2 R2 h2=>by
  split at h2
  ·obtain⟨xs,hx,⟨h3,h4,h5⟩,q⟩:=M9 h2
   obtain⟨col,r,t1,t2⟩:=th2 R2
   cases t2
   cases a with
   | list ds=>
    cases hx
    obtain⟨p,vs,rfl,e,t⟩:=Red.lst (.th t1)
    rename_i kk
    refine⟨p,kk,vs,rfl,rfl,e,by lia,by lia,?_,λb hb=>k _ _ _ _ _ ⟨col,r,B92 t _⟩ hb q⟩
    have hl:=t.len
    rw[<-hl] at h5
    have:vs.length * kk.toNat<=100 * 1000:=Nat.mul_le_mul h5 (by lia)
    rw[sizeLine_eq]
    lia
   | _=>cases hx
  ·exact h2.elim⟩⟩
def tyD:PyData->Option String
 | .none=>some "NoneType"
 | .bool _=>some "bool"
 | .int _=>some "int"
 | .str _=>some "str"
 | .list _=>some "list"
 | .tuple _=>some "tuple"
 | .dict _=>some "dict"
theorem B93 {K:A9} {col:Addr->Nat} {H:Hp} {v:V} {a:PyData} (t:Red col H v a):∃T,tyD a=some T/\A89 K H v (.type T):=by
 cases t with
 | th t=>cases t with
  | non=>exact⟨_,rfl,.o .non⟩
  | bl b=>exact⟨_,rfl,.o (.bl b)⟩
  | int i=>exact⟨_,rfl,.o (.int i)⟩
  | str x=>exact⟨_,rfl,.o (.str x)⟩
  | lst _ e _=>exact⟨_,rfl,.o (.lst e)⟩
  | tup _ e _=>exact⟨_,rfl,.o (.tup e)⟩
  | dic _ e u=>cases u with
   | t=>exact⟨_,rfl,.o (.dT e)⟩
   | k i j=>exact⟨_,rfl,.o (.dK e)⟩
   | f o ks=>exact⟨_,rfl,.f e⟩
 | ls e _=>exact⟨_,rfl,.o (.lst e)⟩
def Z4 (T:String) (d:PyData):Bool:=match tyD d with
 | some t=>t == T||(T == "int" &&t == "bool")
 | none=>false
def A6a (K:A9) (T:String):Prop:=∀d t,tyD d=some t->p6 K (.type t) (.type T)=some (Z4 T d)
abbrev B94 (K:A9):List V->Hp->VK->Prop:=λxs H Q=>∃x cv c t b,xs=[x,cv]/\E1 cv c/\A89 K H x t/\p6 K t c=some b/\Q (.bl b) H
def A4k (i:Nat) (T:String)  (ρ:List Sl) (Q:PyData->List Sl->Prop):Prop:=bnd (R9 ρ i) λa=>Q (.bool (Z4 T a)) ρ
theorem A2k {i:Nat} {K:A9} {T:String} (hT:A6a K T) (h:PE X e (tCB (B94 K) (g8 (U7 i) (g8 (tC (.ty T)) g7)))):PE X e (eOf C (A4k i T)):=PE.wk h λ_ _ _ zz27=>el3 zz27 fun ρ P _ zz28 ht k=>zz28.elim λcol r=>by
 obtain⟨a,ha,q⟩:=M9 ht
 obtain⟨v,ev,t⟩:=r.slot ha
 obtain⟨t',e1,e2⟩:=B93 (K:=K) t
 exact⟨v,ev,v,.ty T,.type T,_,_,rfl,rfl,e2,hT a t' e1,k _ _ _ _ ⟨col,r.push (.bl _)⟩ q⟩
def A4l (ta:DE) (T:String)  (ρ:List Sl) (Q:PyData->List Sl->Prop):Prop:=ta ρ λa ρ'=>Q (.bool (Z4 T a)) ρ'
theorem C7t {K:A9} {T:String} (hT:A6a K T) (h:PE X e (tCB (B94 K) (g8 (eOf C ta) (g8 (tC (.ty T)) g7)))):PE X e (eOf C (A4l ta T)):=PE.wk h λ_ _ _ zz29=>el3 zz29 fun ρ P _ R ht k=>⟨ρ,P,_,R,ht,λv d ρ' H' zz30 q=>zz30.elim λcol r=>by
 obtain⟨t',e1,e2⟩:=B93 (K:=K) (.th (r.pd _ D9))
 exact⟨v,.ty T,.type T,_,_,rfl,rfl,e2,hT d t' e1,k _ _ _ _ ⟨col,(r.sub λ_ h=>D3 _ h).push (.bl _)⟩ q⟩⟩
theorem B95 {K:A9}:A6a K "int" :=λd t h=>by cases d <;> cases h <;> with_unfolding_all rfl
theorem B96 {K:A9}:A6a K "bool" :=λd t h=>by cases d <;> cases h <;> with_unfolding_all rfl
theorem B4e {K:A9}:A6a K "list" :=λd t h=>by cases d <;> cases h <;> with_unfolding_all rfl
theorem B4f {K:A9}:A6a K "tuple" :=λd t h=>by cases d <;> cases h <;> with_unfolding_all rfl
end
inductive Md where
 | sh
 | bo
 | hd
 | b2
 | bd
def A2l:List PyData->Option (List (List PyData))
 | []=>some []
 | .list ds::r=>(A2l r).map (ds::·)
 | _=>none
def B4g:PyData->Option (List (List PyData))
 | .list xs=>A2l xs
 | _=>none
abbrev lls (dss:List (List PyData)):List PyData:=dss.map PyData.list
theorem C7u {xs:List PyData} {dss:List (List PyData)} (h:A2l xs=some dss):xs=lls dss:=by
 induction xs generalizing dss with
 | nil=>cases h;rfl
 | cons x r ih=>
  cases x with
  | list ds=>
   have h':(A2l r).map (ds::·)=some dss:=h
   cases q:A2l r with
   | none=>rw[q] at h';cases h'
   | some ess=>
    rw[q] at h'
    cases h'
    rw[ih q];rfl
  | _=>cases h
theorem C7v {d:PyData} {dss:List (List PyData)} (h:B4g d=some dss):d=.list (lls dss):=by
 cases d with
 | list xs=>rw[C7u h]
 | _=>cases h
theorem C7w {F:Addr->Prop} {H:Hp} {dss:List (List PyData)} {vs:List V} (t:B2 F H vs (lls dss)):∃as:List Addr,vs=as.map V.ref/\Rws F F H as dss:=by
 induction dss generalizing vs with
 | nil=>cases t;exact⟨[],rfl,.nil⟩
 | cons ds dss ih=>
  cases t with
  | cons x y=>
   obtain⟨as,rfl,r⟩:=ih y
   cases x with
   | lst n e z=>exact⟨_::as,rfl,.cons n e z r⟩
def slot2 (ρ:List Sl) (i:Nat):Option (List (List PyData)):=match ρ[i]? with
 | some (.o2 dss)=>some dss
 | some (.b2 dss)=>some dss
 | some (.sh d)=>B4g d
 | _=>none
def B4h (F:Addr->Prop) (hand:Option (Addr×Addr)) (H:Hp) (v:V) (d:PyData):Md->Prop
 | .sh=>ThV F H v d
 | .bo=>∃a vs ds,v=.ref a/\d=.list ds/\(∀q,hand=some q->a≠q.1)/\H a=some (.lst vs)/\B2 F H vs ds
 | .hd=>∃q,hand=some q/\v=.ref q.1
 | .b2=>∃a as dss,v=.ref a/\d=.list (lls dss)/\(∀q,hand=some q->a≠q.1)/\H a=some (.lst (as.map V.ref))/\Rws (λb=>∀q,hand=some q->b≠q.1) F H as dss
 | .bd=>ThV (λb=>∀q,hand=some q->b≠q.1) H v d
inductive Z5 (F:Addr->Prop) (hand:Option (Addr×Addr)) (H:Hp):List Md->List V->List PyData->Prop
 | nil:Z5 F hand H [] [] []
 | cons {m v d ms vs ds}:B4h F hand H v d m->Z5 F hand H ms vs ds->Z5 F hand H (m::ms) (v::vs) (d::ds)
theorem Z5.len {F:Addr->Prop} {hand:Option (Addr×Addr)} {H:Hp} {ms:List Md} {vs:List V} {ds:List PyData} (t:Z5 F hand H ms vs ds):vs.length=ms.length/\ds.length=ms.length:=by
 induction t with
 | nil=>exact⟨rfl,rfl⟩
 | cons _ t ih=>exact⟨congrArg (· + 1) ih.1,congrArg (· + 1) ih.2⟩
abbrev DSp:=List PyData->(PyData->Prop)->Prop
def spD (ms:List Md) (sp:DSp):Sp:=λvs H Q _=>∃F hand ds Qd,((∀b,H b=none->F b)/\∀b xs,H b=some (.tup xs)->F b)/\(∀q,hand=some q->¬ F q.1)/\Hq hand H/\Z5 F hand H ms vs ds/\sp ds Qd/\∀d v H',Qd d->ThV F H' v d->Kq hand H H'->Hq hand H'->Q v H'
inductive Ar where
 | v (d:PyData)
 | s (i:Nat)
 | w (d:PyData)
inductive ArV (σ:St) (P:List Pe):List V->List Ar->Prop
 | nil:ArV σ P [] []
 | v {v d vs as}:Pe.v v d∈P->ArV σ P vs as->ArV σ P (v::vs) (.v d::as)
 | s {i v vs as}:σ[i]?=some (some v)->ArV σ P vs as->ArV σ P (v::vs) (.s i::as)
 | w {v d vs as}:Pe.w v d∈P->ArV σ P vs as->ArV σ P (v::vs) (.w d::as)
abbrev DA:=List Sl->(List Ar->List Sl->Prop)->Prop
def aOf (C:DC) (t:DA):TA:=fun σ H Q=>∃ρ P Qd,Rel C ρ σ P H/\t ρ Qd/\∀vs as ρ' P' H',Rel C ρ' σ P' H'->(∀p∈P,p∈P')->ArV σ P' vs as->Qd as ρ'->Q vs H'
def A1q (ρ:List Sl) (i:Nat):Bool:=match ρ[i]? with
 | some .no=>false
 | none=>false
 | _=>true
section
variable {X:Cx} {C:DC} {e:Expr} {es:List Expr} {t:DE} {u:DA}
def A4m  (ρ:List Sl) (Q:List Ar->List Sl->Prop):Prop:=Q [] ρ
def aV (t:DE) (u:DA)  (ρ:List Sl) (Q:List Ar->List Sl->Prop):Prop:=t ρ λd ρ1=>u ρ1 λas ρ2=>Q (.v d::as) ρ2
def aS (i:Nat) (u:DA)  (ρ:List Sl) (Q:List Ar->List Sl->Prop):Prop:=A1q ρ i=true/\u ρ λas ρ2=>Q (.s i::as) ρ2
theorem E3:PA X [] (aOf C A4m):=PA.wk A5 λ_ _ _ zz31=>el3 zz31 λ_ _ _ R ht k=>k [] [] _ _ _ R (λ_ h=>h) .nil ht
theorem B4 (ha:PE X e (eOf C t)) (hr:PA X es (aOf C u)) (hs:starEach (e::es) X.env=(false,eval e X.env)::starEach es X.env:=by rfl):PA X (e::es) (aOf C (aV t u)):=PA.wk (A1 ha hr hs) λ_ _ _ zz32=>el3 zz32 fun ρ P _ R ht k=>
 ⟨ρ,P,_,R,ht,λ_ _ ρ1 _ R1 h1=>⟨ρ1,_,_,R1,h1,λ_ _ _ _ _ R2 s2 p2 h2=>k _ _ _ _ _ R2 (λp hp=>s2 p (D3 _ hp)) (.v (s2 _ D9) p2) h2⟩⟩
theorem C7x {col:Addr->Nat} {ρ:List Sl} {σ:St} {P:List Pe} {H:Hp} {i:Nat} (r:F1 C col ρ σ P H) (h:A1q ρ i=true):∃v,σ[i]?=some (some v):=by
 unfold A1q at h
 split at h
 ·cases h
 ·cases h
 ·rename_i s n1 n2
  cases q:ρ[i]? with
  | none=>exact absurd q n2
  | some s=>
   have z:=r.sl i s q
   cases s with
   | no=>exact absurd q n1
   | sh d=>obtain⟨v,e,_⟩:=z;exact⟨v,N7 e⟩
   | ow d=>obtain⟨a,_,e,_⟩:=z;exact⟨_,N7 e⟩
   | bo d=>obtain⟨a,_,e,_⟩:=z;exact⟨_,N7 e⟩
   | hd=>obtain⟨q,_,e⟩:=z;exact⟨_,N7 e⟩
   | o2 d=>obtain⟨a,_,e,_⟩:=z;exact⟨_,N7 e⟩
   | b2 d=>obtain⟨a,_,e,_⟩:=z;exact⟨_,N7 e⟩
   | di f ks=>obtain⟨a,e,_⟩:=z;exact⟨_,N7 e⟩
   | dm f ks=>obtain⟨a,e,_⟩:=z;exact⟨_,N7 e⟩
   | bd d=>obtain⟨v,e,_⟩:=z;exact⟨v,N7 e⟩
   | ot d=>obtain⟨v,e,_⟩:=z;exact⟨v,N7 e⟩
   | ob R=>obtain⟨v,e,_⟩:=z;exact⟨v,N7 e⟩
def A4n (ρ:List Sl) (i:Nat):Option PyData:=match ρ[i]? with
 | some (.bd d)=>some d
 | _=>none
theorem F1.le {col:Addr->Nat} {ρ:List Sl} {σ:St} {P:List Pe} {H:Hp} (r:F1 C col ρ σ P H) {v:V} {d:PyData} (t:ThV (Le C) C.H0 v d):ThV (Le C) H v d:=t.mv λb o g e=>⟨g,r.kq b o e g.2⟩
theorem F1.slot2 {col:Addr->Nat} {ρ:List Sl} {σ:St} {P:List Pe} {H:Hp} (r:F1 C col ρ σ P H) {i:Nat} {dss:List (List PyData)} (h:slot2 ρ i=some dss):∃a as,σ[i]?=some (some (.ref a))/\(∀q,C.hand=some q->a≠q.1)/\H a=some (.lst (as.map V.ref))/\Rws (λb=>∀q,C.hand=some q->b≠q.1) (Z col) H as dss:=by
 unfold My.slot2 at h
 split at h
 ·rename_i dss' e
  cases h
  obtain⟨a,as,e1,c,e2,nd,t⟩:=r.sl i _ e
  exact⟨a,as,N7 e1,r.notH (by have:=c.1;lia),e2,t.mv (λb o z e=>⟨z,e⟩) λb o g e=>⟨r.notH (by have:=g.1;lia),e⟩⟩
 ·rename_i dss' e
  cases h
  obtain⟨a,as,e1,c,e2,t⟩:=r.sl i _ e
  exact⟨a,as,N7 e1,c.2,e2,t.mv (λb o z e=>⟨z,e⟩) λb o g e=>⟨g.2,e⟩⟩
 ·rename_i d e
  cases C7v h
  obtain⟨v,e1,t⟩:=r.sl i _ e
  cases t with
  | lst n e2 t=>
   obtain⟨as,rfl,t2⟩:=C7w t
   exact⟨_,as,N7 e1,r.notH (by rw[show col _=0 from n];decide),e2,t2.mv (λb o z e=>⟨z,e⟩) λb o g e=>⟨r.notH (by rw[show col b=0 from g];decide),e⟩⟩
 ·cases h
theorem Y2 {i:Nat} (ha:PE X e (U7 i)) (hr:PA X es (aOf C u)) (hs:starEach (e::es) X.env=(false,eval e X.env)::starEach es X.env:=by rfl):PA X (e::es) (aOf C (aS i u)):=PA.wk (A1 ha hr hs) fun σ H Q zz33=>el3 zz33 fun ρ P Qd zz34 ht k=>zz34.elim λcol r=>by
 obtain⟨v,ev⟩:=C7x r ht.1
 exact⟨v,ev,ρ,P,_,⟨col,r⟩,ht.2,λ_ _ _ _ _ R2 s2 p2 h2=>k _ _ _ _ _ R2 s2 (.s ev p2) h2⟩
def arD (ρ:List Sl) (m:Md) (a:Ar):Option PyData:=match m,a with
 | .sh,.v d=>some d
 | .bo,.v (.list ds)=>some (.list ds)
 | .bo,.s i=>(R9 ρ i).bind λd=>(O1 d).map PyData.list
 | .hd,.s i=>match ρ[i]? with
  | some .hd=>some .none
  | _=>none
 | .b2,.s i=>(slot2 ρ i).map λdss=>.list (lls dss)
 | .bd,.v d=>some d
 | .bd,.w d=>some d
 | .bd,.s i=>match ρ[i]? with
  | some (.bd d)=>some d
  | some (.sh d)=>some d
  | _=>none
 | _,_=>none
def U3 (ρ:List Sl):List Md->List Ar->Option (List PyData)
 | [],[]=>some []
 | m::ms,a::as=>(arD ρ m a).bind λd=>(U3 ρ ms as).map (d::·)
 | _,_=>none
theorem A4o {d:PyData} {xs:List PyData} (h:O1 d=some xs):d=.list xs:=by
 cases d <;> cases h
 rfl
theorem B4i {col:Addr->Nat} {ρ:List Sl} {σ:St} {P:List Pe} {H:Hp} (r:F1 C col ρ σ P H) {m:Md} {v:V} {d:PyData} {a:Ar} (ha:match a with | .v d=>Pe.v v d∈P | .s i=>σ[i]?=some (some v) | .w d=>Pe.w v d∈P) (h:arD ρ m a=some d):B4h (Z col) C.hand H v d m:=by
 unfold arD at h
 split at h
 ·cases h;exact r.pd _ ha
 ·cases h
  have z:ThV (Z col) H v (.list _):=r.pd _ ha
  cases z with
  | lst za e t=>exact⟨_,_,_,rfl,rfl,r.notH (by rw[show col _=0 from za];decide),e,t⟩
 ·rename_i i
  have ha':σ[i]?=some (some v):=ha
  cases q:R9 ρ i with
  | none=>rw[q] at h;cases h
  | some d'=>
   rw[q] at h
   cases q2:O1 d' with
   | none=>
    have h':(O1 d').map PyData.list=some d:=h
    rw[q2] at h';cases h'
   | some xs=>
    have h':(O1 d').map PyData.list=some d:=h
    rw[q2] at h'
    cases h'
    have:=A4o q2
    subst this
    unfold R9 at q
    split at q
    ·rename_i d'' e
     cases q
     obtain⟨v',e1,t⟩:=r.sl i _ e
     rw[N7 e1] at ha'
     cases ha'
     cases t with
     | lst za e t=>exact⟨_,_,_,rfl,rfl,r.notH (by rw[show col _=0 from za];decide),e,t⟩
    ·rename_i ds e
     cases q
     obtain⟨a,vs,e1,c,_,e2,t⟩:=r.sl i _ e
     rw[N7 e1] at ha'
     cases ha'
     exact⟨_,_,_,rfl,rfl,r.notH (by lia),e2,t⟩
    ·rename_i ds e
     cases q
     obtain⟨a,vs,e1,c,n,e2,t⟩:=r.sl i _ e
     rw[N7 e1] at ha'
     cases ha'
     exact⟨_,_,_,rfl,rfl,n,e2,t⟩
    ·cases q
 ·rename_i i
  have ha':σ[i]?=some (some v):=ha
  split at h
  ·rename_i e
   cases h
   obtain⟨q,e1,e2⟩:=r.sl i _ e
   rw[N7 e2] at ha'
   cases ha'
   exact⟨q,e1,rfl⟩
  ·cases h
 ·rename_i i
  have ha':σ[i]?=some (some v):=ha
  cases q:slot2 ρ i with
  | none=>rw[q] at h;cases h
  | some dss=>
   rw[q] at h
   cases h
   obtain⟨a,as,e1,n,e2,t⟩:=r.slot2 q
   rw[e1] at ha'
   cases ha'
   exact⟨a,as,dss,rfl,rfl,n,e2,t⟩
 ·cases h
  exact ThV.mv (λb o z e=>⟨r.notH (by rw[show col b=0 from z];decide),e⟩) (r.pd _ ha)
 ·cases h
  exact ThV.mv (λb o z e=>⟨z.2,e⟩) (r.le (r.pd _ ha))
 ·rename_i i
  have ha':σ[i]?=some (some v):=ha
  split at h
  ·rename_i e
   cases h
   obtain⟨v',e1,t⟩:=r.sl i _ e
   rw[N7 e1] at ha'
   cases ha'
   exact ThV.mv (λb o z e=>⟨z.2,e⟩) (r.le t)
  ·rename_i e
   cases h
   obtain⟨v',e1,t⟩:=r.sl i _ e
   rw[N7 e1] at ha'
   cases ha'
   exact ThV.mv (λb o z e=>⟨r.notH (by rw[show col b=0 from z];decide),e⟩) t
  ·cases h
 ·cases h
theorem B1a {col:Addr->Nat} {ρ:List Sl} {σ:St} {P:List Pe} {H:Hp} (r:F1 C col ρ σ P H):∀{ms:List Md} {vs:List V} {ds:List PyData} {as:List Ar},ArV σ P vs as->U3 ρ ms as=some ds->Z5 (Z col) C.hand H ms vs ds
 | [],_,_,_,.nil,h=>by cases h;exact .nil
 | [],_,_,_,.v _ _,h=>by cases h
 | [],_,_,_,.s _ _,h=>by cases h
 | [],_,_,_,.w _ _,h=>by cases h
 | _::_,_,_,_,.nil,h=>by cases h
 | m::ms,_,ds,_,.v (d:=d0) (as:=as) hm t,h=>by
  have h':((arD ρ m (.v d0)).bind λd=>(U3 ρ ms as).map (d::·))=some ds:=h
  cases q:arD ρ m (.v d0) with
  | none=>rw[q] at h';cases h'
  | some d=>
   rw[q] at h'
   have h2:(U3 ρ ms as).map (d::·)=some ds:=h'
   cases q2:U3 ρ ms as with
   | none=>rw[q2] at h2;cases h2
   | some ds'=>
    rw[q2] at h2
    cases h2
    exact .cons (B4i r (a:=.v d0) hm q) (B1a r t q2)
 | m::ms,_,ds,_,.s (i:=i) (as:=as) hm t,h=>by
  have h':((arD ρ m (.s i)).bind λd=>(U3 ρ ms as).map (d::·))=some ds:=h
  cases q:arD ρ m (.s i) with
  | none=>rw[q] at h';cases h'
  | some d=>
   rw[q] at h'
   have h2:(U3 ρ ms as).map (d::·)=some ds:=h'
   cases q2:U3 ρ ms as with
   | none=>rw[q2] at h2;cases h2
   | some ds'=>
    rw[q2] at h2
    cases h2
    exact .cons (B4i r (a:=.s i) hm q) (B1a r t q2)
 | m::ms,_,ds,_,.w (d:=d0) (as:=as) hm t,h=>by
  have h':((arD ρ m (.w d0)).bind λd=>(U3 ρ ms as).map (d::·))=some ds:=h
  cases q:arD ρ m (.w d0) with
  | none=>rw[q] at h';cases h'
  | some d=>
   rw[q] at h'
   have h2:(U3 ρ ms as).map (d::·)=some ds:=h'
   cases q2:U3 ρ ms as with
   | none=>rw[q2] at h2;cases h2
   | some ds'=>
    rw[q2] at h2
    cases h2
    exact .cons (B4i r (a:=.w d0) hm q) (B1a r t q2)
def A4p (ms:List Md) (sp:DSp) (u:DA)  (ρ:List Sl) (Q:PyData->List Sl->Prop):Prop:=u ρ λas ρ'=>bnd (U3 ρ' ms as) λds=>sp ds λd=>Q d ρ'
theorem E4 {ms:List Md} {sp:DSp} {E:XK} (h:PE X e (B8d (spD ms sp) [] E (aOf C u))):PE X e (eOf C (A4p ms sp u)):=PE.wk h fun σ H Q zz35=>el3 zz35 fun ρ P Qd R ht k=>⟨ρ,P,_,R,ht,λvs as ρ' P' H' zz36 s p q=>zz36.elim λcol r=>by
 obtain⟨ds,hds,q⟩:=M9 q
 rw[A1f]
 obtain⟨col,r,tp⟩:=r.norm
 refine⟨Z col,C.hand,ds,_,⟨r.fresh,tp⟩,λq hq z=>?_,r.hq,B1a r p hds,q,λd v H2 q2 t2 k2 h2=>k _ _ _ _ ⟨col,(((r.mv k2 h2).sub s)).push t2⟩ q2⟩
 have:=r.hnd q hq
 rw[show col q.1=0 from z] at this
 cases this⟩
end
structure A9h (C:DC) (J:It) (xs:List PyData) (P:List Pe):Prop where
 go:∀{i:Nat} {ρ:List Sl} {σ:St} {P':List Pe} {H:Hp},(∀p∈P,p∈P')->Rel C ρ σ P' H->i < xs.length->J.go i H
 yld:∀{i:Nat} {ρ:List Sl} {σ:St} {P':List Pe} {H H':Hp} {x:V} {d:PyData},(∀p∈P,p∈P')->Rel C ρ σ P' H->xs[i]?=some d->J.yld i H x H'->Rel C ρ σ (.v x d::P') H'
 stop:∀{ρ:List Sl} {σ:St} {P':List Pe} {H:Hp},(∀p∈P,p∈P')->Rel C ρ σ P' H->J.stop xs.length H
theorem K9 {F:Addr->Prop} {H:Hp} {v:V} {xs:List PyData} (t:ThV F H v (.list xs)):∃a vs,v=.ref a/\F a/\H a=some (.lst vs)/\B2 F H vs xs:=by
 cases t with
 | lst za e t=>exact⟨_,_,rfl,za,e,t⟩
theorem W0 {F:Addr->Prop} {H:Hp} {v:V} {xs:List PyData} (t:ThV F H v (.tuple xs)):∃a vs,v=.ref a/\F a/\H a=some (.tup vs)/\B2 F H vs xs:=by
 cases t with
 | tup za e t=>exact⟨_,_,rfl,za,e,t⟩
def iOf (C:DC) (t:DF):TI:=fun σ H R=>∃ρ P Qd,Rel C ρ σ P H/\t ρ Qd/\∀xs ρ' P' H' J,Rel C ρ' σ P' H'->(∀p∈P,p∈P')->A9h C J xs P'->Qd xs ρ'->R J H'
section
variable {X:Cx} {C:DC} {tg e:Expr} {t:DE} {u:DF} {pos:Pos}
theorem PI.wk {tg e:Expr} {w w':TI} (h:PI X tg e w) (f:∀σ H R,w' σ H R->w σ H R):PI X tg e w':=λpins s σ H R I q=>h pins s σ H R I (f σ H R q)
theorem B1b {K:A9} {a:Addr} {vs:List V} {xs:List PyData} {P:List Pe}:A9h C (Itl K a) xs (.n a (.lst vs)::.s vs xs::P) where
 go:=λ{i ρ σ P' H} s R hi=>by
  obtain⟨col,r⟩:=R
  have h1:=r.pd _ (s _ D9)
  have h2:B2 (Z col) H vs xs:=r.pd _ (s _ (D3 _ D9))
  have hl:=h2.len
  exact⟨vs,vs[i],SqL.of h1.2.2,M4 (by lia)⟩
 yld:=λ{i ρ σ P' H H' x d} s R hi y=>by
  obtain⟨e,y⟩:=y
  subst e
  obtain⟨col,r⟩:=R
  have h1:=r.pd _ (s _ D9)
  have h2:B2 (Z col) H' vs xs:=r.pd _ (s _ (D3 _ D9))
  have hx:=y vs (SqL.of h1.2.2)
  obtain⟨d',e1,t⟩:=h2.get hx
  rw[hi] at e1
  cases e1
  exact⟨col,r.push t⟩
 stop:=λ{ρ σ P' H} s R=>by
  obtain⟨col,r⟩:=R
  have h1:=r.pd _ (s _ D9)
  have h2:B2 (Z col) H vs xs:=r.pd _ (s _ (D3 _ D9))
  have hl:=h2.len
  exact⟨vs,SqL.of h1.2.2,by lia⟩
def dIl (t:DE)  (ρ:List Sl) (Q:List PyData->List Sl->Prop):Prop:=t ρ λd ρ'=>bnd (O1 d) λxs=>Q xs ρ'
theorem A9i (h:PE X e (eOf C t)):PI X tg e (iOf C (dIl t)):=PI.wk (A0s h) λ_ _ _ zz1=>el3 zz1 fun ρ P _ R ht k=>⟨ρ,P,_,R,ht,λv d ρ' H' zz2 q=>zz2.elim λcol r=>by
 obtain⟨xs,hx,q⟩:=M9 q
 have:=A4o hx
 subst this
 obtain⟨a,vs,rfl,za,e1,t1⟩:=K9 (show ThV (Z col) H' v (.list xs) from r.pd _ D9)
 refine⟨a,rfl,⟨vs,SqL.of e1⟩,k xs ρ' (.n a (.lst vs)::.s vs xs::P) H' _ ⟨col,?_⟩ (λ_ h=>D3 _ (D3 _ h)) B1b q⟩
 exact ((r.sub λ_ h=>D3 _ h).add (x:=.s vs xs) t1).add (x:=.n a (.lst vs)) ⟨by rw[show col a=0 from za];decide,r.notH (by rw[show col a=0 from za];decide),e1⟩⟩
def C7y:PyData->Option (List PyData)
 | .tuple xs=>some xs
 | _=>none
def dIt (t:DE)  (ρ:List Sl) (Q:List PyData->List Sl->Prop):Prop:=t ρ λd ρ'=>bnd (C7y d) λxs=>Q xs ρ'
def dIv (i:Nat)  (ρ:List Sl) (Q:List PyData->List Sl->Prop):Prop:=match ρ[i]? with
 | some (.sh (.list xs))=>Q xs ρ
 | some (.ow xs)=>Q xs (ρ.set i (.sh (.list xs)))
 | some (.bo xs)=>Q xs ρ
 | _=>False
theorem A2m {i:Nat} (h:PE X e (U7 i)):PI X tg e (iOf C (dIv i)):=PI.wk (A0s h) fun σ H R' zz5=>el3 zz5 fun ρ P Qd zz6 ht k=>zz6.elim λcol r=>by
 unfold dIv at ht
 split at ht
 ·rename_i xs e
  obtain⟨v,e1,t⟩:=r.sl i _ e
  obtain⟨a,vs,rfl,za,e2,t1⟩:=K9 t
  ·refine⟨_,N7 e1,a,rfl,⟨vs,SqL.of e2⟩,k xs ρ (.n a (.lst vs)::.s vs xs::P) H _ ⟨col,?_⟩ (λ_ h=>D3 _ (D3 _ h)) B1b ht⟩
   exact (r.add (x:=.s vs xs) t1).add (x:=.n a (.lst vs)) ⟨by rw[show col a=0 from za];decide,r.notH (by rw[show col a=0 from za];decide),e2⟩
 ·rename_i xs e
  obtain⟨a,e1,col',r'⟩:=r.freeze e
  obtain⟨a',vs,ea,za,e2,t1⟩:=K9 (show ThV (Z col') H (.ref a) (.list xs) from r'.pd _ D9)
  cases ea
  ·refine⟨_,N7 e1,a,rfl,⟨vs,SqL.of e2⟩,k xs _ (.n a (.lst vs)::.s vs xs::P) H _ ⟨col',?_⟩ (λ_ h=>D3 _ (D3 _ h)) B1b ht⟩
   exact ((r'.sub λ_ h=>D3 _ h).add (x:=.s vs xs) t1).add (x:=.n a (.lst vs)) ⟨by rw[show col' a=0 from za];decide,r'.notH (by rw[show col' a=0 from za];decide),e2⟩
 ·rename_i xs e
  obtain⟨a,vs,e1,c,n,e2,t⟩:=r.sl i _ e
  exact⟨_,N7 e1,a,rfl,⟨vs,SqL.of e2⟩,k xs ρ (.n a (.lst vs)::.s vs xs::P) H _ ⟨col,(r.add (x:=.s vs xs) t).add (x:=.n a (.lst vs)) ⟨c,n,e2⟩⟩ (λ_ h=>D3 _ (D3 _ h)) B1b ht⟩
 ·exact ht.elim
def U4 (lo:Int) (n:Nat):List PyData:=(T8 n).map λi=>.int (lo + ((i:Nat):Int))
theorem C7z {lo:Int} {n i:Nat} {d:PyData} (h:(U4 lo n)[i]?=some d):i < n/\d=.int (lo + i):=by
 unfold U4 at h
 rw[K3] at h
 by_cases hi:i < n
 ·rw[B21 hi] at h
  cases h
  exact⟨hi,rfl⟩
 ·rw[A11 (by rw[j7];lia)] at h
  cases h
theorem C70 {lo:Int} {n:Nat} {P:List Pe}:A9h C (Itr lo n) (U4 lo n) P where
 go:=λ{i _ _ _ _} _ _ hi=>by
  have:(U4 lo n).length=n:=by unfold U4;rw[C6,j7]
  show i < n
  lia
 yld:=λ{i ρ σ P' H H' x d} _ R hi y=>by
  obtain⟨e1,e2⟩:=y
  subst e1 e2
  obtain⟨_,e3⟩:=C7z hi
  subst e3
  obtain⟨col,r⟩:=R
  exact⟨col,r.push (.int _)⟩
 stop:=λ_ _=>by
  have:(U4 lo n).length=n:=by unfold U4;rw[C6,j7]
  show n<=(U4 lo n).length
  lia
def B4j (u:DF)  (ρ:List Sl) (Q:List PyData->List Sl->Prop):Prop:=u ρ λds ρ'=>match ds with
 | [.int j]=>(-(2 ^ 62)<=j/\j < 2 ^ 62)/\Q (U4 0 j.toNat) ρ'
 | _=>False
theorem B1c (h:PI X tg e (B7x (vOf C u))):PI X tg e (iOf C (B4j u)):=PI.wk h λ_ _ _ zz7=>el3 zz7 fun ρ P _ R ht k=>⟨ρ,P,_,R,ht,λvs ds ρ' P' H' zz8 s p q=>zz8.elim λcol r=>by
 split at q
 ·have t:=p.th r
  obtain⟨v,rfl,t1⟩:=A2g t
  cases t1
  exact⟨_,rfl,q.1.1,q.1.2,k _ _ P' _ _ ⟨col,r⟩ s C70 q.2⟩
 ·exact q.elim⟩
def B97 (u:DF)  (ρ:List Sl) (Q:List PyData->List Sl->Prop):Prop:=u ρ λds ρ'=>match ds with
 | [.int i,.int j]=>(-(2 ^ 62)<=i/\i < 2 ^ 62/\-(2 ^ 62)<=j/\j < 2 ^ 62)/\Q (U4 i (j - i).toNat) ρ'
 | _=>False
def y7 (xs:List PyData):List PyData:=xs.zipIdx.map λp=>.tuple [.int (p.2:Nat),p.1]
theorem C71 {xs:List PyData} {i:Nat} {d:PyData} (h:(y7 xs)[i]?=some d):∃x,xs[i]?=some x/\d=.tuple [.int (i:Nat),x]:=by
 unfold y7 at h
 rw[K3,List.getElem?_zipIdx] at h
 cases q:xs[i]? with
 | none=>rw[q] at h;cases h
 | some x=>rw[q] at h;cases h;exact⟨x,rfl,by rw[Nat.zero_add]⟩
theorem C72 {K:A9} {a:Addr} {vs:List V} {xs:List PyData} {P:List Pe}:A9h C (Ite K a) (y7 xs) (.n a (.lst vs)::.s vs xs::P) where
 go:=λ{i ρ σ P' H} s R hi=>by
  obtain⟨col,r⟩:=R
  have h1:=r.pd _ (s _ D9)
  have h2:B2 (Z col) H vs xs:=r.pd _ (s _ (D3 _ D9))
  have hl:=h2.len
  have hi':i < xs.length:=by unfold y7 at hi;rw[C6,List.length_zipIdx] at hi;exact hi
  exact⟨vs,vs[i],SqL.of h1.2.2,M4 (by lia)⟩
 yld:=λ{i ρ σ P' H H' x d} s R hi y=>by
  obtain⟨p,v,rfl,hp,rfl,y⟩:=y
  obtain⟨col,r⟩:=R
  have h1:=r.pd _ (s _ D9)
  have h2:B2 (Z col) H vs xs:=r.pd _ (s _ (D3 _ D9))
  have hx:=y vs (SqL.of h1.2.2)
  obtain⟨x,e1,rfl⟩:=C71 hi
  obtain⟨d',e2,t⟩:=h2.get hx
  rw[e1] at e2
  cases e2
  exact⟨col,r.tup (.cons (.int _) (.cons t .nil)) hp⟩
 stop:=λ{ρ σ P' H} s R=>by
  obtain⟨col,r⟩:=R
  have h1:=r.pd _ (s _ D9)
  have h2:B2 (Z col) H vs xs:=r.pd _ (s _ (D3 _ D9))
  have hl:=h2.len
  exact⟨vs,SqL.of h1.2.2,by unfold y7;rw[C6,List.length_zipIdx];lia⟩
def B4k (t:DE)  (ρ:List Sl) (Q:List PyData->List Sl->Prop):Prop:=t ρ λd ρ'=>bnd (O1 d) λxs=>Q (y7 xs) ρ'
theorem B98 {K:A9} (h:PI X tg e (B9e K (g8 (eOf C t) g7))):PI X tg e (iOf C (B4k t)):=PI.wk h λ_ _ _ zz11=>el3 zz11 fun ρ P _ R ht k=>⟨ρ,P,_,R,ht,λv d ρ' H' zz12 q=>zz12.elim λcol r=>by
 obtain⟨xs,hx,q⟩:=M9 q
 have:=A4o hx
 subst this
 obtain⟨a,vs,rfl,za,e1,t1⟩:=K9 (show ThV (Z col) H' v (.list xs) from r.pd _ D9)
 refine⟨a,rfl,⟨vs,SqL.of e1⟩,k _ ρ' (.n a (.lst vs)::.s vs xs::P) H' _ ⟨col,?_⟩ (λ_ h=>D3 _ (D3 _ h)) C72 q⟩
 exact ((r.sub λ_ h=>D3 _ h).add (x:=.s vs xs) t1).add (x:=.n a (.lst vs)) ⟨by rw[show col a=0 from za];decide,r.notH (by rw[show col a=0 from za];decide),e1⟩⟩
end
def A2n (tt:DT) (te:DE) (ρ:List Sl) (Q:List PyData->Prop):List PyData->List PyData->Prop
 | [],acc=>Q acc
 | x::r,acc=>tt (ρ++[.sh x]) λb ρ'=>ρ'=ρ++[.sh x]/\if b=true then te (ρ++[.sh x]) λd ρ''=>ρ''=ρ++[.sh x]/\A2n tt te ρ Q r (acc++[d]) else A2n tt te ρ Q r acc
def A04 (j:Nat) (it:DF) (tt:DT) (te:DE)  (ρ:List Sl) (Q:List PyData->List Sl->Prop):Prop:=it ρ λxs ρ1=>(ρ1.length=j/\xs.length<=1000)/\A2n tt te ρ1 (λds=>Q ds ρ1) xs []
def B4l  (ρ:List Sl) (Q:Bool->List Sl->Prop):Prop:=Q true ρ
section
variable {X:Cx} {C:DC}
theorem PTs.wk {es:List Expr} {t t':TT} (h:PTs X es t) (f:∀σ H Q,t' σ H Q->t σ H Q):PTs X es t':=λpins s σ H Q I q=>h pins s σ H Q I (f σ H Q q)
theorem y8:PTs X [] (cOf C B4l):=PTs.wk A2a λ_ _ _ zz13=>el3 zz13 λ_ _ _ R ht k=>k _ _ _ R ht
theorem Rel.ext {ρ:List Sl} {σ:St} {P:List Pe} {H:Hp} {x:V} {d:PyData} (R:Rel C ρ σ (.v x d::P) H):Rel C (ρ++[.sh d]) (σ++[some x]) P H:=by
 obtain⟨col,r⟩:=R
 have t:ThV (Z col) H x d:=r.pd _ D9
 have r:=r.sub λ_ h=>D3 _ h
 refine⟨col,{ r with sl:=λi s e=>?_,len:=by rw[U6,U6,r.len];rfl }⟩
 by_cases hi:i < ρ.length
 ·rw[A3d hi] at e
  rw[A3d (by rw[<-r.len];exact hi)]
  exact r.sl i s e
 ·rw[A5k (by lia)] at e
  rw[A5k (by rw[<-r.len];lia),<-r.len]
  match q:i - ρ.length with
  | 0=>
   rw[q] at e
   cases e
   exact⟨x,rfl,t⟩
  | n + 1=>rw[q] at e;simp at e
theorem F1.unext {col:Addr->Nat} {ρ ρ':List Sl} {σ σ':St} {P:List Pe} {H:Hp} (r:F1 C col (ρ++ρ') (σ++σ') P H) (hl:ρ.length=σ.length):F1 C col ρ σ P H:=by
 refine { r with sl:=λi s e=>?_,len:=hl }
 have hi:=(A1d.mp e).1
 have:=r.sl i s (by rw[A3d hi];exact e)
 rw[A3d (by lia)] at this
 exact this
theorem B2.snoc {F:Addr->Prop} {H:Hp} {vs:List V} {ds:List PyData} {v:V} {d:PyData} (t:B2 F H vs ds) (x:ThV F H v d):B2 F H (vs++[v]) (ds++[d]):=t.append (.cons x .nil)
theorem C73 {σ:St} {n j:Nat} {x:V} (h1:n=σ.length + 1) (h2:j=σ.length):(V9 n j σ).set j (some x)=σ++[some x]:=by
 subst h1 h2
 unfold V9
 rw[B22 (by simp),List.set_append_right _ _ (F9 _),List.set_append_right _ _ (F9 _)]
 simp
theorem B4m {it:DF} {tt:DT} {te:DE} {n j:Nat} (hn:n=j + 1) {σ:St} {H:Hp} {Q:VK} (h:fOf C (A04 j it tt te) σ H Q):A52 (iOf C it) n j (λ_=>cOf C tt) (λ_=>eOf C te) σ H Q:=by
 obtain⟨ρ,P,Qd,R,ht,k⟩:=h
 refine⟨ρ,P,_,R,ht,λxs ρ1 P1 H1 J R1 s1 io q=>?_⟩
 obtain⟨⟨hj,hx⟩,q⟩:=q
 have lz:∀m,m<=1000->m<=sizeLine:=λm hm=>A8o (B00 hm)
 refine⟨λi m ys H'=>m=xs.length - i/\i<=xs.length/\ys.length<=i/\∃acc,Rel C ρ1 σ (.s ys acc::P1) H'/\A2n tt te ρ1 (λds=>Qd ds ρ1) (xs.drop i) acc,⟨xs.length,by simp,O7 _,F9 _,[],?_,q⟩,?_⟩
 ·obtain⟨col,r⟩:=R1
  exact⟨col,r.add (x:=.s [] []) .nil⟩
 rintro i m ys H2 ⟨rfl,hi,hy,acc,R2,q2⟩
 refine⟨lz _ (by lia),?_⟩
 have sub2:∀p∈P1,p∈Pe.s ys acc::P1:=λ_ h=>D3 _ h
 have hlen:ρ1.length=σ.length:=by obtain⟨col,r⟩:=R2;exact r.len
 by_cases hlt:i < xs.length
 ·rw[List.drop_eq_getElem_cons hlt] at q2
  refine .inr ⟨io.go sub2 R2 hlt,λys' H'=>ys'.length<=i + 1/\∃acc,Rel C ρ1 σ (.s ys' acc::P1) H'/\A2n tt te ρ1 (λds=>Qd ds ρ1) (xs.drop (i + 1)) acc,λys' H' zz14=>zz14.elim λh1 h2=>⟨xs.length - (i + 1),by lia,rfl,hlt,h1,h2⟩,λx H3 y a=>?_⟩
  have R3:=(io.yld sub2 R2 (M4 hlt) y).ext
  rw[C73 (by rw[hn,<-hlen,hj]) (by rw[<-hlen,hj])]
  refine⟨_,_,_,R3,q2,λb ρ' H4 R4 q4=>?_⟩
  obtain⟨rfl,q4⟩:=q4
  cases b with
  | true=>
   refine G0 ⟨_,_,_,R4,by simpa using q4,λv d ρ'' H5 R5 q5=>?_⟩
   obtain⟨rfl,q5⟩:=q5
   refine⟨by rw[U6];simp;lia,acc++[d],?_,q5⟩
   obtain⟨col,r⟩:=R5
   have t1:ThV (Z col) H5 v d:=r.pd _ D9
   have t2:B2 (Z col) H5 ys acc:=r.pd _ (D3 _ D9)
   exact⟨col,((r.unext hlen).sub λ_ h=>D3 _ (D3 _ h)).add (x:=.s (ys++[v]) (acc++[d])) (t2.snoc t1)⟩
  | false=>
   refine C7 ⟨by lia,acc,?_,by simpa using q4⟩
   obtain⟨col,r⟩:=R4
   exact⟨col,r.unext hlen⟩
 ·have e:i=xs.length:=by lia
  subst e
  rw[List.drop_length] at q2
  refine .inl ⟨io.stop sub2 R2,λp hp=>k _ _ _ _ _ ?_ hp q2⟩
  obtain⟨col,r⟩:=R2
  exact⟨col,r.sub λp hp=>D3 _ (s1 p hp),r.pd _ D9⟩
end
structure O2 where
 nx:List Sl->Prop
 rt:PyData->Prop
 bk:List Sl->Prop:=λ_=>False
 ct:List Sl->Prop:=λ_=>False
 ro:Sl->Prop:=λ_=>False
abbrev DS:=O2->List Sl->Prop
def C74 (C:DC) (col:Addr->Nat) (H:Hp) (v:V):Sl->Prop
 | .ow ds=>∃a vs,v=.ref a/\C.H0 a=none/\col a≠0/\H a=some (.lst vs)/\B2 (Z col) H vs ds
 | .o2 dss=>∃a as,v=.ref a/\(C.H0 a=none/\col a≠0)/\H a=some (.lst (as.map V.ref))/\(a::as).Nodup/\Rws (λb=>C.H0 b=none/\col b≠0) (Z col) H as dss
 | .di false ks=>∃a,v=.ref a/\C.H0 a=none/\H a=some (.dT (dEn ks))
 | _=>False
structure C75 (C:DC) (P:List Pe) (Dd:O2) (D:j9):Prop where
 nx:∀ρ σ H,Rel C ρ σ P H->Dd.nx ρ->D.nx σ H
 rt:∀v d ρ σ H,Rel C ρ σ (.v v d::P) H->Dd.rt d->D.rt v H
 bk:∀ρ σ H,Rel C ρ σ P H->Dd.bk ρ->D.bk σ H
 ct:∀ρ σ H,Rel C ρ σ P H->Dd.ct ρ->D.ct σ H
 ro:∀(v:V) (s:Sl) (ρ:List Sl) σ H col,F1 C col ρ σ P H->C74 C col H v s->Dd.ro s->D.rt v H
def sOf (C:DC) (t:DS):TS:=λD σ H=>∃ρ P Dd,Rel C ρ σ P H/\t Dd ρ/\C75 C P Dd D
section
variable {X:Cx} {C:DC} {st:Stmt} {sts:List Stmt} {e:Expr} {t u:DS} {te:DE} {tf:DF} {c:DT} {pos:Pos}
theorem PS.wk {t t':TS} (h:PS X st t) (f:∀D σ H,t' D σ H->t D σ H):PS X st t':=λpins s σ H D I q=>h pins s σ H D I (f D σ H q)
theorem PSs.wk {t t':TS} (h:PSs X sts t) (f:∀D σ H,t' D σ H->t D σ H):PSs X sts t':=λpins s σ H D I q=>h pins s σ H D I (f D σ H q)
def A4q (t u:DS)  (D:O2) (ρ:List Sl):Prop:=t { D with nx:=u D } ρ
def A4r  (D:O2) (ρ:List Sl):Prop:=D.nx ρ
theorem N8:PSs X [] (sOf C A4r):=PSs.wk K4 λ_ _ _ zz15=>el3 zz15 λ_ _ _ R ht E=>E.nx _ _ _ R ht
theorem C9 (h:PS X st (sOf C t)):PSs X [st] (sOf C t):=D7 h
theorem F2 (h1:PS X st (sOf C t)) (h2:PSs X sts (sOf C u)):PSs X (st::sts) (sOf C (A4q t u)):=PSs.wk (B9 h1 h2) λ_ _ _ zz16=>el3 zz16 fun ρ P Dd R ht E=>⟨ρ,P,{ Dd with nx:=u Dd },R,ht,⟨fun ρ' _ _ R' h=>⟨ρ',P,Dd,R',h,E⟩,E.rt,E.bk,E.ct,E.ro⟩⟩
def Go (f:List Sl->Prop) (ρ:List Sl):Prop:=f ρ
theorem go {f:List Sl->Prop} {ρ:List Sl} (h:f ρ):Go f ρ:=h
def T4 (t u:DS) (D:O2) (ρ:List Sl):Prop:=t { D with nx:=Go (u D) } ρ
theorem G5 (h1:PS X st (sOf C t)) (h2:PSs X sts (sOf C u)):PSs X (st::sts) (sOf C (T4 t u)):=PSs.wk (B9 h1 h2) λ_ _ _ zz17=>el3 zz17 fun ρ P Dd R ht E=>⟨ρ,P,{ Dd with nx:=Go (u Dd) },R,ht,⟨fun ρ' _ _ R' h=>⟨ρ',P,Dd,R',h,E⟩,E.rt,E.bk,E.ct,E.ro⟩⟩
def e8 (t:DS)  (D:O2) (ρ:List Sl):Prop:=∃M:List Sl->Prop,t { D with nx:=M } ρ/\∀ρ',M ρ'->D.nx ρ'
theorem e9 (h:PS X st (sOf C t)):PS X st (sOf C (e8 t)):=PS.wk h λ_ _ _ ⟨ρ,P,Dd,R,⟨M,h1,h2⟩,E⟩=>⟨ρ,P,{ Dd with nx:=M },R,h1,⟨fun ρ' σ' H' R' h=>E.nx ρ' σ' H' R' (h2 ρ' h),E.rt,E.bk,E.ct,E.ro⟩⟩
theorem C76:PS X st (sOf C λ_ _=>False):=PS.wk A1n λ_ _ _ zz22=>el3 zz22 λ_ _ _ _ h _=>h
def A4s (te:DE)  (D:O2) (ρ:List Sl):Prop:=te ρ λd _=>D.rt d
theorem D8 (h:PE X e (eOf C te)):PS X (.Return (some e) pos) (sOf C (A4s te)):=PS.wk (F7 h) λ_ _ _ zz23=>el3 zz23 fun ρ P _ R ht E=>⟨ρ,P,_,R,ht,λv d _ _ R' q=>E.rt v d _ _ _ R' q⟩
def A4t (c:DT) (t u:DS)  (D:O2) (ρ:List Sl):Prop:=c ρ λb ρ'=>if b=true then t D ρ' else u D ρ'
theorem N0 {ce:Expr} {a b:List Stmt} (hc:PT X ce (cOf C c)) (ha:PSs X a (sOf C t)) (hb:PSs X b (sOf C u)):PS X (.If ce a b pos) (sOf C (A4t c t u)):=PS.wk (K1 hc ha hb) λ_ _ _ zz26=>el3 zz26 fun ρ P Dd R ht E=>⟨ρ,P,_,R,ht,λb ρ' _ R' q=>by
 cases b with
 | true=>exact G0 ⟨ρ',P,Dd,R',by simpa using q,E⟩
 | false=>exact C7 ⟨ρ',P,Dd,R',by simpa using q,E⟩⟩
def A6b (te:DE)  (D:O2) (ρ:List Sl):Prop:=te ρ λ_ ρ'=>D.nx ρ'
def A2o (i:Nat) (te:DE)  (D:O2) (ρ:List Sl):Prop:=te ρ λd ρ'=>D.nx (ρ'.set i (.sh d))
theorem F3 {i:Nat} (hp:PS X st (A5w (eOf C te) (Y8 i))):PS X st (sOf C (A2o i te)):=PS.wk hp λ_ _ _ zz28=>el3 zz28 fun ρ P _ R ht E=>⟨ρ,P,_,R,ht,λv d ρ' H' zz29 q=>zz29.elim λcol r=>E.nx _ _ _ ⟨col,((r.store (i:=i) (r.pd _ D9)).sub λ_ h=>D3 _ h)⟩ q⟩
def A2p (i:Nat) (tf:DF)  (D:O2) (ρ:List Sl):Prop:=tf ρ λds ρ'=>D.nx (ρ'.set i (.ow ds))
theorem A2q {i:Nat} (hp:PS X st (A5w (fOf C tf) (Y8 i))):PS X st (sOf C (A2p i tf)):=PS.wk hp λ_ _ _ zz30=>el3 zz30 fun ρ P _ R ht E=>⟨ρ,P,_,R,ht,λp vs ds ρ' H1 zz31 hp q=>el2 zz31 λcol r t=>E.nx _ _ _ (r.own t hp) q⟩
theorem C77 {i n j:Nat} {it:DF} {tt:DT} (hn:n=j + 1) (hp:PS X st (λD σ H=>A52 (iOf C it) n j (λ_=>cOf C tt) (λ_=>eOf C te) σ H λv H1=>D.nx (σ.set i (some v)) H1)):PS X st (sOf C (A2p i (A04 j it tt te))):=
 PS.wk hp λ_ _ _ zz32=>el3 zz32 fun ρ P _ R ht E=>B4m hn ⟨ρ,P,_,R,ht,λp vs ds ρ' H1 zz33 hp q=>el2 zz33 λcol r t=>E.nx _ _ _ (r.own t hp) q⟩
theorem C78 {i n j:Nat} {it:DF} {tt:DT} (hn:n=j + 1) (hp:PS X st (λD σ H=>A52 (iOf C it) n j (λ_=>cOf C tt) (λ_=>eOf C te) σ H λv H1=>D.nx (σ.set i (some v)) H1)):PS X st (sOf C (A2o i (dF (A04 j it tt te)))):=
 PS.wk hp λ_ _ _ zz34=>el3 zz34 fun ρ P _ R ht E=>B4m hn ⟨ρ,P,_,R,ht,λp vs ds ρ' H1 zz35 hp q=>el2 zz35 λcol r t=>E.nx _ _ _ ⟨col,(((r.lst t hp).store (i:=i) ((r.lst t hp).pd _ D9)).sub λ_ h=>D3 _ h)⟩ q⟩
def A2r (i:Nat) (te:DE)  (D:O2) (ρ:List Sl):Prop:=match ρ[i]? with
 | some (.ow _)=>te ρ λd ρ'=>match ρ'[i]? with
  | some (.ow ds)=>ds.length<=1000/\D.nx (ρ'.set i (.ow (ds++[d])))
  | _=>False
 | _=>False
theorem A9j {i:Nat} {K:A9} (hp:PS X st (B7s (tBM K "list" B8w (U7 i) (g8 (eOf C te) g7)))):PS X st (sOf C (A2r i te)):=PS.wk hp λD σ H zz36=>el3 zz36 fun ρ P Dd zz37 ht E=>zz37.elim λcol r=>by
 unfold A2r at ht
 split at ht
 ·rename_i ds0 e0
  obtain⟨a,vs,e1,c,n,e2,t⟩:=r.sl i _ e0
  refine⟨.ref a,N7 e1,.inl ⟨rfl,vs,SqL.of e2⟩,ρ,P,_,⟨col,r⟩,ht,λv d ρ' H' zz38 q=>zz38.elim λcol' r'=>?_⟩
  split at q
  ·rename_i ds e0'
   obtain⟨a',vs',e1',c',n',e2',t'⟩:=r'.sl i _ e0'
   rw[e1] at e1'
   cases e1'
   exact⟨a,vs',v,rfl,rfl,e2',by rw[t'.len];exact B00 q.1,E.nx _ _ _ ⟨col',((r'.write e0' e1 (t'.snoc (r'.pd _ D9)))).sub λ_ h=>D3 _ h⟩ q.2⟩
  ·exact q.elim
 ·exact ht.elim
def A4u (i:Nat) (te tk:DE)  (D:O2) (ρ:List Sl):Prop:=te ρ λd ρ1=>match ρ1[i]? with
 | some (.ow _)=>tk ρ1 λk ρ2=>match ρ2[i]? with
  | some (.ow ds)=>match k with
   | .int k=>bnd (ixN ds.length k) λj=>D.nx (ρ2.set i (.ow (ds.set j d)))
   | _=>False
  | _=>False
 | _=>False
theorem B2.set {F:Addr->Prop} {H:Hp} {v:V} {d:PyData} (x:ThV F H v d):∀{vs:List V} {ds:List PyData} (j:Nat),B2 F H vs ds->B2 F H (vs.set j v) (ds.set j d)
 | _,_,_,.nil=>.nil
 | _,_,0,.cons _ t=>.cons x t
 | _,_,j + 1,.cons y t=>.cons y (B2.set x j t)
theorem A9k {i:Nat} {tk:DE} (hp:PS X st (A5w (eOf C te) (B7u (U7 i) (eOf C tk) B8s))):PS X st (sOf C (A4u i te tk)):=PS.wk hp λD σ H zz39=>el3 zz39 fun ρ P Dd R ht E=>⟨ρ,P,_,R,ht,λv d ρ1 H1 zz40 q1=>zz40.elim λcol1 r1=>by
 split at q1
 ·rename_i ds0 e0
  obtain⟨a,vs,e1,c,n,e2,t⟩:=r1.sl i _ e0
  refine⟨.ref a,N7 e1,ρ1,_,_,⟨col1,r1⟩,q1,λw k ρ2 H2 zz41 q2=>zz41.elim λcol2 r2=>?_⟩
  split at q2
  ·rename_i ds e0'
   cases k with
   | int k'=>
    obtain⟨j,hj,q⟩:=M9 q2
    obtain⟨a',vs',e1',c',n',e2',t'⟩:=r2.sl i _ e0'
    rw[e1] at e1'
    cases e1'
    have tw:ThV (Z col2) H2 w (.int k'):=r2.pd _ D9
    cases tw
    refine⟨a,vs',k',j,rfl,rfl,e2',by rw[t'.len];exact hj,E.nx _ _ _ ⟨col2,((r2.write e0' e1 (B2.set (r2.pd (.v v d) (D3 _ D9)) j t'))).sub λ_ h=>D3 _ (D3 _ h)⟩ q⟩
   | _=>exact q2.elim
  ·exact q2.elim
 ·exact q1.elim⟩
abbrev DG:=PyData->List Sl->(List Sl->Prop)->Prop
def gOf (C:DC) (g:DG):TG:=λv σ H Q=>∃ρ P d Qd,Rel C ρ σ (.v v d::P) H/\g d ρ Qd/\∀ρ' σ',Rel C ρ' σ' P H->Qd ρ'->Q σ' H
theorem PG.wk {tg:Expr} {g g':TG} (h:PG X tg g) (f:∀v σ H Q,g' v σ H Q->g v σ H Q):PG X tg g':=λpins s σ H v u Q I r q=>h pins s σ H v u Q I r (f v σ H Q q)
def gN (i:Nat)  (d:PyData) (ρ:List Sl) (Q:List Sl->Prop):Prop:=Q (ρ.set i (.sh d))
theorem A4v {tg:Expr} {i:Nat} (h:PG X tg (Y8 i)):PG X tg (gOf C (gN i)):=PG.wk h λ_ _ _ _ ⟨_,_,_,_,⟨col,r⟩,ht,k⟩=>k _ _ ⟨col,((r.store (i:=i) (r.pd _ D9)).sub λ_ h=>D3 _ h)⟩ ht
def gT2 (i j:Nat)  (d:PyData) (ρ:List Sl) (Q:List Sl->Prop):Prop:=match d with
 | .tuple [a,b]=>Q ((ρ.set i (.sh a)).set j (.sh b))
 | _=>False
def gT3 (i j k:Nat)  (d:PyData) (ρ:List Sl) (Q:List Sl->Prop):Prop:=match d with
 | .tuple [a,b,c]=>Q (((ρ.set i (.sh a)).set j (.sh b)).set k (.sh c))
 | _=>False
theorem B99 {tg:Expr} {i j:Nat} {K:A9} (h:PG X tg (B3e K 2 (A5v (Y8 i) (A5v (Y8 j) B3d)))):PG X tg (gOf C (gT2 i j)):=PG.wk h λv σ H Q ⟨ρ,P,d,Qd,⟨col,r⟩,ht,k⟩=>by
 unfold gT2 at ht
 split at ht
 ·rename_i a b
  have z:ThV (Z col) H v (.tuple [a,b]):=r.pd _ D9
  cases z with
  | tup za e t=>
   obtain⟨x,y,rfl,t1,t2⟩:=Q7 t
   exact⟨_,_,rfl,SqT.of e,rfl,x,[y],rfl,y,[],rfl,rfl,k _ _ ⟨col,(((r.store (i:=i) t1).store (i:=j) t2).sub λ_ h=>D3 _ h)⟩ ht⟩
 ·exact ht.elim
theorem C79 {tg:Expr} {i j l:Nat} {K:A9} (h:PG X tg (B3e K 3 (A5v (Y8 i) (A5v (Y8 j) (A5v (Y8 l) B3d))))):PG X tg (gOf C (gT3 i j l)):=PG.wk h λv σ H Q ⟨ρ,P,d,Qd,⟨col,r⟩,ht,k⟩=>by
 unfold gT3 at ht
 split at ht
 ·rename_i a b c
  have z:ThV (Z col) H v (.tuple [a,b,c]):=r.pd _ D9
  cases z with
  | tup za e t=>
   cases t with
   | cons t1 t=>
    obtain⟨y,z,rfl,t2,t3⟩:=Q7 t
    exact⟨_,_,rfl,SqT.of e,rfl,_,[y,z],rfl,y,[z],rfl,z,[],rfl,rfl,k _ _ ⟨col,((((r.store (i:=i) t1).store (i:=j) t2).store (i:=l) t3).sub λ_ h=>D3 _ h)⟩ ht⟩
 ·exact ht.elim
def A4w (te:DE) (g:DG)  (D:O2) (ρ:List Sl):Prop:=te ρ λd ρ'=>g d ρ' D.nx
theorem C8a {g:DG} (hp:PS X st (A5w (eOf C te) (gOf C g))):PS X st (sOf C (A4w te g)):=PS.wk hp λ_ _ _ zz45=>el3 zz45 fun ρ P _ R ht E=>⟨ρ,P,_,R,ht,λv d ρ' H' R' q=>⟨ρ',P,d,_,R',q,fun ρ2 σ2 R2 q2=>E.nx _ _ _ R2 q2⟩⟩
def Blk (t:DS) (D:O2) (ρ:List Sl):Prop:=t D ρ
def B4n (it:DF) (g:DG) (tb:DS) (D:O2) (ρ:List Sl):Prop:=it ρ λxs ρ1=>∃I:List PyData->List Sl->Prop,I xs ρ1/\(∀x r ρ,I (x::r) ρ->g x ρ (Blk tb { nx:=I r,ct:=I r,bk:=D.nx,rt:=D.rt }))/\∀ρ,I [] ρ->D.nx ρ
theorem A1r {it:DF} {g:DG} {tb:DS} (hp:PS X st (B7y (iOf C it) (gOf C g) (sOf C tb))):PS X st (sOf C (B4n it g tb)):=PS.wk hp λD σ H zz46=>el3 zz46 fun ρ P Dd R ht E=>⟨ρ,P,_,R,ht,λxs ρ1 P1 H1 J R1 s1 io q=>by
 obtain⟨I,q0,qs,qd⟩:=q
 refine⟨λi m σ' H'=>m=xs.length - i/\i<=xs.length/\∃ρ',Rel C ρ' σ' P1 H'/\I (xs.drop i) ρ',⟨xs.length,by simp,O7 _,ρ1,R1,q0⟩,?_⟩
 rintro i m σ2 H2 ⟨rfl,hi,ρ2,R2,q2⟩
 by_cases hlt:i < xs.length
 ·rw[List.drop_eq_getElem_cons hlt] at q2
  refine .inr ⟨io.go (λ_ h=>h) R2 hlt,fun σ' H'=>∃ρ',Rel C ρ' σ' P1 H'/\I (xs.drop (i + 1)) ρ',fun σ' H' h=>⟨xs.length - (i + 1),by lia,rfl,hlt,h⟩,λx H3 y=>?_⟩
  refine⟨ρ2,P1,_,_,io.yld (λ_ h=>h) R2 (M4 hlt) y,qs _ _ _ q2,fun ρ3 σ3 R3 q3=>?_⟩
  refine⟨ρ3,P1,⟨I (xs.drop (i + 1)),Dd.rt,Dd.nx,I (xs.drop (i + 1)),λ_=>False⟩,R3,q3,⟨fun ρ4 σ4 H4 R4 q4=>⟨ρ4,R4,q4⟩,λv d ρ4 σ4 H4 R4 q4=>E.rt v d ρ4 σ4 H4 (R4.sub (B9t s1)) q4,fun ρ4 σ4 H4 R4 q4=>E.nx ρ4 σ4 H4 (R4.sub s1) q4,fun ρ4 σ4 H4 R4 q4=>⟨ρ4,R4,q4⟩,λ_ _ _ _ _ _ _ _ h=>h.elim⟩⟩
 ·have e:i=xs.length:=by lia
  subst e
  rw[List.drop_length] at q2
  exact .inl ⟨io.stop (λ_ h=>h) R2,E.nx _ _ _ (R2.sub s1) (qd _ q2)⟩⟩
def A9l (c:DT) (tb:DS)  (D:O2) (ρ:List Sl):Prop:=∃W:Nat->List Sl->Prop,(∃m,W m ρ)/\∀m ρ,W m ρ->c ρ λb ρ1=>if b=true then Blk tb { nx:=fun ρ'=>∃m',m' < m/\W m' ρ',ct:=fun ρ'=>∃m',m' < m/\W m' ρ',bk:=D.nx,rt:=D.rt } ρ1 else D.nx ρ1
theorem B1d {tb:DS} (hp:PS X st (B3f (cOf C c) (sOf C tb))):PS X st (sOf C (A9l c tb)):=PS.wk hp λD σ H ⟨ρ,P,Dd,R,⟨W,⟨m0,w0⟩,turn⟩,E⟩=>by
 refine⟨λm σ' H'=>∃ρ',Rel C ρ' σ' P H'/\W m ρ',⟨m0,ρ,R,w0⟩,?_⟩
 rintro m σ1 H1 ⟨ρ1,R1,w1⟩
 refine⟨ρ1,P,_,R1,turn m ρ1 w1,λb ρ2 H2 R2 q2=>?_⟩
 cases b with
 | true=>
  refine G0 ⟨fun σ' H'=>∃ρ',Rel C ρ' σ' P H'/\∃m',m' < m/\W m' ρ',fun σ' H' zz48=>zz48.elim fun ρ' zz49=>zz49.elim λR' zz50=>zz50.elim λm' zz51=>zz51.elim λhm w=>⟨m',hm,ρ',R',w⟩,ρ2,P,⟨fun ρ'=>∃m',m' < m/\W m' ρ',Dd.rt,Dd.nx,fun ρ'=>∃m',m' < m/\W m' ρ',λ_=>False⟩,R2,by simpa [Blk] using q2,⟨fun ρ4 σ4 H4 R4 q4=>⟨ρ4,R4,q4⟩,E.rt,fun ρ4 σ4 H4 R4 q4=>E.nx ρ4 σ4 H4 R4 q4,fun ρ4 σ4 H4 R4 q4=>⟨ρ4,R4,q4⟩,λ_ _ _ _ _ _ _ _ h=>h.elim⟩⟩
 | false=>exact C7 (E.nx _ _ _ R2 (by simpa using q2))
end
open PySem.Spec PyProof.Rows
def f9:Md->PyData->Sl
 | .sh,d=>.sh d
 | .bo,.list ds=>.bo ds
 | .bo,_=>.no
 | .hd,_=>.hd
 | .b2,d=>match B4g d with
  | some dss=>.b2 dss
  | none=>.no
 | .bd,d=>.bd d
theorem C0a:∀dss:List (List PyData),A2l (lls dss)=some dss
 | []=>rfl
 | ds::dss=>by
  show (A2l (lls dss)).map (ds::·)=some (ds::dss)
  rw[C0a dss];rfl
theorem C8b (dss:List (List PyData)):f9 .b2 (.list (lls dss))=.b2 dss:=by
 show (match A2l (lls dss) with
  | some dss=>Sl.b2 dss
  | none=>.no)=_
 rw[C0a]
def A2s (n:Nat):List Md->List PyData->List Sl
 | m::ms,d::ds=>f9 m d::A2s (n - 1) ms ds
 | _,_=>E5 n .no
def m9:List Str->List Md->List PyData->List Sl
 | [],_,_=>[]
 | _::N,ms,ds=>(match ms,ds with
  | m::_,d::_=>f9 m d
  | _,_=>.no)::m9 N ms.tail ds.tail
theorem C0b:∀N:List Str,m9 N [] []=E5 N.length .no
 | []=>rfl
 | _::N=>by
  show Sl.no::m9 N [] []=_
  rw[C0b N];rfl
theorem C0c:∀{N:List Str} {ms:List Md} {ds:List PyData},ms.length<=N.length->ds.length=ms.length->m9 N ms ds=A2s N.length ms ds
 | N,[],[],_,_=>C0b N
 | _::N,m::ms,d::ds,h1,h2=>by
  show f9 m d::m9 N ms ds=f9 m d::A2s (N.length + 1 - 1) ms ds
  rw[C0c (by simpa using h1) (by simpa using h2)];rfl
 | [],_::_,_,h,_=>by simp at h
 | _,[],_::_,_,h=>by simp at h
 | _,_::_,[],_,h=>by simp at h
section
variable {P:Program} {w:World} {K:A9} {mg:Str->Option Value} {base:Heap}
theorem C8c {C:DC} {col:Addr->Nat} {H:Hp} {F:Addr->Prop} {hand:Option (Addr×Addr)} (hC:C.hand=hand) (hH:C.H0=H) (f:∀b,F b->col b=0) (lo:∀b,col b<=1) {ms:List Md} {vs:List V} {ds:List PyData} {n:Nat} (ar:Z5 F hand H ms vs ds) :
  ∀(i:Nat) (s:Sl),(A2s n ms ds)[i]?=some s->∀j:Nat,SlR C col H j ((vs.map some++E5 (n - vs.length) none)[i]?).join s:=by
 induction ar generalizing n with
 | nil=>
  intro i s e j
  have e':(E5 n Sl.no)[i]?=some s:=e
  rw[C4g] at e'
  split at e'
  ·cases e';trivial
  ·cases e'
 | @cons m v d ms vs ds a t ih=>
  intro i s e j
  have e':(f9 m d::A2s (n - 1) ms ds)[i]?=some s:=e
  cases i with
  | zero=>
   cases e'
   show SlR C col H j (some v) (f9 m d)
   have mv0:∀b o,F b->H b=some o->Z col b/\H b=some o:=λb o z e=>⟨f b z,e⟩
   cases m with
   | sh=>exact⟨v,rfl,ThV.mv mv0 a⟩
   | bo=>
    obtain⟨ad,us,es,rfl,rfl,nh,e2,t2⟩:=a
    exact⟨ad,us,rfl,lo ad,by rw[hC];exact nh,e2,B2.mv mv0 t2⟩
   | hd=>
    obtain⟨q,hq,rfl⟩:=a
    exact⟨q,hC.trans hq,rfl⟩
   | b2=>
    obtain⟨ad,as,dss,rfl,rfl,nh,e2,t2⟩:=a
    rw[C8b]
    exact⟨ad,as,rfl,⟨lo ad,by rw[hC];exact nh⟩,e2,t2.mv mv0 λb o g e=>⟨⟨lo b,by rw[hC];exact g⟩,e⟩⟩
   | bd=>exact⟨v,rfl,ThV.mv (λb o g e=>⟨⟨(by rw[hH,e];exact λq=>nomatch q),by rw[hC];exact g⟩,by rw[hH];exact e⟩) a⟩
  | succ i=>
   have:=ih (n:=n - 1) i s e' j
   rw[Q9,A5r,A8v,J8,show n - (vs.length + 1)=n - 1 - vs.length by lia]
   exact this
theorem C8d {F:Addr->Prop} {hand:Option (Addr×Addr)} {H:Hp} {ms:List Md} {vs:List V} {ds:List PyData} {n:Nat} (a:Z5 F hand H ms vs ds) (h:ms.length<=n):(A2s n ms ds).length=n:=by
 induction a generalizing n with
 | nil=>show (E5 n Sl.no).length=n;rw[A10]
 | @cons m v d ms vs ds a t ih=>
  show (f9 m d::A2s (n - 1) ms ds).length=n
  rw[J8] at h
  rw[J8,ih (by lia)]
  lia
open Classical in
theorem F8 {x qual:Str} {st:Stmt} {f:Addr} {fd:FuncData} {N ps:List Str} {k:Nat} {sp:DSp} {ms:List Md} (F:Fun K x qual st f fd) (S:D1 N ps (B1 st)) (hm:ms.length=ps.length)
  (hb:∀(C:DC) (cdv:Value) (A:Around) (outer:List Env) (s:Shared) (H:Hp) (E:XK),P7 k (A.deeper (envOfC qual (B1 st) s.heap.objs.size f cdv))->
   ∃t,PSs (N6 CX0 P w K mg base N qual (B1 st) f cdv A outer s H E).nox (P0 st) (sOf C t)/\∀ds Q,ds.length=ms.length->sp ds Q->t { nx:=λ_=>Q .none,rt:=Q } (m9 N ms ds)) :
  C1 P w K mg base CX0 (k + 1) f fd ps (spD ms sp):=by
 refine F.ok S (λvs H Q E h=>?_) (λcdv A outer s H vs Q E hr h=>?_)
 ·obtain⟨_,_,_,_,_,_,_,a,_⟩:=h
  rw[a.len.1,hm]
 ·obtain⟨G,hand,ds,Qd,h1,h2,h3,a,h4,h5⟩:=h
  obtain⟨t,ht,q⟩:=hb ⟨G,hand,H⟩ cdv A outer s H E hr
  have hN:ps.length<=N.length:=by have:=congrArg p7 S.pre;rw[j6] at this;lia
  let col:Addr->Nat:=λb=>if G b then 0 else 1
  have c0:∀b,G b->col b=0:=λb hb=>if_pos hb
  have c1:∀b,¬ G b->col b=1:=λb hb=>if_neg hb
  have lo:∀b,col b<=1:=λb=>by
   by_cases z:G b
   ·rw[c0 b z];lia
   ·rw[c1 b z];lia
  refine⟨_,ht,A2s N.length ms ds,[],⟨λ_=>Qd .none,Qd,λ_=>False,λ_=>False,λ_=>False⟩,⟨col,λb hb=>c0 b (h1.1 b hb),λb hb=>?_,λq hq=>c1 _ (h2 q hq),λi s e=>C8c (C:=⟨G,hand,H⟩) rfl rfl c0 lo a i s e i,λp hp=>(nomatch hp),Kq.refl,h3,h3,h1,?_⟩,by rw[<-C0c (by lia) a.len.2];exact q ds Qd a.len.2 h4,⟨fun ρ σ H' R h=>?_,λv d ρ σ H' R h=>?_,λ_ _ _ _ h=>h.elim,λ_ _ _ _ h=>h.elim,λ_ _ _ _ _ _ _ _ h=>h.elim⟩⟩
  ·by_cases z:G b
   ·exact z
   ·rw[c1 b z] at hb;cases hb
  ·rw[C8d a (by lia)]
   unfold L2.start
   rw[U6,C6,A10,a.len.1]
   lia
  ·obtain⟨col',r⟩:=R
   exact h5 _ _ _ h .non r.kq r.hq
  ·obtain⟨col',r⟩:=R
   exact h5 _ _ _ h (ThV.mv (λb o z e=>⟨r.inF b z,e⟩) (r.pd _ D9)) r.kq r.hq
open Classical in
end
end My
namespace My
open PySem L2
section
variable {X:Cx} {C:DC} {tg e a b:Expr} {t ta tb:DE} {u:DF} {pos:Pos}
def y9:List PyData->Option (List Int)
 | []=>some []
 | .int b::r=>(y9 r).map (b::·)
 | _::_=>none
theorem B4o {F:Addr->Prop} {H:Hp} {ds:List PyData} {vs:List V} {bs:List Int} (t:B2 F H vs ds) (h:y9 ds=some bs):vs=bs.map V.int:=by
 induction ds generalizing vs bs with
 | nil=>cases t;cases h;rfl
 | cons d r ih=>
  cases t with
  | cons x y=>
   cases x with
   | int b=>
    have h':(y9 r).map (b::·)=some bs:=h
    cases q:y9 r with
    | none=>rw[q] at h';cases h'
    | some cs=>
     rw[q] at h'
     cases h'
     rw[ih y q];rfl
   | _=>cases h
theorem A9m:∀ns:List Int,y9 (ns.map PyData.int)=some ns
 | []=>rfl
 | n::ns=>by
  show (y9 (ns.map PyData.int)).map (n::·)=some (n::ns)
  rw[A9m ns];rfl
def gIn (neg:Bool)  (a b:PyData) (Q:PyData->Prop):Prop:=match a,b with
 | .int i,.list xs=>bnd (y9 xs) λns=>Q (.bool (if neg then !(ns.contains i) else ns.contains i))
 | _,_=>False
theorem C0d (i:Int):∀ns:List Int,inV (V.int i) (ns.map V.int)=ns.contains i
 | []=>rfl
 | n::ns=>by
  have:=C0d i ns
  unfold inV at this ⊢
  rw[Q9,A5o,this,List.contains_cons]
  congr 1
  show (n == i)=(i == n)
  exact Bool.beq_comm
theorem C0e:∀ns:List Int,(ns.map V.int).all A1m=true
 | []=>rfl
 | n::ns=>by rw[Q9,List.all_cons,C0e ns];rfl
theorem C8e {K:A9} {neg:Bool}:V1 C (rIn K neg) (gIn neg):=by
 intro ρ σ P H v w a b Qd Q R hg k
 unfold gIn at hg
 split at hg
 ·obtain⟨ns,hn,q⟩:=M9 hg
  obtain⟨col,r,t1,t2⟩:=th2 R
  cases t1
  cases t2 with
  | lst za e t=>
   have z:=B4o t hn
   subst z
   refine⟨_,_,rfl,.inl (SqL.of e),rfl,C0e ns,k _ _ _ ⟨col,r.push ?_⟩ q⟩
   rw[C0d]
   exact .bl _
 ·exact hg.elim
def A4x (i:Nat) (tk:DE)  (ρ:List Sl) (Q:PyData->List Sl->Prop):Prop:=bnd (R9 ρ i) λa0=>bnd (O1 a0) λ_=>tk ρ λk ρ2=>match k with
 | .int k=>bnd (R9 ρ2 i) λa=>bnd (O1 a) λxs=>bnd (y9 xs) λns=>(k∈ns/\ns.length<=100000)/\Q (.int (ns.idxOf k:Nat)) ρ2
 | _=>False
theorem C0f {i:Nat} {K:A9} (h:PE X e (tBM K "list" (B9g K) (U7 i) (g8 (eOf C t) g7))):PE X e (eOf C (A4x i t)):=PE.wk h fun σ H Q zz1=>el3 zz1 fun ρ P Qd zz2 ht k=>zz2.elim λcol0 r0=>by
 obtain⟨a0,h0,ht⟩:=M9 ht
 obtain⟨xs0,hx0,ht⟩:=M9 ht
 have:=A4o hx0
 subst this
 obtain⟨v,ev,t0⟩:=r0.slot h0
 obtain⟨a,vs,rfl,e0,_⟩:=t0.lst
 refine⟨_,ev,.inl ⟨rfl,vs,SqL.of e0⟩,ρ,P,_,⟨col0,r0⟩,ht,λw d ρ2 H2 R2 h2=>?_⟩
 split at h2
 ·rename_i kk
  obtain⟨a1,h1,h2⟩:=M9 h2
  obtain⟨xs,hx,h2⟩:=M9 h2
  obtain⟨ns,hn,⟨hk,hz⟩,q⟩:=M9 h2
  have:=A4o hx
  subst this
  obtain⟨col,r⟩:=R2
  obtain⟨v',ev',t1⟩:=r.slot h1
  rw[ev] at ev'
  cases ev'
  obtain⟨a',vs',e',e1,t1⟩:=t1.lst
  cases e'
  have z:=B4o t1 hn
  subst z
  have tw:ThV (Z col) H2 w (.int kk):=r.pd _ D9
  cases tw
  exact⟨a,ns,kk,rfl,rfl,SqL.of e1,hk,hz,k _ _ _ _ ⟨col,(r.sub λ_ h=>D3 _ h).push (.int _)⟩ q⟩
 ·exact h2.elim
def A4y (t:DE)  (ρ:List Sl) (Q:List PyData->List Sl->Prop):Prop:=t ρ λd ρ'=>bnd (O1 d) λxs=>Q xs.reverse ρ'
theorem B2.rev {F:Addr->Prop} {H:Hp} {vs:List V} {ds:List PyData} (t:B2 F H vs ds):B2 F H vs.reverse ds.reverse:=by
 induction vs generalizing ds with
 | nil=>cases t;exact .nil
 | cons v vs ih=>
  cases t with
  | cons x t=>
   rw[A8u,A8u]
   exact (ih t).append (.cons x .nil)
theorem C0g {K:A9} (h:PE X e (fun σ H Q=>g8 (eOf C t) g7 σ H λvs H1=>∃a xs,vs=[.ref a]/\SqL K H1 a xs/\∀p,H1 p=none->Q (.ref p) (upd H1 p (.lst xs.reverse)))):PE X e (fOf C (A4y t)):=PE.wk h λ_ _ _ zz3=>el3 zz3 fun ρ P _ R ht k=>⟨ρ,P,_,R,ht,λv d ρ' H' zz4 q=>zz4.elim λcol r=>by
 obtain⟨xs,hx,q⟩:=M9 q
 have:=A4o hx
 subst this
 obtain⟨a,vs,rfl,e,t⟩:=Red.lst (.th (r.pd _ D9))
 exact⟨a,vs,rfl,SqL.of e,λp hp=>k _ _ _ _ _ ⟨col,r.sub λ_ h=>D3 _ h,t.rev⟩ hp q⟩⟩
theorem C8f {K:A9} {a:Addr} {vs:List V} {xs:List PyData} {P:List Pe}:A9h C (Itv K a vs.length) xs.reverse (.n a (.lst vs)::.s vs xs::P) where
 go:=λ{i ρ σ P' H} s R hi=>by
  obtain⟨col,r⟩:=R
  have h1:=r.pd _ (s _ D9)
  have h2:B2 (Z col) H vs xs:=r.pd _ (s _ (D3 _ D9))
  have hl:=h2.len
  rw[A0l] at hi
  exact⟨vs,vs.reverse[i]'(by rw[A0l];lia),SqL.of h1.2.2,rfl,M4 _⟩
 yld:=λ{i ρ σ P' H H' x d} s R hi y=>by
  obtain⟨e,y⟩:=y
  subst e
  obtain⟨col,r⟩:=R
  have h1:=r.pd _ (s _ D9)
  have h2:B2 (Z col) H' vs xs:=r.pd _ (s _ (D3 _ D9))
  have hx:=y vs (SqL.of h1.2.2)
  obtain⟨d',e1,t⟩:=h2.rev.get hx
  rw[hi] at e1
  cases e1
  exact⟨col,r.push t⟩
 stop:=λ{ρ σ P' H} s R=>by
  obtain⟨col,r⟩:=R
  have h2:B2 (Z col) H vs xs:=r.pd _ (s _ (D3 _ D9))
  have hl:=h2.len
  show vs.length<=xs.reverse.length
  rw[A0l];lia
def B4p (t:DE)  (ρ:List Sl) (Q:List PyData->List Sl->Prop):Prop:=t ρ λd ρ'=>bnd (O1 d) λxs=>Q xs.reverse ρ'
theorem C0h {K:A9} (h:PI X tg e (B9k K (g8 (eOf C t) g7))):PI X tg e (iOf C (B4p t)):=PI.wk h λ_ _ _ zz5=>el3 zz5 fun ρ P _ R ht k=>⟨ρ,P,_,R,ht,λv d ρ' H' zz6 q=>zz6.elim λcol r=>by
 obtain⟨xs,hx,q⟩:=M9 q
 have:=A4o hx
 subst this
 obtain⟨a,vs,rfl,za,e1,t1⟩:=K9 (show ThV (Z col) H' v (.list xs) from r.pd _ D9)
 refine⟨a,vs,rfl,SqL.of e1,k _ ρ' (.n a (.lst vs)::.s vs xs::P) H' _ ⟨col,?_⟩ (λ_ h=>D3 _ (D3 _ h)) C8f q⟩
 exact ((r.sub λ_ h=>D3 _ h).add (x:=.s vs xs) t1).add (x:=.n a (.lst vs)) ⟨by rw[show col a=0 from za];decide,r.notH (by rw[show col a=0 from za];decide),e1⟩⟩
theorem A05 {n j:Nat} {it:DF} {tt:DT} {te:DE} (hn:n=j + 1) (h:PE X e (A52 (iOf C it) n j (λ_=>cOf C tt) (λ_=>eOf C te))):PE X e (fOf C (A04 j it tt te)):=PE.wk h λ_ _ _ h=>B4m hn h
def gB2 (f:Bool->Bool->Bool)  (a b:PyData) (Q:PyData->Prop):Prop:=match a,b with
 | .bool i,.bool j=>Q (.bool (f i j))
 | _,_=>False
end
theorem C8g {α:Type} {x:α} {xs:List α}:atI (x::xs) 0=some x:=c9 (j:=0) rfl
theorem A6c {α:Type} {x:α}:atI [x] 0=some x:=rfl
theorem A6d {α:Type} {x y:α}:atI [x,y] 0=some x:=rfl
theorem A6e {α:Type} {x y:α}:atI [x,y] 1=some y:=rfl
theorem A6f {α:Type} {x y z:α}:atI [x,y,z] 0=some x:=rfl
theorem A6g {α:Type} {x y z:α}:atI [x,y,z] 1=some y:=rfl
theorem A6h {α:Type} {x y z:α}:atI [x,y,z] 2=some z:=rfl
theorem A6i {a b:Prop}:(if true=true then a else b)=a:=rfl
theorem A6j {a b:Prop}:(if false=true then a else b)=b:=rfl
theorem A6k {a b:Bool}:(if true=true then a else b)=a:=rfl
theorem A6l {a b:Bool}:(if false=true then a else b)=b:=rfl
theorem A6m {a b:Int}:(if true=true then a else b)=a:=rfl
theorem A6n {a b:Int}:(if false=true then a else b)=b:=rfl
theorem A6o {α:Type} {a:α} {Q:α->Prop}:bnd (some a) Q=Q a:=rfl
theorem z4 {α:Type} {te:DE} {ρ:List Sl} {Q:List PyData->Prop} {g f:α->PyData}:∀{xs:List α} {acc:List PyData},(∀x∈xs,∀Q':PyData->List Sl->Prop,Q' (f x) (ρ++[.sh (g x)])->te (ρ++[.sh (g x)]) Q')->Q (acc++xs.map f)->A2n B4l te ρ Q (xs.map g) acc
 | [],acc,_,q=>by
  have q':Q (acc++[]):=q
  rw[A1f] at q'
  exact q'
 | x::r,acc,h,q=>by
  refine⟨rfl,?_⟩
  rw[if_pos rfl]
  refine h x D9 _ ⟨rfl,z4 (λy hy=>h y (D3 _ hy)) ?_⟩
  rw[A8t]
  exact q
theorem B4q {α:Type} {tt:DT} {te:DE} {ρ:List Sl} {Q:List PyData->Prop} {g f:α->PyData} {p:α->Bool}:∀{xs:List α} {acc:List PyData},(∀x∈xs,∀Q':Bool->List Sl->Prop,Q' (p x) (ρ++[.sh (g x)])->tt (ρ++[.sh (g x)]) Q')->(∀x∈xs,p x=true->∀Q':PyData->List Sl->Prop,Q' (f x) (ρ++[.sh (g x)])->te (ρ++[.sh (g x)]) Q')->
  Q (acc++(xs.filter p).map f)->A2n tt te ρ Q (xs.map g) acc
 | [],acc,_,_,q=>by
  have q':Q (acc++[]):=q
  rw[A1f] at q'
  exact q'
 | x::r,acc,h1,h2,q=>by
  refine h1 x D9 _ ⟨rfl,?_⟩
  cases e:p x with
  | true=>
   rw[if_pos rfl]
   refine h2 x D9 e _ ⟨rfl,B4q (λy hy=>h1 y (D3 _ hy)) (λy hy=>h2 y (D3 _ hy)) ?_⟩
   rw[B7g e] at q
   rw[A8t]
   exact q
  | false=>
   rw[if_neg Q2]
   refine B4q (λy hy=>h1 y (D3 _ hy)) (λy hy=>h2 y (D3 _ hy)) ?_
   rw[B7h (by rw[e];exact Q2)] at q
   exact q
theorem B4r {xs:List PyData} {k:Nat}:m8 xs none (some ((k:Nat):Int))=xs.take k:=by
 unfold m8
 rw[HT.sIx_none,HT.sIx_nat,List.drop_zero,Nat.sub_zero]
 by_cases h:k<=xs.length
 ·rw[B23 h]
 ·rw[Nat.min_eq_right (by lia),B22 (F9 _),B22 (by lia)]
theorem C8h {xs:List PyData} {i j:Nat} (h1:i<=xs.length) (h2:j<=xs.length):m8 xs (some ((i:Nat):Int)) (some ((j:Nat):Int))=(xs.drop i).take (j - i):=by
 unfold m8
 rw[HT.sIx_nat,HT.sIx_nat,B23 h1,B23 h2]
def B4s (tt:DT) (te:DE) (ρ:List Sl) (Q:List PyData->Prop):List PyData->List PyData->Prop
 | [],acc=>Q acc
 | .tuple [x,y,z]::r,acc=>tt (ρ++[.sh x,.sh y,.sh z]) λb ρ'=>ρ'=ρ++[.sh x,.sh y,.sh z]/\if b=true then te (ρ++[.sh x,.sh y,.sh z]) λd ρ''=>ρ''=ρ++[.sh x,.sh y,.sh z]/\B4s tt te ρ Q r (acc++[d]) else B4s tt te ρ Q r acc
 | _::_,_=>False
def A6p (it:DF) (tt:DT) (te:DE) (ρ:List Sl) (Q:List PyData->List Sl->Prop):Prop:=it ρ λxs ρ1=>xs.length<=1000/\B4s tt te ρ1 (λds=>Q ds ρ1) xs []
section
variable {X:Cx} {C:DC}
end
theorem C0i {te:DE} {ρ:List Sl} {Q:List PyData->Prop} {R:PyData->Prop}:∀{xs acc:List PyData},(∀x∈xs,∀Q':PyData->List Sl->Prop,(∀d,R d->Q' d (ρ++[.sh x]))->te (ρ++[.sh x]) Q')->(∀ds:List PyData,ds.length=xs.length->(∀d∈ds,R d)->Q (acc++ds))->A2n B4l te ρ Q xs acc
 | [],acc,_,q=>by
  have q':=q [] rfl (λd hd=>nomatch hd)
  rw[A1f] at q'
  exact q'
 | x::r,acc,h,q=>by
  refine⟨rfl,?_⟩
  rw[if_pos rfl]
  refine h x D9 _ λd hd=>⟨rfl,C0i (λy hy=>h y (D3 _ hy)) λds hl hR=>?_⟩
  rw[A8t]
  refine q ([d]++ds) (by simp [hl]) λe he=>?_
  rcases A0g.mp he with z | z
  ·have:e=d:=by simpa using z
   subst this;exact hd
  ·exact hR e z
section
variable {X:Cx} {C:DC}
open Classical in
def gT5 (i j k l n:Nat)  (d:PyData) (ρ:List Sl) (Q:List Sl->Prop):Prop:=match d with
 | .tuple [a,b,c,e,f]=>Q (((((ρ.set i (.sh a)).set j (.sh b)).set k (.sh c)).set l (.sh e)).set n (.sh f))
 | _=>False
def A2t:List PyData->Option (List Str)
 | []=>some []
 | .str b::r=>(A2t r).map (b::·)
 | _::_=>none
def A6q (neg:Bool)  (a b:PyData) (Q:PyData->Prop):Prop:=match a,b with
 | .str i,.tuple xs=>bnd (A2t xs) λns=>Q (.bool (if neg then !(inV (.str i) (ns.map V.str)) else inV (.str i) (ns.map V.str)))
 | _,_=>False
def A6r  (ds:List PyData) (Q:PyData->Prop):Prop:=match ds with
 | [.list xs]=>xs≠[]/\(∀x∈xs,∃i j:Int,x=.tuple [.int i,.int j])/\∀x∈xs,Q x
 | _=>False
end
def J1 (b:Nat×Int):PyData:=.tuple [.int (b.1:Nat),.int b.2]
section
variable {X:Cx} {C:DC} {e:Expr} {u:DF}
def A6s (i:Nat) (tk:DE)  (ρ:List Sl) (Q:PyData->List Sl->Prop):Prop:=match ρ[i]? with
 | some (.ow _)=>tk ρ λk ρ'=>match ρ'[i]? with
  | some (.ow ds)=>match k with
   | .int k=>bnd (ixN ds.length k) λj=>bnd (ds[j]?) λd=>ds.length<=1000/\Q d (ρ'.set i (.ow (ds.eraseIdx j)))
   | _=>False
  | _=>False
 | _=>False
def A6t (t:DE)  (ρ:List Sl) (Q:List PyData->List Sl->Prop):Prop:=t ρ λd ρ'=>match d with
 | .int n=>(0<=n/\n<=1000)/\Q (U4 0 n.toNat) ρ'
 | _=>False
end
def C8i (xs ys:List PyData):List PyData:=(xs.zip ys).map λp=>.tuple [p.1,p.2]
section
variable {X:Cx} {C:DC} {tg e:Expr} {t u:DE}
def A6u (t u:DE)  (ρ:List Sl) (Q:List PyData->List Sl->Prop):Prop:=t ρ λd ρ1=>u ρ1 λd2 ρ2=>bnd (O1 d) λxs=>bnd (O1 d2) λys=>Q (C8i xs ys) ρ2
end
def B4t (tt:DT) (te:DE) (ρ:List Sl) (Q:List PyData->Prop):List PyData->List PyData->Prop
 | [],acc=>Q acc
 | .tuple [x,y]::r,acc=>tt (ρ++[.sh x,.sh y]) λb ρ'=>ρ'=ρ++[.sh x,.sh y]/\if b=true then te (ρ++[.sh x,.sh y]) λd ρ''=>ρ''=ρ++[.sh x,.sh y]/\B4t tt te ρ Q r (acc++[d]) else B4t tt te ρ Q r acc
 | _::_,_=>False
def A6v (it:DF) (tt:DT) (te:DE) (ρ:List Sl) (Q:List PyData->List Sl->Prop):Prop:=it ρ λxs ρ1=>xs.length<=1000/\B4t tt te ρ1 (λds=>Q ds ρ1) xs []
section
variable {X:Cx} {C:DC}
end
section
variable {X:Cx} {C:DC} {st:Stmt} {te:DE}
end
section
variable {X:Cx} {C:DC} {st:Stmt}
def D7q (i:Nat) (tk te:DE)  (D:O2) (ρ:List Sl):Prop:=match ρ[i]? with
 | some (.ow _)=>tk ρ λk ρ1=>te ρ1 λd ρ2=>match ρ2[i]? with
  | some (.ow ds)=>∃n:Nat,k=.int ((n:Nat):Int)/\n<=ds.length/\ds.length<=1000/\D.nx (ρ2.set i (.ow (ds.take n++[d]++ds.drop n)))
  | _=>False
 | _=>False
end
theorem Rws.mvm {G F G' F':Addr->Prop} {H H':Hp} {as:List Addr} {dss:List (List PyData)} (t:Rws G F H as dss) (f:∀b o,F b->H b=some o->F' b/\H' b=some o) (g:∀b o,b∈as->G b->H b=some o->G' b/\H' b=some o):Rws G' F' H' as dss:=by
 induction t with
 | nil=>exact .nil
 | cons x e y _ ih=>
  have:=g _ _ D9 x e
  exact .cons this.1 this.2 (y.mv f) (ih λb o hb=>g b o (D3 _ hb))
section
variable {C:DC} {col col':Addr->Nat} {ρ:List Sl} {σ σ':St} {P:List Pe} {H H':Hp} {p:Addr}
end
section
variable {X:Cx} {C:DC} {a b e:Expr} {pos:Pos}
end
section
variable {X:Cx} {C:DC} {e:Expr}
end
section
variable {X:Cx} {C:DC} {st:Stmt} {e:Expr} {te:DE} {pos:Pos} {u:DA}
end
section
variable {X:Cx} {C:DC} {e:Expr} {ta:DE}
end
end My
namespace My
abbrev Tb:=List (Option Int)
abbrev Rn:=List (Option Nat)
abbrev Wy:=Nat×Nat×Int
def J6 (st lv c:Int):Option Int:=if lv + c < 0 then none else some (if st < lv + c then st else lv + c)
def gt {α:Type} (t:List (Option α)) (p:Nat):Option α:=(t[p]?).join
def O3 (st:Int) (t:Tb) (w:Wy):Option Int:=match gt t w.1 with
 | none=>none
 | some l=>J6 st l w.2.2
def Y3:Option Int->Option Int->Bool
 | none,_=>false
 | some _,none=>true
 | some a,some b=>decide (b < a)
def leO (a b:Option Int):Prop:=Y3 a b=false
theorem T5 {a b:Int}:leO (some a) (some b)↔a<=b:=by unfold leO Y3;simp
theorem B1e {b:Option Int}:leO none b:=rfl
theorem n6 {a:Int}:¬ leO (some a) none:=by unfold leO Y3;simp
theorem A4z (a:Option Int):leO a a:=by
 cases a with
 | none=>rfl
 | some x=>exact T5.mpr (A0m x)
theorem A06 {a b c:Option Int} (h1:leO a b) (h2:leO b c):leO a c:=by
 cases a with
 | none=>rfl
 | some x=>
  cases b with
  | none=>exact absurd h1 n6
  | some y=>
   cases c with
   | none=>exact absurd h2 n6
   | some z=>exact T5.mpr (B24 (T5.mp h1) (T5.mp h2))
theorem C8j {a b:Option Int} (h1:leO a b) (h2:leO b a):a=b:=by
 cases a with
 | none=>cases b with
  | none=>rfl
  | some y=>exact absurd h2 n6
 | some x=>cases b with
  | none=>exact absurd h1 n6
  | some y=>rw[Int.le_antisymm (T5.mp h1) (T5.mp h2)]
theorem C8k {a b:Option Int} (h:Y3 a b=true):leO b a:=by
 cases a with
 | none=>cases h
 | some x=>cases b with
  | none=>rfl
  | some y=>unfold Y3 at h;exact T5.mpr (by have:=of_decide_eq_true h;lia)
theorem B4u {a b:Option Int} (h:Y3 a b=true):¬ leO a b:=λz=>by unfold leO at z;rw[z] at h;cases h
theorem B4v {a b:Option Int}:Y3 a b=true\/leO a b:=by
 cases e:Y3 a b with
 | true=>exact .inl rfl
 | false=>exact .inr e
theorem C0j {st a b c:Int} (h:a<=b):leO (J6 st a c) (J6 st b c):=by
 unfold J6
 by_cases h1:a + c < 0
 ·rw[if_pos h1];rfl
 ·have h2:¬ b + c < 0:=by lia
  rw[if_neg h1,if_neg h2]
  apply T5.mpr
  split <;> split <;> lia
theorem B4w {st l c x:Int} (h0:0<=st) (h:J6 st l c=some x):0<=x/\x<=st:=by
 unfold J6 at h
 split at h
 ·cases h
 ·have:=Option.some.inj h
  subst this
  split <;> lia
def leT (t u:Tb):Prop:=∀p,leO (gt t p) (gt u p)
theorem B4x (t:Tb):leT t t:=λ_=>A4z _
theorem C0k {t u v:Tb} (a:leT t u) (b:leT u v):leT t v:=λp=>A06 (a p) (b p)
theorem C8l {st:Int} {t u:Tb} {w:Wy} (h:leT t u):leO (O3 st t w) (O3 st u w):=by
 have:=h w.1
 unfold O3
 cases e:gt t w.1 with
 | none=>rfl
 | some a=>
  rw[e] at this
  cases e2:gt u w.1 with
  | none=>rw[e2] at this;exact absurd this n6
  | some b=>rw[e2] at this;exact C0j (T5.mp this)
theorem C8m {st:Int} {t:Tb} {w:Wy} {x:Int} (h0:0<=st) (h:O3 st t w=some x):0<=x/\x<=st:=by
 unfold O3 at h
 split at h
 ·cases h
 ·exact B4w h0 h
structure G1 (m:Nat) (st:Int) (t:Tb):Prop where
 len:t.length=m
 bd:∀p x,gt t p=some x->0<=x/\x<=st
structure J7 (m:Nat) (ws:List Wy):Prop where
 m1:1<=m
 m2:m<=12
 few:ws.length<=40
 st:∀w∈ws,w.1 < m
 en:∀w∈ws,w.2.1 < m
 lo:∀w∈ws,-1000000000000000000<=w.2.2
 hi:∀w∈ws,w.2.2<=1000000000000000000
theorem A40 {α:Type} {t:List (Option α)} {p:Nat} (h:t.length<=p):gt t p=none:=by unfold gt;rw[A11 h];rfl
theorem A41 {α:Type} {t:List (Option α)} {p:Nat} (h:p < t.length):t[p]?=some (gt t p):=by unfold gt;rw[M4 h];rfl
theorem A42 {α:Type} {t:List (Option α)} {i j:Nat} {x:Option α} (h:i < t.length):gt (t.set i x) j=if i=j then x else gt t j:=by
 unfold gt
 rw[A3f]
 by_cases e:i=j
 ·rw[if_pos e,if_pos h,if_pos e];rfl
 ·rw[if_neg e,if_neg e]
theorem A43 {α:Type} {m p:Nat}:gt (E5 m (none:Option α)) p=none:=by
 unfold gt
 rw[C4g]
 split <;> rfl
theorem C0l {t u:Tb} (hl:t.length=u.length) (h:∀p,gt t p=gt u p):t=u:=by
 apply List.ext_getElem?
 intro i
 by_cases hi:i < t.length
 ·rw[A41 hi,A41 (by lia),h i]
 ·rw[A11 (by lia),A11 (by lia)]
theorem C8n {t u:Tb} (hl:t.length=u.length) (h1:leT t u) (h2:leT u t):t=u:=C0l hl λp=>C8j (h1 p) (h2 p)
def A2u (st:Int) (t:Tb) (acc:Tb×Rn) (p:Wy×Nat):Tb×Rn:=
 if Y3 (O3 st t p.1) (gt acc.1 p.1.2.1)=true then (acc.1.set p.1.2.1 (O3 st t p.1),acc.2.set p.1.2.1 (some p.2)) else acc
def P3 (m:Nat) (ws:List Wy) (st:Int) (t s:Tb):Tb×Rn:=ws.zipIdx.foldl (A2u st t) (s,E5 m none)
structure A6w (m:Nat) (ws:List Wy) (st:Int) (t s:Tb) (L:List (Wy×Nat)) (acc:Tb×Rn):Prop where
 l1:acc.1.length=m
 l2:acc.2.length=m
 up:leT s acc.1
 no:∀p,gt acc.2 p=none->gt acc.1 p=gt s p
 yes:∀p n,gt acc.2 p=some n->∃w,ws[n]?=some w/\w.2.1=p/\gt acc.1 p=O3 st t w/\Y3 (O3 st t w) (gt s p)=true
 top:∀q∈L,leO (O3 st t q.1) (gt acc.1 q.1.2.1)
theorem C8o {m:Nat} {ws:List Wy} {st:Int} {t s:Tb} {L:List (Wy×Nat)} {acc:Tb×Rn} (ok:J7 m ws) (I:A6w m ws st t s L acc) {q:Wy×Nat} (hq:ws[q.2]?=some q.1):A6w m ws st t s (L++[q]) (A2u st t acc q):=by
 have hw:q.1∈ws:=R6 hq
 have he:q.1.2.1 < m:=ok.en _ hw
 unfold A2u
 by_cases c:Y3 (O3 st t q.1) (gt acc.1 q.1.2.1)=true
 ·rw[if_pos c]
  have g1:∀j,gt (acc.1.set q.1.2.1 (O3 st t q.1)) j=if q.1.2.1=j then O3 st t q.1 else gt acc.1 j:=λj=>A42 (by rw[I.l1];exact he)
  have g2:∀j,gt (acc.2.set q.1.2.1 (some q.2)) j=if q.1.2.1=j then some q.2 else gt acc.2 j:=λj=>A42 (by rw[I.l2];exact he)
  have hup:∀j,leO (gt acc.1 j) (gt (acc.1.set q.1.2.1 (O3 st t q.1)) j):=λj=>by
   rw[g1]
   by_cases e:q.1.2.1=j
   ·rw[if_pos e,<-e];exact C8k c
   ·rw[if_neg e];exact A4z _
  refine⟨by rw[Y6];exact I.l1,by rw[Y6];exact I.l2,λp=>A06 (I.up p) (hup p),λp hp=>?_,λp n hp=>?_,λr hr=>?_⟩
  ·rw[g2] at hp
   by_cases e:q.1.2.1=p
   ·rw[if_pos e] at hp;cases hp
   ·rw[if_neg e] at hp;rw[g1,if_neg e];exact I.no p hp
  ·rw[g2] at hp
   by_cases e:q.1.2.1=p
   ·rw[if_pos e] at hp
    cases hp
    refine⟨q.1,hq,e,by rw[g1,if_pos e],?_⟩
    rcases B4v (a:=O3 st t q.1) (b:=gt s p) with z | z
    ·exact z
    ·exact absurd (A06 z (I.up p)) (B4u (e▸c))
   ·rw[if_neg e] at hp;rw[g1,if_neg e];exact I.yes p n hp
  ·rcases A0g.mp hr with hr | hr
   ·exact A06 (I.top r hr) (hup _)
   ·have:r=q:=by simpa using hr
    subst this
    rw[g1,if_pos rfl];exact A4z _
 ·rw[if_neg c]
  refine⟨I.l1,I.l2,I.up,I.no,I.yes,λr hr=>?_⟩
  rcases A0g.mp hr with hr | hr
  ·exact I.top r hr
  ·have:r=q:=by simpa using hr
   subst this
   rcases B4v (a:=O3 st t r.1) (b:=gt acc.1 r.1.2.1) with z | z
   ·exact absurd z c
   ·exact z
theorem C0m {m:Nat} {ws:List Wy} {st:Int} {t s:Tb} (ok:J7 m ws):∀(R L:List (Wy×Nat)) (acc:Tb×Rn),A6w m ws st t s L acc->(∀q∈R,ws[q.2]?=some q.1)->A6w m ws st t s (L++R) (R.foldl (A2u st t) acc)
 | [],L,acc,I,_=>by rw[A1f];exact I
 | q::R,L,acc,I,h=>by
  have:=C0m ok R (L++[q]) _ (C8o ok I (h q D9)) λr hr=>h r (D3 _ hr)
  rw[A8t] at this
  exact this
theorem A0a {m:Nat} {ws:List Wy} {st:Int} {t s:Tb} (ok:J7 m ws) (hs:s.length=m):A6w m ws st t s ws.zipIdx (P3 m ws st t s):=by
 have h0:A6w m ws st t s [] (s,E5 m none):=⟨hs,by rw[A10],B4x s,λ_ _=>rfl,λp n h=>(by rw[A43] at h;cases h),λq hq=>(nomatch hq)⟩
 have:=C0m ok ws.zipIdx [] _ h0 λq hq=>by
  obtain⟨w,n⟩:=q
  rw[C4k] at hq
  exact hq
 rw[X5] at this
 exact this
theorem C0n {m:Nat} {ws:List Wy} {st:Int} {t s:Tb} (ok:J7 m ws) (hs:s.length=m) {w:Wy} (hw:w∈ws):leO (O3 st t w) (gt (P3 m ws st t s).1 w.2.1):=by
 obtain⟨n,hn,e⟩:=A5q.mp hw
 exact (A0a ok hs).top (w,n) (by rw[C4k];show ws[n]?=some w;rw[M4 hn,e])
theorem C8p {m:Nat} {ws:List Wy} {st:Int} {t s:Tb} (ok:J7 m ws) (h0:0<=st) (hs:G1 m st s):G1 m st (P3 m ws st t s).1:=by
 have I:=A0a (st:=st) (t:=t) ok hs.len
 refine⟨I.l1,λp x h=>?_⟩
 cases e:gt (P3 m ws st t s).2 p with
 | none=>rw[I.no p e] at h;exact hs.bd p x h
 | some n=>
  obtain⟨w,_,_,e2,_⟩:=I.yes p n e
  rw[e2] at h
  exact C8m h0 h
def A44 (ws:List Wy) (st:Int) (t:Tb):Prop:=∀w∈ws,leO (O3 st t w) (gt t w.2.1)
theorem C8q {m:Nat} {ws:List Wy} {st:Int} {t s L:Tb} (ok:J7 m ws) (hs:s.length=m) (h1:leT t L) (h2:leT s L) (c:A44 ws st L):leT (P3 m ws st t s).1 L:=λp=>by
 have I:=A0a (st:=st) (t:=t) ok hs
 cases e:gt (P3 m ws st t s).2 p with
 | none=>rw[I.no p e];exact h2 p
 | some n=>
  obtain⟨w,hw,e1,e2,_⟩:=I.yes p n e
  rw[e2,<-e1]
  exact A06 (C8l h1) (c w (R6 hw))
structure N9 (m:Nat) (ws:List Wy) (st:Int) (b t:Tb):Prop where
 tab:G1 m st t
 up:leT b t
 cl:A44 ws st t
 le:∀L,G1 m st L->leT b L->A44 ws st L->leT t L
theorem N9.uniq {m:Nat} {ws:List Wy} {st:Int} {b t u:Tb} (h:N9 m ws st b t) (h':N9 m ws st b u):t=u:=C8n (h.tab.len.trans h'.tab.len.symm) (h.le u h'.tab h'.up h'.cl) (h'.le t h.tab h.up h.cl)
abbrev Rw:=Tb×Rn
def T6 (m:Nat) (ws:List Wy) (st:Int):Nat->Rw->List Rw
 | 0,r=>[r]
 | k + 1,r=>if (P3 m ws st r.1 r.1).1=r.1 then [r] else r::T6 m ws st k (P3 m ws st r.1 r.1)
inductive Rows (m:Nat) (ws:List Wy) (st:Int) (b:Tb):List Rw->Prop
 | one:Rows m ws st b [(b,E5 m none)]
 | more {r rs}:Rows m ws st b (r::rs)->(P3 m ws st r.1 r.1).1≠r.1->Rows m ws st b (P3 m ws st r.1 r.1::r::rs)
theorem C0o {m:Nat} {ws:List Wy} {st:Int} {b:Tb}:∀(k:Nat) (r:Rw) (rs:List Rw),Rows m ws st b (r::rs)->∃r' rs',(rs.reverse++T6 m ws st k r).reverse=r'::rs'/\Rows m ws st b (r'::rs')/\((P3 m ws st r'.1 r'.1).1=r'.1\/(r'::rs').length=rs.length + k + 1)
 | 0,r,rs,h=>⟨r,rs,by simp [T6],h,.inr (by simp)⟩
 | k + 1,r,rs,h=>by
  unfold T6
  by_cases c:(P3 m ws st r.1 r.1).1=r.1
  ·rw[if_pos c]
   exact⟨r,rs,by simp,h,.inl c⟩
  ·rw[if_neg c]
   obtain⟨r',rs',e,h',z⟩:=C0o k _ (r::rs) (.more h c)
   refine⟨r',rs',?_,h',?_⟩
   ·rw[<-e];simp
   ·rcases z with z | z
    ·exact .inl z
    ·refine .inr ?_
     rw[z,J8];lia
section
variable {m:Nat} {ws:List Wy} {st:Int} {b:Tb}
theorem Rows.ok (ok:J7 m ws) (h0:0<=st) (hb:G1 m st b):∀{r:Rw} {rs:List Rw},Rows m ws st b (r::rs)->G1 m st r.1/\r.2.length=m/\leT b r.1
 | _,_,.one=>⟨hb,by simp,B4x b⟩
 | _,_,.more (r:=r) h c=>by
  obtain⟨a1,_,a3⟩:=Rows.ok ok h0 hb h
  have I:=A0a (st:=st) (t:=r.1) ok a1.len
  exact⟨C8p ok h0 a1,I.l2,C0k a3 I.up⟩
theorem Rows.under (ok:J7 m ws) (hb:b.length=m) {L:Tb} (h1:leT b L) (c:A44 ws st L):∀{r:Rw} {rs:List Rw},Rows m ws st b (r::rs)->r.1.length=m/\leT r.1 L
 | _,_,.one=>⟨hb,h1⟩
 | _,_,.more (r:=r) h _=>by
  obtain⟨a1,a2⟩:=Rows.under ok hb h1 c h
  exact⟨(A0a (st:=st) (t:=r.1) ok a1).l1,C8q ok a1 a2 a2 c⟩
theorem Rows.least (ok:J7 m ws) (h0:0<=st) (hb:G1 m st b) {r:Rw} {rs:List Rw} (h:Rows m ws st b (r::rs)) (c:(P3 m ws st r.1 r.1).1=r.1):N9 m ws st b r.1:=by
 obtain⟨a1,_,a3⟩:=h.ok ok h0 hb
 refine⟨a1,a3,λw hw=>?_,λL _ h1 cl=>(h.under ok hb.len h1 cl).2⟩
 have:=C0n (st:=st) (t:=r.1) (s:=r.1) ok a1.len hw
 rw[c] at this
 exact this
end
abbrev Ef:=Option (Int×Int×Int)
def EOk (st:Int) (e:Int×Int×Int):Prop:=0<=e.1/\e.1<=st/\0<=e.2.2/\e.2.2<=st/\0<=e.1 + e.2.1/\e.2.2<=st + e.2.1
def M6 (e:Ef) (x:Int):Option Int:=match e with
 | none=>none
 | some (l,g,t)=>if x < l then none else some (if t < x + g then t else x + g)
def V2 (a b:Ef):Ef:=match a,b with
 | some (l1,g1,t1),some (l2,g2,t2)=>if t1 < l2 then none else some (if l2 - g1 > l1 then l2 - g1 else l1,g1 + g2,if t2 < t1 + g2 then t2 else t1 + g2)
 | _,_=>none
theorem A45 {a b:Int×Int×Int} (h:¬ a.2.2 < b.1):V2 (some a) (some b)=some (if b.1 - a.2.1 > a.1 then b.1 - a.2.1 else a.1,a.2.1 + b.2.1,if b.2.2 < a.2.2 + b.2.1 then b.2.2 else a.2.2 + b.2.1):=by
 obtain⟨l1,g1,t1⟩:=a
 obtain⟨l2,g2,t2⟩:=b
 unfold V2
 simp only at h
 simp only[if_neg h]
theorem A6x {a b:Int×Int×Int} (h:a.2.2 < b.1):V2 (some a) (some b)=none:=by
 obtain⟨l1,g1,t1⟩:=a
 obtain⟨l2,g2,t2⟩:=b
 unfold V2
 simp only at h
 simp only[if_pos h]
theorem C8r {st:Int} {a b r:Int×Int×Int} (ha:EOk st a) (hb:EOk st b) (h:V2 (some a) (some b)=some r):EOk st r:=by
 by_cases c:a.2.2 < b.1
 ·rw[A6x c] at h;cases h
 ·rw[A45 c] at h
  cases h
  obtain⟨l1,g1,t1⟩:=a
  obtain⟨l2,g2,t2⟩:=b
  obtain⟨h1,h2,h3,h4,h5,h6⟩:=ha
  obtain⟨i1,i2,i3,i4,i5,i6⟩:=hb
  simp only at h1 h2 h3 h4 h5 h6 i1 i2 i3 i4 i5 i6 c
  refine⟨?_,?_,?_,?_,?_,?_⟩ <;> dsimp only <;> (repeat' split) <;> lia
theorem C8s {a b r:Int×Int×Int} (h:V2 (some a) (some b)=some r) (x:Int):M6 (some r) x=(M6 (some a) x).bind (M6 (some b)):=by
 by_cases c:a.2.2 < b.1
 ·rw[A6x c] at h;cases h
 ·rw[A45 c] at h
  cases h
  obtain⟨l1,g1,t1⟩:=a
  obtain⟨l2,g2,t2⟩:=b
  simp only at c
  unfold M6
  dsimp only
  by_cases c1:x < l1
  ·rw[if_pos c1,if_pos (by split <;> lia)]
   rfl
  ·rw[if_neg c1]
   show _=(if (if t1 < x + g1 then t1 else x + g1) < l2 then none else some (if t2 < (if t1 < x + g1 then t1 else x + g1) + g2 then t2 else (if t1 < x + g1 then t1 else x + g1) + g2))
   obtain⟨y,ey,y1,y2,y3⟩:∃y,(if t1 < x + g1 then t1 else x + g1)=y/\y<=t1/\y<=x + g1/\(y=t1\/y=x + g1):=⟨_,rfl,by split <;> lia,by split <;> lia,by split <;> lia⟩
   obtain⟨m,em,m1,m2,m3⟩:∃m,(if l2 - g1 > l1 then l2 - g1 else l1)=m/\l1<=m/\l2 - g1<=m/\(m=l1\/m=l2 - g1):=⟨_,rfl,by split <;> lia,by split <;> lia,by split <;> lia⟩
   obtain⟨n,en,n1,n2,n3⟩:∃n,(if t2 < t1 + g2 then t2 else t1 + g2)=n/\n<=t2/\n<=t1 + g2/\(n=t2\/n=t1 + g2):=⟨_,rfl,by split <;> lia,by split <;> lia,by split <;> lia⟩
   rw[ey,em,en]
   by_cases c2:x < m
   ·rw[if_pos c2,if_pos (show y < l2 by lia)]
   ·rw[if_neg c2,if_neg (show ¬ y < l2 by lia)]
    congr 1
    split <;> split <;> lia
def OkE (st:Int):Ef->Prop
 | none=>True
 | some e=>EOk st e
theorem OkE.join {st:Int} {a b:Ef} (ha:OkE st a) (hb:OkE st b):OkE st (V2 a b):=by
 rcases a with _ | a
 ·exact trivial
 ·rcases b with _ | b
  ·exact trivial
  ·cases q:V2 (some a) (some b) with
   | none=>exact trivial
   | some r=>exact C8r ha hb q
theorem C0p {st:Int} (h:0<=st):EOk st (0,0,st):=⟨A0m _,h,h,A0m _,by simp,by simp⟩
def X0 (st c:Int):Ef:=if st + c < 0 then none else some (if -c > 0 then -c else 0,c,if st + c < st then st + c else st)
def foF (st:Int) (w:Ef) (cs:List Int):Ef:=cs.foldl (λw c=>V2 w (X0 st c)) w
def fxF (st:Int) (cs:List Int):Ef:=foF st (some (0,0,st)) cs
theorem C0q {st:Int} (h:0<=st) (c:Int):OkE st (X0 st c):=by
 unfold X0
 split
 ·exact trivial
 ·refine⟨?_,?_,?_,?_,?_,?_⟩ <;> dsimp only <;> (repeat' split) <;> lia
theorem C0r {st:Int} (h:0<=st):∀(cs:List Int) {w:Ef},OkE st w->OkE st (foF st w cs)
 | [],_,hw=>hw
 | c::cs,w,hw=>C0r h cs (hw.join (C0q h c))
theorem C0s {st:Int} (h:0<=st) (cs:List Int):OkE st (fxF st cs):=C0r h cs (C0p h)
theorem C8t (a b:Ef) (x:Int):M6 (V2 a b) x=(M6 a x).bind (M6 b):=by
 rcases a with _ | a
 ·rfl
 ·rcases b with _ | b
  ·show none=(M6 (some a) x).bind (M6 none)
   cases M6 (some a) x <;> rfl
  ·by_cases c:a.2.2 < b.1
   ·rw[A6x c]
    obtain⟨l1,g1,t1⟩:=a
    obtain⟨l2,g2,t2⟩:=b
    simp only at c
    show none=_
    unfold M6
    dsimp only
    by_cases c1:x < l1
    ·rw[if_pos c1];rfl
    ·rw[if_neg c1]
     show none=if (if t1 < x + g1 then t1 else x + g1) < l2 then none else _
     rw[if_pos (by split <;> lia)]
   ·exact C8s (A45 c) x |>.symm▸(by rw[A45 c])
def wkF (st:Int) (o:Option Int) (cs:List Int):Option Int:=cs.foldl (λo c=>o.bind (λx=>J6 st x c)) o
theorem A6y (st:Int):∀cs:List Int,wkF st none cs=none
 | []=>rfl
 | _::cs=>A6y st cs
theorem C8u {st x c:Int} (h0:0<=x) (h1:x<=st):M6 (X0 st c) x=J6 st x c:=by
 unfold X0 J6
 by_cases d:st + c < 0
 ·rw[if_pos d,if_pos (by lia)]
  rfl
 ·rw[if_neg d]
  unfold M6
  dsimp only
  by_cases e:x + c < 0
  ·rw[if_pos e,if_pos (by split <;> lia)]
  ·rw[if_neg e,if_neg (by split <;> lia)]
   congr 1
   split <;> split <;> (try split) <;> lia
theorem C0t {st:Int} (h:0<=st) (x:Int):∀(cs:List Int) (w:Ef),(∀y,M6 w x=some y->0<=y/\y<=st)->M6 (foF st w cs) x=wkF st (M6 w x) cs
 | [],_,_=>rfl
 | c::cs,w,hw=>by
  have e:M6 (V2 w (X0 st c)) x=(M6 w x).bind (λy=>J6 st y c):=by
   rw[C8t]
   cases q:M6 w x with
   | none=>rfl
   | some y=>exact C8u (hw y q).1 (hw y q).2
  show M6 (foF st (V2 w (X0 st c)) cs) x=wkF st ((M6 w x).bind (λy=>J6 st y c)) cs
  rw[C0t h x cs _ ?_,e]
  intro y q
  rw[e] at q
  cases q2:M6 w x with
  | none=>rw[q2] at q;cases q
  | some z=>rw[q2] at q;exact B4w h q
theorem C0u {st x:Int} (h0:0<=x) (h1:x<=st):M6 (some (0,0,st)) x=some x:=by
 unfold M6
 dsimp only
 rw[if_neg (by lia)]
 congr 1
 split <;> lia
theorem A6z {st x:Int} (h0:0<=x) (h1:x<=st) (cs:List Int):M6 (fxF st cs) x=wkF st (some x) cs:=by
 unfold fxF
 rw[C0t (by lia) x cs _ ?_,C0u h0 h1]
 intro y q
 rw[C0u h0 h1] at q
 cases q
 exact⟨h0,h1⟩
theorem C0v {st:Int}:∀(cs:List Int) {w:Int×Int×Int} {r:Int×Int×Int},foF st (some w) cs=some r->r.2.1=w.2.1 + cs.sum
 | [],w,r,q=>by
  have q':some w=some r:=q
  cases q'
  simp
 | c::cs,w,r,q=>by
  have q':foF st (V2 (some w) (X0 st c)) cs=some r:=q
  cases q2:V2 (some w) (X0 st c) with
  | none=>
   rw[q2] at q'
   have:∀cs:List Int,foF st none cs=none:=by
    intro cs
    induction cs with
    | nil=>rfl
    | cons c cs ih=>exact ih
   rw[this] at q'
   cases q'
  | some a=>
   rw[q2] at q'
   rw[C0v cs q']
   have ga:a.2.1=w.2.1 + c:=by
    unfold X0 at q2
    split at q2
    ·cases q2
    ·by_cases d:w.2.2 < (if -c > 0 then -c else 0)
     ·rw[A6x (by exact d)] at q2;cases q2
     ·rw[A45 (by exact d)] at q2;cases q2;rfl
   rw[ga,B7i]
   lia
theorem C0w {st:Int} {cs:List Int} {r:Int×Int×Int} (q:fxF st cs=some r):r.2.1=cs.sum:=by
 rw[C0v cs q]
 show 0 + cs.sum=cs.sum
 lia
def Q8 (ws:List Wy) (n:Nat):Nat:=match ws[n]? with
 | some w=>w.1
 | none=>0
def A1s (ws:List Wy) (n:Nat):Nat:=match ws[n]? with
 | some w=>w.2.1
 | none=>0
def S8 (ws:List Wy) (n:Nat):Int:=match ws[n]? with
 | some w=>w.2.2
 | none=>0
def wlk (ws:List Wy):List Rw->Nat->Nat×List Nat
 | [],p=>(p,[])
 | r::rs,p=>match gt r.2 p with
  | none=>wlk ws rs p
  | some n=>((wlk ws rs (Q8 ws n)).1,(wlk ws rs (Q8 ws n)).2++[n])
structure Wk (ws:List Wy) (st:Int) (b:Tb) (N:List Nat) (P:Nat->Nat) (L:Nat->Int):Prop where
 way:∀k n,N[k]?=some n->∃w,ws[n]?=some w/\w.1=P k/\w.2.1=P (k + 1)/\J6 st (L k) w.2.2=some (L (k + 1))
 beg:gt b (P 0)=some (L 0)
 rise:∀k,1<=k->k<=N.length->Y3 (some (L k)) (gt b (P k))=true
 strict:∀i j,i < j->j<=N.length->P i=P j->L i < L j
theorem C8v {a b c:Option Int} (h:Y3 a c=true) (z:leO b c):Y3 a b=true:=by
 rcases B4v (a:=a) (b:=b) with q | q
 ·exact q
 ·exact absurd (A06 q z) (B4u h)
section
variable {m:Nat} {ws:List Wy} {st:Int} {b:Tb}
theorem C0x (ok:J7 m ws) (h0:0<=st) (hb:G1 m st b):∀{r:Rw} {rs:List Rw},Rows m ws st b (r::rs)->∀p,((rs=[]/\∃l,gt b p=some l)\/(∃n,gt r.2 p=some n))->
  ∃N P L,wlk ws (r::rs) p=(P 0,N)/\N.length=rs.length/\P N.length=p/\gt r.1 p=some (L N.length)/\Wk ws st b N P L/\∀k,k<=N.length->leO (some (L k)) (gt r.1 (P k))
 | _,_,.one,p,h=>by
  rcases h with ⟨_,l,hl⟩ | ⟨n,hn⟩
  ·refine⟨[],λ_=>p,λ_=>l,?_,rfl,rfl,hl,⟨λk n e=>by simp at e,hl,λk h1 h2=>?_,λi j h1 h2=>?_⟩,λk _=>by show leO (some l) (gt b p);rw[hl];exact A4z _⟩
   ·unfold wlk
    rw[A43]
    rfl
   ·simp at h2;lia
   ·simp at h2;lia
  ·rw[A43] at hn;cases hn
 | _,_,.more (r:=r) (rs:=rs) h c,p,hp=>by
  obtain⟨a1,_,a3⟩:=h.ok ok h0 hb
  have I:=A0a (st:=st) (t:=r.1) ok a1.len
  have hp':∃n,gt (P3 m ws st r.1 r.1).2 p=some n:=by
   rcases hp with ⟨z,_⟩ | z
   ·cases z
   ·exact z
  obtain⟨n,hn⟩:=hp'
  obtain⟨w,hw,e1,e2,e3⟩:=I.yes p n hn
  obtain⟨l,hl⟩:∃l,O3 st r.1 w=some l:=by
   cases q:O3 st r.1 w with
   | none=>rw[q] at e3;cases e3
   | some l=>exact⟨l,rfl⟩
  obtain⟨l',hl',hs⟩:∃l',gt r.1 w.1=some l'/\J6 st l' w.2.2=some l:=by
   have hl2:=hl
   unfold O3 at hl2
   split at hl2
   ·cases hl2
   ·rename_i l' e;exact⟨l',e,hl2⟩
  rw[hl] at e2 e3
  have hq:(rs=[]/\∃l,gt b w.1=some l)\/(∃n,gt r.2 w.1=some n):=by
   cases h with
   | one=>exact .inl ⟨rfl,l',hl'⟩
   | @more r0 rs0 h' c'=>
    obtain⟨b1,_,_⟩:=h'.ok ok h0 hb
    have I0:=A0a (st:=st) (t:=r0.1) ok b1.len
    cases e:gt (P3 m ws st r0.1 r0.1).2 w.1 with
    | some n'=>exact .inr ⟨n',rfl⟩
    | none=>
     have e4:=I0.no w.1 e
     have e5:O3 st r0.1 w=some l:=by
      unfold O3
      rw[<-e4,hl']
      exact hs
     have:=C0n (st:=st) (t:=r0.1) (s:=r0.1) ok b1.len (R6 hw)
     rw[e5,e1] at this
     exact absurd this (B4u e3)
  obtain⟨N,P,L,f1,f2,f3,f4,W,f6⟩:=C0x ok h0 hb h w.1 hq
  have eL:L N.length=l':=by rw[hl'] at f4;exact (Option.some.inj f4).symm
  let P':Nat->Nat:=λk=>if k<=N.length then P k else p
  let L':Nat->Int:=λk=>if k<=N.length then L k else l
  have p1:∀k,k<=N.length->P' k=P k:=λk hk=>if_pos hk
  have p2:∀k,¬ k<=N.length->P' k=p:=λk hk=>if_neg hk
  have l1:∀k,k<=N.length->L' k=L k:=λk hk=>if_pos hk
  have l2:∀k,¬ k<=N.length->L' k=l:=λk hk=>if_neg hk
  have hlen:(N++[n]).length=N.length + 1:=by simp
  refine⟨N++[n],P',L',?_,by rw[hlen,f2];rfl,by rw[hlen];exact p2 _ (by lia),by rw[hlen,l2 _ (by lia)];exact e2,⟨λk n' e=>?_,by rw[p1 0 (O7 _),l1 0 (O7 _)];exact W.beg,λk k1 k2=>?_,λi j hij hj hp=>?_⟩,λk hk=>?_⟩
  ·show (match gt (P3 m ws st r.1 r.1).2 p with
    | none=>wlk ws (r::rs) p
    | some n=>((wlk ws (r::rs) (Q8 ws n)).1,(wlk ws (r::rs) (Q8 ws n)).2++[n]))=_
   rw[hn]
   have:Q8 ws n=w.1:=by unfold Q8;rw[hw]
   show ((wlk ws (r::rs) (Q8 ws n)).1,(wlk ws (r::rs) (Q8 ws n)).2++[n])=_
   rw[this,f1,p1 0 (O7 _)]
  ·by_cases hk:k < N.length
   ·rw[A3d hk] at e
    rw[p1 k (by lia),p1 (k + 1) (by lia),l1 k (by lia),l1 (k + 1) (by lia)]
    exact W.way k n' e
   ·rw[A5k (by lia)] at e
    have hk':k=N.length:=by
     match q:k - N.length with
     | 0=>lia
     | z + 1=>rw[q] at e;simp at e
    subst hk'
    rw[Nat.sub_self] at e
    cases e
    refine⟨w,hw,?_,?_,?_⟩
    ·rw[p1 _ (F9 _),f3]
    ·rw[p2 _ (by lia),e1]
    ·rw[l1 _ (F9 _),l2 _ (by lia),eL];exact hs
  ·by_cases hk:k<=N.length
   ·rw[p1 k hk,l1 k hk];exact W.rise k k1 hk
   ·rw[p2 k hk,l2 k hk];exact C8v e3 (a3 p)
  ·by_cases hk:j<=N.length
   ·rw[l1 i (by lia),l1 j hk]
    rw[p1 i (by lia),p1 j hk] at hp
    exact W.strict i j hij hk hp
   ·rw[hlen] at hj
    rw[p1 i (by lia),p2 j hk] at hp
    rw[l1 i (by lia),l2 j hk]
    have z:=f6 i (by lia)
    rw[hp] at z
    cases q:gt r.1 p with
    | none=>rw[q] at z;exact absurd z n6
    | some y=>
     rw[q] at z e3
     have z1:=T5.mp z
     have z2:y < l:=of_decide_eq_true e3
     lia
  ·by_cases hk':k<=N.length
   ·rw[p1 k hk',l1 k hk'];exact A06 (f6 k hk') (I.up _)
   ·rw[p2 k hk',l2 k hk',e2];exact A4z _
end
def seg (N:List Nat) (i j:Nat):List Nat:=(N.drop i).take (j - i)
def chs (ws:List Wy) (ns:List Nat):List Int:=ns.map (S8 ws)
theorem A60 (N:List Nat) (i:Nat):seg N i i=[]:=by unfold seg;rw[Nat.sub_self];rfl
theorem B4y {N:List Nat} {i j:Nat} (h:i<=j) (h2:j < N.length):seg N i (j + 1)=seg N i j++[N[j]]:=by
 unfold seg
 have e:j + 1 - i=j - i + 1:=by lia
 rw[e,A8w,List.getElem?_drop,show i + (j - i)=j by lia,M4 h2]
 rfl
theorem A9n {N:List Nat} {i j:Nat} (h:j<=N.length):(seg N i j).length=j - i:=by
 unfold seg
 rw[j6,List.length_drop]
 lia
theorem B4z (st:Int) (o:Option Int) (xs ys:List Int):wkF st o (xs++ys)=wkF st (wkF st o xs) ys:=by unfold wkF;rw[List.foldl_append]
section
variable {ws:List Wy} {st:Int} {b:Tb} {N:List Nat} {P:Nat->Nat} {L:Nat->Int}
theorem Wk.ch (W:Wk ws st b N P L) {k:Nat} (h:k < N.length):J6 st (L k) (S8 ws N[k])=some (L (k + 1)):=by
 obtain⟨w,hw,_,_,e⟩:=W.way k N[k] (M4 h)
 unfold S8
 rw[hw]
 exact e
theorem Wk.seg (W:Wk ws st b N P L) {i:Nat}:∀{j:Nat},i<=j->j<=N.length->wkF st (some (L i)) (chs ws (My.seg N i j))=some (L j)
 | 0,h1,_=>by
  have:i=0:=by lia
  subst this
  rw[A60];rfl
 | j + 1,h1,h2=>by
  by_cases e:i=j + 1
  ·subst e
   rw[A60];rfl
  ·rw[B4y (by lia) (by lia)]
   unfold chs
   rw[R7,B4z]
   have:=W.seg (i:=i) (j:=j) (by lia) (by lia)
   unfold chs at this
   rw[this]
   exact W.ch (by lia)
theorem Wk.bd (W:Wk ws st b N P L) (h0:0<=st) {m:Nat} (hb:G1 m st b):∀k,k<=N.length->0<=L k/\L k<=st
 | 0,_=>hb.bd _ _ W.beg
 | k + 1,h=>B4w h0 (W.ch (k:=k) (by lia))
theorem Wk.pl (W:Wk ws st b N P L) {m:Nat} (ok:J7 m ws) (hb:G1 m st b):∀k,k<=N.length->P k < m
 | 0,_=>by
  by_cases h:P 0 < m
  ·exact h
  ·have:=W.beg
   rw[A40 (by rw[hb.len];lia)] at this
   cases this
 | k + 1,h=>by
  obtain⟨w,hw,_,e,_⟩:=W.way k N[k] (M4 (by lia))
  rw[<-e]
  exact ok.en w (R6 hw)
theorem Wk.lid (W:Wk ws st b N P L) {T:Tb} (c:A44 ws st T) {i:Nat} {x:Int} (hx:leO (some x) (gt T (P i))):∀{j:Nat} {y:Int},i<=j->j<=N.length->wkF st (some x) (chs ws (My.seg N i j))=some y->leO (some y) (gt T (P j))
 | 0,y,h1,_,e=>by
  have:i=0:=by lia
  subst this
  rw[A60] at e
  cases e
  exact hx
 | j + 1,y,h1,h2,e=>by
  by_cases q:i=j + 1
  ·subst q
   rw[A60] at e
   cases e
   exact hx
  ·rw[B4y (by lia) (by lia)] at e
   unfold chs at e
   rw[R7,B4z] at e
   obtain⟨w,hw,e1,e2,_⟩:=W.way j N[j] (M4 (by lia))
   cases z:wkF st (some x) ((My.seg N i j).map (S8 ws)) with
   | none=>rw[z] at e;cases e
   | some v=>
    rw[z] at e
    have e':J6 st v (S8 ws N[j])=some y:=e
    have ih:=W.lid c hx (j:=j) (y:=v) (by lia) (by lia) z
    have hc:S8 ws N[j]=w.2.2:=by unfold S8;rw[hw]
    cases g:gt T (P j) with
    | none=>rw[g] at ih;exact absurd ih n6
    | some u=>
     rw[g] at ih
     have s1:=C0j (st:=st) (c:=w.2.2) (T5.mp ih)
     rw[<-hc,e',hc] at s1
     have s2:=c w (R6 hw)
     unfold O3 at s2
     rw[e1,g,e2] at s2
     exact A06 s1 s2
end
def P4 (st lv:Int):List Int->List Int
 | []=>[lv]
 | c::cs=>match J6 st lv c with
  | none=>[lv]
  | some x=>lv::P4 st x cs
theorem C8w {st lv c:Int} {cs:List Int} (h:J6 st lv c=none):P4 st lv (c::cs)=[lv]:=by rw[P4,h]
theorem C8x {st lv c x:Int} {cs:List Int} (h:J6 st lv c=some x):P4 st lv (c::cs)=lv::P4 st x cs:=by rw[P4,h]
theorem B40 {st:Int}:∀{cs:List Int} {x y:Int},wkF st (some x) cs=some y->∀k,k<=cs.length->∃z,(P4 st x cs)[k]?=some z/\wkF st (some x) (cs.take k)=some z
 | [],x,y,_,k,hk=>by
  have:k=0:=by simpa using hk
  subst this
  exact⟨x,rfl,rfl⟩
 | c::cs,x,y,h,k,hk=>by
  cases e:J6 st x c with
  | none=>
   have h':wkF st (J6 st x c) cs=some y:=h
   rw[e,A6y] at h'
   cases h'
  | some x1=>
   have h':wkF st (J6 st x c) cs=some y:=h
   rw[e] at h'
   unfold P4
   rw[e]
   cases k with
   | zero=>exact⟨x,rfl,rfl⟩
   | succ k=>
    obtain⟨z,z1,z2⟩:=B40 h' k (by simpa using hk)
    refine⟨z,z1,?_⟩
    show wkF st (J6 st x c) (cs.take k)=some z
    rw[e];exact z2
theorem B41 {st:Int}:∀{cs:List Int} {x y:Int},wkF st (some x) cs=some y->(P4 st x cs).length=cs.length + 1
 | [],_,_,_=>rfl
 | c::cs,x,y,h=>by
  have h':wkF st (J6 st x c) cs=some y:=h
  cases e:J6 st x c with
  | none=>rw[e,A6y] at h';cases h'
  | some x1=>
   rw[e] at h'
   unfold P4
   rw[e,J8,J8,B41 h']
theorem C0y {st:Int}:∀{cs:List Int} {x y:Int},wkF st (some x) cs=some y->y=x + cs.sum\/st∈P4 st x cs
 | [],x,y,h=>by
  cases h
  exact .inl (by simp)
 | c::cs,x,y,h=>by
  have h':wkF st (J6 st x c) cs=some y:=h
  cases e:J6 st x c with
  | none=>rw[e,A6y] at h';cases h'
  | some x1=>
   rw[e] at h'
   have hd:(P4 st x1 cs).head?=some x1:=by
    cases cs with
    | nil=>rfl
    | cons d ds=>
     unfold P4
     cases J6 st x1 d <;> rfl
   by_cases q:x1=st
   ·refine .inr ?_
    unfold P4
    rw[e]
    refine D3 _ ?_
    have hm:=List.mem_of_head? hd
    have e3:(st∈P4 st x1 cs)=(x1∈P4 st x1 cs):=congrArg (·∈P4 st x1 cs) q.symm
    rw[e3]
    exact hm
   ·have e1:x1=x + c:=by
     unfold J6 at e
     split at e
     ·cases e
     ·have e2:=Option.some.inj e
      split at e2
      ·exact absurd e2.symm q
      ·exact e2.symm
    rcases C0y h' with z | z
    ·refine .inl ?_
     rw[z,e1,B7i];lia
    ·refine .inr ?_
     unfold P4
     rw[e]
     exact D3 _ z
structure Rnd (st:Int) (cs:List Int) (x:Int) (le g tp:Int) (k:Nat):Prop where
 fx:fxF st cs=some (le,g,tp)
 g0:0 < g
 gs:g=cs.sum
 xt:x < tp
 tst:tp<=st
 kl:k<=cs.length
 ki:(P4 st tp cs).idxOf st=k
 km:st∈P4 st tp cs
 kw:wkF st (some tp) (cs.take k)=some st
 ll:(P4 st tp cs).length=cs.length + 1
theorem C8y {st:Int} {cs:List Int} {x y:Int} (h0:0<=x) (h1:x<=st) (w:wkF st (some x) cs=some y) (hy:x < y):∃le g tp k,Rnd st cs x le g tp k/\le<=x:=by
 have hp:=A6z h0 h1 cs
 rw[w] at hp
 have hok:=C0s (by lia) cs (st:=st)
 cases e:fxF st cs with
 | none=>rw[e] at hp;cases hp
 | some r=>
  obtain⟨le,g,tp⟩:=r
  rw[e] at hp hok
  have gs:=C0w e
  obtain⟨o1,o2,o3,o4,o5,o6⟩:=hok
  simp only at o1 o2 o3 o4 o5 o6 gs
  unfold M6 at hp
  dsimp only at hp
  split at hp
  ·cases hp
  ·rename_i hle
   have hy2:=Option.some.inj hp
   have g0:0 < g:=by split at hy2 <;> lia
   have xt:x < tp:=by split at hy2 <;> lia
   have wt:=A6z (st:=st) (x:=tp) o3 o4 cs
   rw[e] at wt
   unfold M6 at wt
   dsimp only at wt
   rw[if_neg (by lia),if_pos (by lia)] at wt
   have km:st∈P4 st tp cs:=by
    rcases C0y wt.symm with z | z
    ·lia
    ·exact z
   have hlt:=B20.mpr km
   have ll:=B41 wt.symm
   rw[ll] at hlt
   obtain⟨z,z1,z2⟩:=B40 wt.symm ((P4 st tp cs).idxOf st) (by lia)
   have ez:z=st:=by
    have hl2:=B20.mpr km
    rw[M4 hl2,C4i hl2] at z1
    exact (Option.some.inj z1).symm
   subst ez
   exact⟨le,g,tp,_,⟨e,g0,gs,xt,o4,by lia,rfl,km,z2,ll⟩,by lia⟩
section
variable {m:Nat} {ws:List Wy} {st:Int} {b:Tb} {N:List Nat} {P:Nat->Nat} {L:Nat->Int}
theorem B42 {N:List Nat} {i j k:Nat} (h:k<=j - i):(seg N i j).take k=seg N i (i + k):=by
 unfold seg
 rw[List.take_take,show min k (j - i)=k by lia,show i + k - i=k by lia]
theorem C8z (W:Wk ws st b N P L) {i j:Nat} (hij:i < j) (hj:j<=N.length) (hp:P i=P j) {le g tp:Int} {k:Nat} (hle:le<=L i) (R:Rnd st (chs ws (seg N i j)) (L i) le g tp k) {T:Tb} (hT:G1 m st T) (hb:leT b T) (c:A44 ws st T) :
  leO (some st) (gt T (P (i + k))):=by
 have kl:k<=j - i:=by
  have:=R.kl
  unfold chs at this
  rw[C6,A9n hj] at this
  exact this
 have h0:leO (some (L 0)) (gt T (P 0)):=by rw[<-W.beg];exact hb _
 have hi:=W.lid c h0 (j:=i) (O7 _) (by lia) (W.seg (O7 _) (by lia))
 cases q:gt T (P i) with
 | none=>rw[q] at hi;exact absurd hi n6
 | some z=>
  rw[q] at hi
  have hz:=T5.mp hi
  obtain⟨z0,z1⟩:=hT.bd _ _ q
  have wz:=A6z z0 z1 (chs ws (seg N i j))
  rw[R.fx] at wz
  unfold M6 at wz
  dsimp only at wz
  rw[if_neg (by lia)] at wz
  have hr:=W.lid c (x:=z) (by rw[q];exact A4z _) (j:=j) (by lia) hj wz.symm
  rw[<-hp,q] at hr
  have hr':=T5.mp hr
  have:=R.g0
  have htz:tp<=z:=by split at hr' <;> lia
  have ht:leO (some tp) (gt T (P i)):=by rw[q];exact T5.mpr htz
  refine W.lid c ht (j:=i + k) (by lia) (by lia) ?_
  have kw:=R.kw
  unfold chs at kw ⊢
  rw[<-A1i,B42 kl] at kw
  exact kw
theorem C80 (W:Wk ws st b N P L) (h0:0<=st) (hb:G1 m st b) {i j k:Nat} (hij:i < j) (hj:j<=N.length) (hp:P i=P j) (hk:i + k<=j):gt b (P (i + k))≠some st:=λe=>by
 have key:∀q,1<=q->q<=N.length->gt b (P q)≠some st:=λq h1 h2 e=>by
  have r:=W.rise q h1 h2
  rw[e] at r
  have:=of_decide_eq_true r
  have:=(W.bd h0 hb q h2).2
  lia
 by_cases hk0:i + k=0
 ·rw[hk0] at e
  have:i=0:=by lia
  rw[this] at hp
  rw[hp] at e
  exact key j (by lia) hj e
 ·exact key (i + k) (by lia) (by lia) e
theorem N9.fill (hb:G1 m st b) {p:Nat} (hp:p < m) {t:Tb} (h:N9 m ws st (b.set p (some st)) t) (hl:∀T,G1 m st T->leT b T->A44 ws st T->leO (some st) (gt T p)):N9 m ws st b t:=by
 have g:∀j,gt (b.set p (some st)) j=if p=j then some st else gt b j:=λj=>A42 (by rw[hb.len];exact hp)
 refine⟨h.tab,λq=>A06 ?_ (h.up q),h.cl,λT hT h1 h2=>h.le T hT (λq=>?_) h2⟩
 ·rw[g]
  by_cases e:p=q
  ·rw[if_pos e]
   cases z:gt b q with
   | none=>rfl
   | some x=>exact T5.mpr (hb.bd _ _ z).2
  ·rw[if_neg e];exact A4z _
 ·rw[g]
  by_cases e:p=q
  ·rw[if_pos e,<-e];exact hl T hT h1 h2
  ·rw[if_neg e];exact h1 q
theorem C81 (h0:0<=st) (hb:G1 m st b) {p:Nat} (hp:p < m):G1 m st (b.set p (some st)):=by
 refine⟨by rw[Y6];exact hb.len,λq x h=>?_⟩
 rw[A42 (by rw[hb.len];exact hp)] at h
 by_cases e:p=q
 ·rw[if_pos e] at h;cases h;exact⟨h0,A0m _⟩
 ·rw[if_neg e] at h;exact hb.bd q x h
end
def A46 (st:Int) (b:Tb):Nat:=b.countP λx=>!(x == some st)
theorem C0z (st:Int):∀(b:Tb) (p:Nat),p < b.length->gt b p≠some st->A46 st (b.set p (some st)) < A46 st b
 | [],_,h,_=>by simp at h
 | x::b,0,_,h=>by
  have hx:x≠some st:=h
  show List.countP _ (some st::b) < List.countP _ (x::b)
  rw[List.countP_cons_of_neg (by simp),List.countP_cons_of_pos (by simp [hx])]
  lia
 | x::b,p + 1,h1,h2=>by
  have ih:=C0z st b p (by simpa using h1) h2
  show List.countP _ (x::b.set p (some st)) < List.countP _ (x::b)
  unfold A46 at ih
  rw[List.countP_cons,List.countP_cons]
  lia
theorem B43:∀(m:Nat) (l:List Nat),l.Nodup->(∀x∈l,x < m)->l.length<=m
 | 0,l,_,h=>by
  cases l with
  | nil=>exact F9 _
  | cons x r=>exact absurd (h x D9) (by lia)
 | m + 1,l,nd,h=>by
  by_cases c:m∈l
  ·have h1:=B43 m (l.erase m) (nd.erase m) λx hx=>by
    have h2:=h x (List.mem_of_mem_erase hx)
    have h3:x≠m:=λe=>by
     subst e
     exact absurd hx (nd.not_mem_erase)
    lia
   rw[List.length_erase_of_mem c] at h1
   lia
  ·have:=B43 m l nd λx hx=>by
    have h2:=h x hx
    have h3:x≠m:=λe=>c (e▸hx)
    lia
   lia
abbrev Sp2:=Nat×Int
def n8 (m:Nat) (b:Sp2):Tb:=(E5 m none).set b.1 (some b.2)
def enF (t:Tb) (g:Sp2):Bool:=match gt t g.1 with
 | none=>false
 | some l=>decide (g.2<=l)
section
variable {m:Nat} {ws:List Wy} {st:Int} {b g:Sp2}
theorem C82:(n8 m b).length=m:=by unfold n8;rw[Y6,A10]
end
section
variable {ws:List Wy} {row:List Nat} {cs:List Int} {st sc gv x y:Int} {p0:Nat}
end
section
variable {m:Nat} {row:List Nat} {cs:List Int} {sc gv:Int} {B S ws:List Wy}
end
section
variable {m:Nat} {ws:List Wy} {row:List Nat} {cs:List Int} {sc gv st x y:Int} {p0 pl:Nat}
end
section
variable {m:Nat} {ws:List Wy} {st:Int}
end
section
variable {m:Nat} {st:Int}
def Bet (ws ws':List Wy):Prop:=∀w∈ws,∃w'∈ws',w'.1=w.1/\w'.2.1=w.2.1/\w.2.2<=w'.2.2
theorem C83 (ws:List Wy):Bet ws ws:=λw hw=>⟨w,hw,rfl,rfl,A0m _⟩
def A9o (st:Int) (t:Tb):Tb:=t.map λo=>o.map λx=>if st < x then st else x
theorem A9p (t:Tb) (p:Nat):gt (A9o st t) p=(gt t p).map λx=>if st < x then st else x:=by
 unfold gt A9o
 rw[K3]
 cases t[p]? with
 | none=>rfl
 | some o=>rfl
theorem C84 (t:Tb):leT (A9o st t) t:=λp=>by
 rw[A9p]
 cases gt t p with
 | none=>exact B1e
 | some x=>
  refine T5.mpr ?_
  show (if st < x then st else x)<=x
  split <;> lia
theorem C85 {ws ws':List Wy} {st':Int} {b b' t t':Tb} (h0:0<=st) (hs:st<=st') (hb0:G1 m st b) (hw:Bet ws ws') (hb:leT b b') (h:N9 m ws st b t) (h':N9 m ws' st' b' t'):leT t t':=by
 refine C0k (h.le (A9o st t') ⟨by unfold A9o;rw[C6];exact h'.tab.len,λp x e=>?_⟩ (λp=>?_) λw hw1=>?_) (C84 t')
 ·rw[A9p] at e
  cases z:gt t' p with
  | none=>rw[z] at e;cases e
  | some y=>
   rw[z] at e
   have e':(if st < y then st else y)=x:=Option.some.inj e
   obtain⟨y0,_⟩:=h'.tab.bd p y z
   subst e'
   split <;> lia
 ·rw[A9p]
  have h1:=A06 (hb p) (h'.up p)
  cases z:gt b p with
  | none=>exact B1e
  | some x=>
   rw[z] at h1
   cases z2:gt t' p with
   | none=>rw[z2] at h1;exact absurd h1 n6
   | some y=>
    rw[z2] at h1
    have:=T5.mp h1
    have:=(hb0.bd p x z).2
    refine T5.mpr ?_
    show x<=(if st < y then st else y)
    split <;> lia
 ·obtain⟨w',hw',e1,e2,e3⟩:=hw w hw1
  have c:=h'.cl w' hw'
  unfold O3 at c ⊢
  rw[e1,e2] at c
  rw[A9p,A9p]
  cases z:gt t' w.1 with
  | none=>exact B1e
  | some x=>
   rw[z] at c
   have c':leO (J6 st' x w'.2.2) (gt t' w.2.1):=c
   show leO (J6 st (if st < x then st else x) w.2.2) _
   generalize hx:(if st < x then st else x)=y
   have hy:y<=x:=by rw[<-hx];split <;> lia
   unfold J6 at c' ⊢
   by_cases d:y + w.2.2 < 0
   ·rw[if_pos d];exact B1e
   ·rw[if_neg d]
    rw[if_neg (by lia)] at c'
    cases z2:gt t' w.2.1 with
    | none=>rw[z2] at c';exact absurd c' n6
    | some u=>
     rw[z2] at c'
     have c2:=T5.mp c'
     refine T5.mpr ?_
     show _<=(if st < u then st else u)
     split at c2 <;> split <;> split <;> lia
end
end My
namespace L2
open PySem PySem.Spec PyProof.Rows
end L2
namespace My
open PySem L2
section
variable {X:Cx} {C:DC}
variable {st:Stmt} {te:DE}
end
section
variable {X:Cx} {C:DC} {st:Stmt} {te:DE} {tg e:Expr} {u:DF}
end
section
variable {C:DC}
def A61 (ds:List PyData) (Q:PyData->Prop):Prop:=match ds with
 | [.list xs]=>bnd (y9 xs) λns=>ns≠[]/\∀M,A9a ns M->Q (.int M)
 | _=>False
def A2v (d:Int) (ds:List PyData) (Q:PyData->Prop):Prop:=match ds with
 | [.list xs]=>bnd (y9 xs) λns=>(ns=[]->Q (.int d))/\∀M,A9a ns M->Q (.int M)
 | _=>False
theorem C86 {K:A9} {d:Int}:A01 C (B30 d K) (A2v d):=by
 intro ρ σ P col H vs ds Qd Q r t g k
 unfold A2v at g
 split at g
 ·rename_i xs
  cases hn:y9 xs with
  | none=>rw[hn] at g;exact g.elim
  | some ns=>
   rw[hn] at g
   obtain⟨g1,g2⟩:=g
   obtain⟨v,rfl,t1⟩:=A2g t
   cases t1 with
   | lst _ e t2=>
    have z:=B4o t2 hn
    subst z
    exact⟨_,ns,rfl,SqL.of e,λq=>k _ _ _ ⟨col,r.push (.int d)⟩ (g1 q),λM hM=>k _ _ _ ⟨col,r.push (.int M)⟩ (g2 M hM)⟩
 ·exact g.elim
section
variable {X:Cx} {st:Stmt} {ta:DF}
def A2w (i j k:Nat) (ta:DF) (D:O2) (ρ:List Sl):Prop:=ta ρ λds ρ'=>match ds with
 | [a,b,c]=>D.nx (((ρ'.set i (.sh a)).set j (.sh b)).set k (.sh c))
 | _=>False
theorem C87 {i j l:Nat} (hp:PS X st (B9d i j l (vOf C ta))):PS X st (sOf C (A2w i j l ta)):=PS.wk hp λ_ _ _ zz=>el3 zz fun ρ P _ R ht E=>⟨ρ,P,_,R,ht,λvs ds ρ' P' H' zr s p q=>by
 obtain⟨col,r⟩:=zr
 have t:=p.th r
 split at q
 ·cases t with
  | cons t1 t=>
   obtain⟨y,z,rfl,t2,t3⟩:=Q7 t
   exact⟨_,y,z,rfl,E.nx _ _ _ ⟨col,((((r.store (i:=i) t1).store (i:=j) t2).store (i:=l) t3).sub s)⟩ q⟩
 ·exact q.elim⟩
variable {a b:Expr} {te:DE} {pos:Pos}
end
end
section
variable {X:Cx} {C:DC} {st:Stmt} {te:DE}
end
section
variable {C:DC}
end
section
variable {X:Cx} {C:DC}
end
section
variable {C:DC}
end
section
variable {X:Cx} {C:DC} {st:Stmt} {te:DE}
end
section
variable {C:DC}
end
section
variable {C:DC} {col col2:Addr->Nat} {ρ:List Sl} {σ:St} {P:List Pe} {H H2:Hp} {i:Nat} {ds:List PyData} {a:Addr} {vs:List V}
variable {X:Cx} {e:Expr}
end
end My
namespace L2
open PySem PySem.Spec PyProof.Rows
section
variable {κ:Type} [DecidableEq κ]
def X1 (kvs:List (κ×V)) (k:κ):Option V:=(kvs.find? λkv=>decide (kv.1=k)).map (·.2)
def Y4 (kvs:List (κ×V)) (k:κ) (v:V):List (κ×V):=
 if (kvs.any λkv=>decide (kv.1=k))=true then kvs.map (λkv=>if kv.1=k then (kv.1,v) else kv) else kvs++[(k,v)]
def A1t (kvs:List (κ×V)) (k:κ):List (κ×V):=kvs.filter λkv=>decide (kv.1≠k)
theorem B1f {p:κ×V} {r:List (κ×V)} {k:κ} (e:p.1=k):X1 (p::r) k=some p.2:=by simp [X1,A8x,e]
theorem B1g {p:κ×V} {r:List (κ×V)} {k:κ} (e:¬ p.1=k):X1 (p::r) k=X1 r k:=by simp [X1,A8x,e]
theorem C00 (k:κ):∀kvs:List (κ×V),(kvs.any λkv=>decide (kv.1=k))=(X1 kvs k).isSome
 | []=>rfl
 | p::r=>by
  rw[A5o]
  by_cases e:p.1=k
  ·simp only[B1f e,decide_eq_true e,Bool.true_or,Option.isSome_some]
  ·rw[B1g e,decide_eq_false e,Bool.false_or];exact C00 k r
theorem C01 (kvs:List (κ×V)) (k:κ) (v:V):(Y4 kvs k v).length<=kvs.length + 1:=by
 unfold Y4
 split
 ·rw[C6];lia
 ·rw[U6,J8,A3g];lia
theorem W4.isSome_eq {o:Option V} {u:Option Value} (r:W4 o u):o.isSome=u.isSome:=by
 cases o with
 | none=>cases u with
  | none=>rfl
  | some _=>exact (show False from r).elim
 | some _=>cases u with
  | none=>exact (show False from r).elim
  | some _=>rfl
theorem KV.val {kvs:List (κ×V)} {vs:List (κ×Value)} (r:KV kvs vs) (k:κ):W4 (X1 kvs k) (valueAt vs k):=by
 unfold KV at r
 induction r with
 | nil=>exact True.intro
 | @cons p q ps qs h t ih=>
  obtain⟨h1,h2⟩:=h
  by_cases e:p.1=k
  ·have e':q.1=k:=h1.symm.trans e
   have b:valueAt (q::qs) k=some q.2:=by simp [valueAt,A8x,e']
   rw[B1f e,b];exact h2
  ·have e':¬ q.1=k:=λz=>e (h1.trans z)
   have b:valueAt (q::qs) k=valueAt qs k:=by simp [valueAt,A8x,e']
   rw[B1g e,b];exact ih
theorem KV.any {kvs:List (κ×V)} {vs:List (κ×Value)} (r:KV kvs vs) (k:κ):(kvs.any λkv=>decide (kv.1=k))=vs.any λkv=>decide (kv.1=k):=by
 unfold KV at r
 induction r with
 | nil=>rfl
 | cons h t ih=>rw[A5o,A5o,ih,h.1]
theorem KV.repl {kvs:List (κ×V)} {vs:List (κ×Value)} (r:KV kvs vs) (k:κ) {y:V} {u:Value} (ry:E1 y u) :
  KV (kvs.map λkv=>if kv.1=k then (kv.1,y) else kv) (vs.map λkv=>if kv.1=k then (kv.1,u) else kv):=by
 unfold KV at r ⊢
 induction r with
 | nil=>exact .nil
 | @cons p q ps qs h t ih=>
  rw[Q9,Q9]
  refine .cons ?_ ih
  obtain⟨h1,h2⟩:=h
  by_cases e:p.1=k
  ·rw[if_pos e,if_pos (h1.symm.trans e)];exact⟨h1,ry⟩
  ·rw[if_neg e,if_neg (λz=>e (h1.trans z))];exact⟨h1,h2⟩
theorem KV.put {kvs:List (κ×V)} {vs:List (κ×Value)} (r:KV kvs vs) (k:κ) {y:V} {u:Value} (ry:E1 y u):KV (Y4 kvs k y) (stored vs k u):=by
 unfold Y4 stored
 rw[r.any k]
 by_cases e:(vs.any λkv=>decide (kv.1=k))=true
 ·rw[if_pos e,if_pos e];exact r.repl k ry
 ·rw[if_neg e,if_neg e];exact Paired.snoc r ⟨rfl,ry⟩
theorem KV.drop {kvs:List (κ×V)} {vs:List (κ×Value)} (r:KV kvs vs) (k:κ):KV (A1t kvs k) (without vs k):=by
 unfold KV at r ⊢
 unfold A1t without
 induction r with
 | nil=>exact .nil
 | @cons p q ps qs h t ih=>
  obtain⟨h1,h2⟩:=h
  rw[List.filter_cons,List.filter_cons]
  by_cases e:p.1=k
  ·have a:¬ decide (p.1≠k)=true:=by simp [e]
   have b:¬ decide (q.1≠k)=true:=by simp [h1.symm.trans e]
   rw[if_neg a,if_neg b];exact ih
  ·have e':¬ q.1=k:=λz=>e (h1.trans z)
   have a:decide (p.1≠k)=true:=by simp [e]
   have b:decide (q.1≠k)=true:=by simp [e']
   rw[if_pos a,if_pos b];exact .cons ⟨h1,h2⟩ ih
theorem KV.length {kvs:List (κ×V)} {vs:List (κ×Value)} (r:KV kvs vs):kvs.length=vs.length:=Paired.length r
theorem C88 (kvs:List (κ×V)) (k:κ):(A1t kvs k).length<=kvs.length:=C4l _ _
end
theorem A62 {P:Program} {w:World} {k:Key} {u:Value} (r:E1 (kV k) u):(X6 P w).is k u=true:=by
 cases k with
 | inl i=>obtain⟨t,e⟩:=(show ∃t,u=Value.int i t from r);subst e;exact C4v P w i t
 | inr x=>obtain⟨t,e⟩:=(show ∃t,u=Value.str x t from r);subst e;exact C4w P w x t
theorem C02 {P:Program} {w:World}:∀{ks:List Key} {us:List Value},D5 (ks.map kV) us->ItemsAre (X6 P w) ks us
 | [],_,r=>by rw[A8s] at r;cases r;exact .nil
 | k::ks,_,r=>by
  rw[Q9] at r
  cases r with
  | cons h t=>exact .cons (A62 h) (C02 t)
abbrev KT (H:Hp):List (List Key×V)->List (List Key×Addr×Value)->Prop:=Paired λp q=>p.1=q.1/\H q.2.1=some (.tup (p.1.map kV))/\E1 p.2 q.2.2
theorem KT.val {H:Hp} {kvs:List (List Key×V)} {xs:List (List Key×Addr×Value)} (r:KT H kvs xs) (k:List Key):W4 (X1 kvs k) ((atKey xs k).map (·.2)):=by
 induction r with
 | nil=>exact True.intro
 | @cons p q ps qs h t ih=>
  obtain⟨h1,_,h2⟩:=h
  by_cases e:p.1=k
  ·have e':q.1=k:=h1.symm.trans e
   have b:atKey (q::qs) k=some q.2:=by simp [atKey,A8x,e']
   rw[B1f e,b];exact h2
  ·have e':¬ q.1=k:=λz=>e (h1.trans z)
   have b:atKey (q::qs) k=atKey qs k:=by simp [atKey,A8x,e']
   rw[B1g e,b];exact ih
theorem KT.repl {H:Hp} {kvs:List (List Key×V)} {xs:List (List Key×Addr×Value)} (r:KT H kvs xs) (k:List Key) {y:V} {u:Value} (ry:E1 y u) :
  KT H (kvs.map λkv=>if kv.1=k then (kv.1,y) else kv) (xs.map (putAt k u)):=by
 induction r with
 | nil=>exact .nil
 | @cons p q ps qs h t ih=>
  rw[Q9,Q9]
  refine .cons ?_ ih
  obtain⟨h1,h2,h3⟩:=h
  unfold putAt
  by_cases e:p.1=k
  ·rw[if_pos e,if_pos (h1.symm.trans e)];exact⟨h1,h2,ry⟩
  ·rw[if_neg e,if_neg (λz=>e (h1.trans z))];exact⟨h1,h2,h3⟩
theorem KT.put {H:Hp} {kvs:List (List Key×V)} {xs:List (List Key×Addr×Value)} (r:KT H kvs xs) (k:List Key) {b:Addr} {y:V} {u:Value} (hb:H b=some (.tup (k.map kV))) (ry:E1 y u) :
  KT H (Y4 kvs k y) (storedH xs k b u):=by
 have e:(kvs.any λkv=>decide (kv.1=k))=(atKey xs k).isSome:=by
  rw[C00,(r.val k).isSome_eq,Option.isSome_map]
 unfold Y4 storedH
 rw[e]
 by_cases q:(atKey xs k).isSome=true
 ·rw[if_pos q,if_pos q];exact r.repl k ry
 ·rw[if_neg q,if_neg q];exact Paired.snoc r ⟨rfl,hb,ry⟩
theorem KT.keeps {H H':Hp} {kvs:List (List Key×V)} {xs:List (List Key×Addr×Value)} (r:KT H kvs xs) (ht:∀b ys,H b=some (.tup ys)->H' b=some (.tup ys)):KT H' kvs xs:=
 Paired.mapP r λ_ _ z=>⟨z.1,ht _ _ z.2.1,z.2.2⟩
section
variable {P:Program} {w:World} {H:Hp} {h:Heap} {a:Addr}
theorem C03 {u:HO} (ok:HOk P w H h) (e:Rd H a u):N5 P w H h a u:=e.ok ok
theorem A47 {kvs:List (Key×V)} (ok:HOk P w H h) (e:Rd H a (.dK kvs)):kvs.length<=sizeLine/\(a == sysModules)=false/\∃vs,KV kvs vs/\h.DictOf (X6 P w) a vs:=
 show N5 P w H h a (.dK kvs) from C03 ok e
theorem B1h {kvs:List (Key×V)} (ok:HOk P w H h) (e:H a=some (.dK kvs)):kvs.length<=sizeLine/\(a == sysModules)=false/\∃vs,KV kvs vs/\h.DictOf (X6 P w) a vs:=A47 ok (.inl e)
theorem A9q {ks:List Key} (ok:HOk P w H h) (e:H a=some (.tup (ks.map kV))):(tupleKind (X6 P w)).is h ks a:=by
 obtain⟨_,its,r,o,h1,h2,n,h3⟩:=(show N5 P w H h a (.tup (ks.map kV)) from ok a _ e)
 exact⟨o,its.toArray,n,h1,h2,h3,by simpa using C02 r⟩
theorem A63 {kvs:List (List Key×V)} (ok:HOk P w H h) (e:Rd H a (.dT kvs)):kvs.length<=sizeLine/\(a == sysModules)=false/\
  ∃xs,KT H kvs xs/\h.DictOfH (tupleKind (X6 P w)) a xs:=by
 obtain⟨z,y,xs,r,o,es,ep,h1,h2,h3,h4,h5⟩:=(show N5 P w H h a (.dT kvs) from C03 ok e)
 refine⟨z,y,xs,r,o,es,ep,h1,h2,h3,h4,λx hx=>?_,h5⟩
 have all:∀{l:List (List Key×V)} {m:List (List Key×Addr×Value)},KT H l m->∀x∈m,(tupleKind (X6 P w)).is h x.1 x.2.1:=by
  intro l m q
  induction q with
  | nil=>intro x hx;exact nomatch hx
  | @cons p q ps qs hq t ih=>
   intro x hx
   rcases N3.mp hx with e | hx
   ·subst e
    exact A9q ok (by rw[<-hq.1];exact hq.2.1)
   ·exact ih x hx
 exact all r x hx
theorem C89 {kvs:List (List Key×V)} (ok:HOk P w H h) (e:H a=some (.dT kvs)):kvs.length<=sizeLine/\(a == sysModules)=false/\
  ∃xs,KT H kvs xs/\h.DictOfH (tupleKind (X6 P w)) a xs:=A63 ok (.inl e)
end
def U5 (H:Hp) (a:Addr) (y:V) (r:Option V):Prop:=
 (∃kvs k,Rd H a (.dK kvs)/\y=kV k/\r=X1 kvs k)\/∃kvs k b,Rd H a (.dT kvs)/\y=.ref b/\H b=some (.tup (k.map kV))/\r=X1 kvs k
def A2x (H:Hp) (a:Addr) (y v:V) (H':Hp):Prop:=
 (∃kvs k,H a=some (.dK kvs)/\y=kV k/\kvs.length < sizeLine/\H'=upd H a (.dK (Y4 kvs k v)))\/
 ∃kvs k b,H a=some (.dT kvs)/\y=.ref b/\H b=some (.tup (k.map kV))/\kvs.length < sizeLine/\H'=upd H a (.dT (Y4 kvs k v))
theorem U5.k {H:Hp} {a:Addr} {kvs:List (Key×V)} {k:Key} (e:H a=some (.dK kvs)):U5 H a (kV k) (X1 kvs k):=.inl ⟨kvs,k,.inl e,rfl,rfl⟩
theorem A2x.k {H:Hp} {a:Addr} {kvs:List (Key×V)} {k:Key} {v:V} (e:H a=some (.dK kvs)) (hl:kvs.length < sizeLine):A2x H a (kV k) v (upd H a (.dK (Y4 kvs k v))):=.inl ⟨kvs,k,e,rfl,hl,rfl⟩
section
variable {X:Cx} {pins:List (Addr×Obj)} {σ:St} {H:Hp} {s:Shared} {a:Addr} {y v:V} {u r:Value} {o:Option V} {A:Around} {E:Value->Shared->Prop}
theorem Inv.big (I:Inv X pins σ H s):sysModules < s.heap.objs.size:=by
 have h:mainGlobals < s.heap.objs.size:=(I.mod.glob.keeps I.bk).lt
 exact Nat.lt_trans DD h
theorem C9a {Q:Value->Shared->Prop} (hu:A.units + 1 < cLine) (I:Inv X pins σ H s) (g:U5 H a y (some v)) (ry:E1 y u) (h:∀w' s',Inv X pins σ H s'->E1 v w'->Q w' s') :
  wpAny (model X.prog X.w) A (getItem (.ref a) u) Q E s:=by
 rcases g with ⟨kvs,k,e,ey,l⟩ | ⟨kvs,k,b,e,ey,eb,l⟩
 ·subst ey
  obtain⟨z,hd,vs,rel,dd⟩:=A47 I.hok e
  obtain⟨w',hw,rw'⟩:=W4.some_of (v:=v) (o:=valueAt vs k) (by rw[l];exact rel.val k)
  exact wpAny_getItem_of (A62 ry) dd.mapOf hw (h w' _ (I.tok _) rw')
 ·subst ey
  cases (show u=Value.ref b from ry)
  obtain⟨z,hd,xs,rel,dd⟩:=A63 I.hok e
  obtain⟨w',hw,rw'⟩:=W4.some_of (v:=v) (o:=(atKey xs k).map (·.2)) (by rw[l];exact rel.val k)
  obtain⟨p,hp,hp2⟩:=A3h.mp hw
  refine wpAny_getItem_heap (tupleKind_room_in1 hu) (A9q I.hok eb) dd hp ?_
  rw[hp2]
  exact h w' _ (I.tok _) rw'
theorem C9b {Q:Value->Shared->Prop} (hu:A.units + 1 < cLine) (I:Inv X pins σ H s) (g:U5 H a y o) (ry:E1 y u) (h:∀s',Inv X pins σ H s'->Q (.bool o.isSome) s') :
  wpAny (model X.prog X.w) A (compareOp .In u (.ref a)) Q E s:=by
 rcases g with ⟨kvs,k,e,ey,l⟩ | ⟨kvs,k,b,e,ey,eb,l⟩
 ·subst ey
  obtain⟨z,hd,vs,rel,dd⟩:=A47 I.hok e
  refine wpAny_in_of (A62 ry) hd dd.mapOf ?_
  rw[<-(rel.val k).isSome_eq,<-l]
  exact h _ (I.tok _)
 ·subst ey
  cases (show u=Value.ref b from ry)
  obtain⟨z,hd,xs,rel,dd⟩:=A63 I.hok e
  refine wpAny_in_heap (tupleKind_room_in1 hu) (A9q I.hok eb) hd dd ?_
  have q:=(rel.val k).isSome_eq
  rw[Option.isSome_map] at q
  rw[<-q,<-l]
  exact h _ (I.tok _)
theorem C9c {Q:Value->Shared->Prop} (hu:A.units + 1 < cLine) (I:Inv X pins σ H s) (g:U5 H a y o) (ry:E1 y u) (h:∀s',Inv X pins σ H s'->Q (.bool (!o.isSome)) s') :
  wpAny (model X.prog X.w) A (compareOp .NotIn u (.ref a)) Q E s:=by
 rcases g with ⟨kvs,k,e,ey,l⟩ | ⟨kvs,k,b,e,ey,eb,l⟩
 ·subst ey
  obtain⟨z,hd,vs,rel,dd⟩:=A47 I.hok e
  refine wpAny_notIn_of (A62 ry) hd dd.mapOf ?_
  rw[<-(rel.val k).isSome_eq,<-l]
  exact h _ (I.tok _)
 ·subst ey
  cases (show u=Value.ref b from ry)
  obtain⟨z,hd,xs,rel,dd⟩:=A63 I.hok e
  refine wpAny_notIn_heap (tupleKind_room_in1 hu) (A9q I.hok eb) hd dd ?_
  have q:=(rel.val k).isSome_eq
  rw[Option.isSome_map] at q
  rw[<-q,<-l]
  exact h _ (I.tok _)
theorem B44 {h':Heap} {t':Nat} {ob:HO} (I:Inv X pins σ H s) (mu:Mut (H a)) (hs:Heap.SameBut a s.heap h') (he:∃q,h'.get? a=some q) (new:N5 X.prog X.w (upd H a ob) h' a ob) :
  Inv X pins σ (upd H a ob) { s with heap:=h',toks:=t' }:=
 I.write (x:=a) (e:=a) mu (.inl rfl) (λb q hb z=>(hs.2 b hb).trans z) he new
theorem C04 {P:Program} {w:World} {H':Hp} {h':Heap} {kvs:List (Key×V)} {vs:List (Key×Value)} (z:kvs.length<=sizeLine) (hd:(a == sysModules)=false) (rel:KV kvs vs) (dd:h'.DictOf (X6 P w) a vs) :
  N5 P w H' h' a (.dK kvs):=⟨z,hd,vs,rel,dd⟩
theorem C9d {H':Hp} {Q:Unit->Shared->Prop} (hu:A.units + 1 < cLine) (I:Inv X pins σ H s) (g:A2x H a y v H') (ry:E1 y u) (rv:E1 v r) (h:∀s',Inv X pins σ H' s'->Q () s') :
  wpAny (model X.prog X.w) A (setItem (.ref a) u r) Q E s:=by
 rcases g with ⟨kvs,k,e,ey,l,eH⟩ | ⟨kvs,k,b,e,ey,eb,l,eH⟩
 ·subst ey eH
  obtain⟨z,hd,vs,rel,dd⟩:=B1h I.hok e
  have hz:vs.length<=sizeLine:=by rw[<-rel.length];exact z
  have hl:(Y4 kvs k v).length<=sizeLine:=by have:=C01 kvs k v;lia
  refine wpAny_setItem_pairs (hsz:=hz) (A62 ry) dd λh' dd' hs=>h _ ?_
  have he:∃q,h'.get? a=some q:=let ⟨q,_,_,hq,_⟩:=dd';⟨q,hq⟩
  exact B44 I (by rw[e];exact True.intro) hs he (C04 hl hd (rel.put k rv) dd')
 ·subst ey eH
  cases (show u=Value.ref b from ry)
  obtain⟨z,hd,xs,rel,dd⟩:=C89 I.hok e
  have hz:xs.length<=sizeLine:=by rw[<-Paired.length rel];exact z
  have hl:(Y4 kvs k v).length<=sizeLine:=by have:=C01 kvs k v;lia
  refine wpAny_setItem_heap (hsz:=hz) (tupleKind_room_in1 hu) (A9q I.hok eb) dd λh' dd' hs=>h _ ?_
  obtain⟨q,es,ep,hq,h2,h3,h4,_,h5⟩:=dd'
  refine B44 I (by rw[e];exact True.intro) hs ⟨q,hq⟩ ⟨hl,hd,_,(rel.put k eb rv).keeps λc ys ec=>?_,q,es,ep,hq,h2,h3,h4,h5⟩
  rw[B8 (B7l ec e (λz=>nomatch z))]
  exact ec
end
section
variable {X:Cx} {pins:List (Addr×Obj)} {σ:St} {H:Hp} {s:Shared} {a:Addr} {kvs:List (Key×V)} {k:Key} {u:Value} {A:Around} {E:Value->Shared->Prop}
theorem C9e {v:V} {more:List Value} {Q:Value->Shared->Prop} (I:Inv X pins σ H s) (e:H a=some (.dK kvs)) (ry:E1 (kV k) u) (l:X1 kvs k=some v) (hm:more=[]\/∃x,more=[x])
  (h:∀w' s',Inv X pins σ (upd H a (.dK (A1t kvs k))) s'->E1 v w'->Q w' s'):wpAny (model X.prog X.w) A (call (.builtin "dict.pop") (.ref a::u::more)) Q E s:=by
 obtain⟨z,hd,vs,rel,dd⟩:=B1h I.hok e
 obtain⟨w',hw,rw'⟩:=W4.some_of (v:=v) (o:=valueAt vs k) (by rw[<-l];exact rel.val k)
 have hp:(keyPart u).isSome=true:=by
  cases k with
  | inl i=>obtain⟨t,q⟩:=(show ∃t,u=Value.int i t from ry);subst q;rfl
  | inr x=>obtain⟨t,q⟩:=(show ∃t,u=Value.str x t from ry);subst q;rfl
 have ha:argsOk "dict.pop" ⟨.ref a::u::more,[]⟩:=by
  rcases hm with q | ⟨x,q⟩
  ·subst q;exact PySem.F.args_dict_pop_2 _ _
  ·subst q;exact PySem.F.args_dict_pop_3 _ _ _
 refine call_meetsIn PySem.F.slot_dict_pop dd.typeIs PySem.F.entry_dict_pop ha (meets_dict_pop_there (X6 X.prog X.w) a (A62 ry) more hm hp)
  ⟨vs,w',dd,by rw[<-rel.length];exact z,hw,λh' dd' hs=>h w' _ ?_ rw'⟩
 have he:∃q,h'.get? a=some q:=let ⟨q,_,_,hq,_⟩:=dd';⟨q,hq⟩
 exact B44 I (by rw[e];exact True.intro) hs he (C04 (b3 (C88 kvs k) z) hd (rel.drop k) dd')
theorem C9f {Q:Value->Shared->Prop} (I:Inv X pins σ H s) (e:Rd H a (.dK kvs)) (h:∀t s',Inv X pins σ H s'->Q (.int kvs.length t) s'):wpAny (model X.prog X.w) A (call (.builtin "len") [.ref a]) Q E s:=by
 obtain⟨z,hd,vs,rel,dd⟩:=A47 I.hok e
 refine call_len_dict hd dd (by rw[<-rel.length];rw[sizeLine_eq] at z;lia) ?_
 rw[<-rel.length]
 exact h _ _ (I.tok _)
end
def C05 (i:Expr):Prop:=∀ov iv,subscripted i false ov iv=operate [ov,iv] (getItem ov iv)
theorem C9g {prog:Program} {w:World} {A:Around} {E:Value->Shared->Prop} {s:Shared} {env:Env} {value slice:Expr} {pos:Pos} {T id:String} {Q:Value->Shared->Prop}
  (hl:typeLookup (.type T) "__getitem__" = pure (some (.builtin id))) (hs:C05 slice)
  (h:wpAny (model prog w) A (eval value env) (λo s₁=>wpAny (model prog w) A (eval slice env) (λi s₂=>s₂.TypeIs o T/\wpAny (model prog w) A (getItem o i) Q E s₂) E s₁) E s) :
  wpAny (model prog w) A (eval (.Subscript value slice pos) env) Q E s:=by
 refine Subscript_ (wpAny_mono h (λo s₁ h₁=>wpAny_mono h₁ (λi s₂ h₂=>?_) λ_ _ x=>x) λ_ _ x=>x)
 obtain⟨hT,h₂⟩:=h₂
 unfold subscriptTail
 refine wpAny_bind ?_
 rw[getitemInPython_of_ne hT.not_modules]
 refine wpAny_bind (wpAny_specialOf hT hl ?_)
 have fin:wpAny (model prog w) A (subscripted slice false o i) (λr s₃=>wpAny (model prog w) A (letTemporaryGo value o r >>= λ_=>pure r) Q E s₃) E s₂:=by
  rw[hs o i]
  exact wpAny_operating (wpAny_mono h₂ (λr s₃ h₃=>wpAny_bind (wpAny_letTemporaryGo (wpAny_pure h₃))) λ_ _ x=>x)
 first
  | exact wpAny_pure (wpAny_bind fin)
  | exact wpAny_bind (wpAny_pure (wpAny_bind fin))
  | exact wpAny_bind fin
theorem C9h {X:Cx} {pins:List (Addr×Obj)} {σ:St} {H:Hp} {s:Shared} {a:Addr} {y:V} {o:Option V} (I:Inv X pins σ H s) (g:U5 H a y o):s.TypeIs (.ref a) "dict" :=by
 rcases g with ⟨kvs,k,e,_,_⟩ | ⟨kvs,k,b,e,_,_,_⟩
 ·obtain⟨_,_,vs,_,dd⟩:=A47 I.hok e
  exact dd.typeIs
 ·obtain⟨_,_,xs,_,dd⟩:=A63 I.hok e
  exact dd.typeIs
def C06 (td ty:TE):TE:=fun σ H Q=>td σ H λx H1=>ty σ H1 λy H2=>∃a v,x=.ref a/\U5 H2 a y (some v)/\Q v H2
def C9i (ty td:TE):TE:=fun σ H Q=>ty σ H λy H1=>td σ H1 λx H2=>∃a o,x=.ref a/\U5 H2 a y o/\Q (.bl o.isSome) H2
def C9j (ty td:TE):TE:=fun σ H Q=>ty σ H λy H1=>td σ H1 λx H2=>∃a o,x=.ref a/\U5 H2 a y o/\Q (.bl (!o.isSome)) H2
def C9k (td ty tv:TE):TS:=λD σ H=>tv σ H λv H1=>td σ H1 λx H2=>ty σ H2 λy H3=>∃a H4,x=.ref a/\A2x H3 a y v H4/\D.nx σ H4
section
variable {X:Cx} {o i e value:Expr} {pos pos' tpos:Pos} {td ty tv:TE}
theorem A07 (hu:X.A.units + 1 < cLine) (ho:PE X o td) (hi:PE X i ty) (hs:C05 i):PE X (.Subscript o i pos) (C06 td ty):=by
 intro pins s σ H Q I h
 refine C9g PySem.F.slot_dict_getitem.lookup hs (thn (ho pins s σ H _ I h) λu s1 ⟨x,H1,I1,rx,q1⟩=>thn (hi pins s1 σ H1 _ I1 q1) λiv s2 ⟨y,H2,I2,ry,a,v,ex,g,q2⟩=>?_)
 subst ex
 obtain rfl:u=Value.ref a:=rx
 exact⟨C9h I2 g,C9a hu I2 g ry λw' s3 I3 rw'=>⟨v,H2,I3,rw',q2⟩⟩
theorem C07 (hu:X.A.units + 1 < cLine) (hi:PE X i ty) (ho:PE X o td):PC X .In i o (C9i ty td):=by
 intro pins s σ H Q I h
 refine thn (hi pins s σ H _ I h) λiv s1 ⟨y,H1,I1,ry,q1⟩=>thn (ho pins s1 σ H1 _ I1 q1) λu s2 ⟨x,H2,I2,rx,a,ov,ex,g,q2⟩=>?_
 subst ex
 obtain rfl:u=Value.ref a:=rx
 exact C9b hu I2 g ry λs3 I3=>⟨.bl ov.isSome,H2,I3,rfl,q2⟩
theorem C9l (hu:X.A.units + 1 < cLine) (hi:PE X i ty) (ho:PE X o td):PC X .NotIn i o (C9j ty td):=by
 intro pins s σ H Q I h
 refine thn (hi pins s σ H _ I h) λiv s1 ⟨y,H1,I1,ry,q1⟩=>thn (ho pins s1 σ H1 _ I1 q1) λu s2 ⟨x,H2,I2,rx,a,ov,ex,g,q2⟩=>?_
 subst ex
 obtain rfl:u=Value.ref a:=rx
 exact C9c hu I2 g ry λs3 I3=>⟨.bl (!ov.isSome),H2,I3,rfl,q2⟩
theorem B1i (hu:X.A.units + 1 < cLine) (ho:PE X o td) (hi:PE X i ty) (hv:PE X value tv) (hs:swapsWith value (some (.Subscript o i pos')) pos.line X.env=pure false) :
  PS X (.Assign [.Subscript o i pos'] value pos) (C9k td ty tv):=by
 intro pins s σ H D I h
 refine wpAny_Assign_Subscript (thn (hv pins s σ H _ I h) λr s1 ⟨v,H1,I1,rv,q1⟩=>thn (ho pins s1 σ H1 _ I1 q1) λu s2 ⟨x,H2,I2,rx,q2⟩=>thn (hi pins s2 σ H2 _ I2 q2) λiv s3 ⟨y,H3,I3,ry,a,H4,ex,g,q3⟩=>?_) hs
 subst ex
 obtain rfl:u=Value.ref a:=rx
 exact C9d hu I3 g ry rv λs4 I4=>⟨σ,H4,I4,q3⟩
end
theorem C9m {P:Program} {w:World} {H:Hp} (h:Heap) (hb:sysModules < h.objs.size):N5 P w H (h.push { cls:=.type "dict",data:=.dict #[] }) h.objs.size (.dK []):=
 ⟨O7 _,beq_eq_false_iff_ne.mpr (Ne.symm (Q1 hb)),[],.nil,Heap.DictOf.new h⟩
def C9n:TE:=λ_ H Q=>∀p,H p=none->Q (.ref p) (upd H p (.dK []))
section
variable {X:Cx} {pos:Pos}
theorem C08:PE X (.Dict [] [] pos) C9n:=λpins s σ H Q I h=>
 wpAny_Dict_empty ⟨.ref s.heap.objs.size,_,I.laid (a:=s.heap.objs.size) (o:=.dK []) (t':=s.toks) (λ_ _ q=>O0 _ q) (F9 _) (C9m s.heap I.big),rfl,h _ (I.hok.fresh (F9 _))⟩
end
structure M1 (X:Cx) (o:Expr) (m:Str) (apos:Pos) (e:Expr) (cpos:Pos):Prop where
 base:attributeBase o m X.env (eval o X.env)=eval o X.env
 few:((backTo cpos (starEach [e] X.env)).all (λx=>!x.1)&&(backToKw cpos (keywordEach [] X.env)).all (λx=>x.1.isSome)
  &&decide (([e]:List Expr).length + ([]:List Keyword).length + (if ([]:List Keyword).isEmpty then 0 else 1) < 30))=true
 line:(apos.endLine == cpos.line)=true
 trees:backTo cpos (starEach [e] X.env)=[(false,eval e X.env)]
def IsD (H:Hp) (a:Addr):Prop:=(∃kvs,Rd H a (.dK kvs))\/∃kvs,Rd H a (.dT kvs)
theorem C9o {X:Cx} {pins:List (Addr×Obj)} {σ:St} {H:Hp} {s:Shared} {a:Addr} (I:Inv X pins σ H s) (d:IsD H a) :
  s.TypeIs (.ref a) "dict" /\(∀b,Value.ref a=.ref b->∃ob,s.heap.get? b=some ob/\ob.dict=none)/\(a == sysModules)=false:=by
 rcases d with ⟨kvs,e⟩ | ⟨kvs,e⟩
 ·obtain⟨_,hd,vs,_,dd⟩:=A47 I.hok e
  refine⟨dd.typeIs,λb q=>?_,hd⟩
  cases q
  obtain⟨ob,_,_,h1,h2,_⟩:=dd
  exact⟨ob,h1,h2.2.1⟩
 ·obtain⟨_,hd,xs,_,dd⟩:=A63 I.hok e
  refine⟨dd.typeIs,λb q=>?_,hd⟩
  cases q
  obtain⟨ob,_,_,h1,h2,_⟩:=dd
  exact⟨ob,h1,h2.2.1⟩
section
variable {X:Cx} {pins:List (Addr×Obj)} {σ:St} {H:Hp} {s:Shared} {a:Addr} {y d:V} {u r:Value} {o:Option V} {A:Around} {E:Value->Shared->Prop}
end
def C9p (td ty:TE):TE:=fun σ H Q=>td σ H λx H1=>∃a,x=.ref a/\IsD H1 a/\ty σ H1 λy H2=>∃kvs k v,H2 a=some (.dK kvs)/\y=kV k/\X1 kvs k=some v/\Q v (upd H2 a (.dK (A1t kvs k)))
section
variable {X:Cx} {o e f:Expr} {apos cpos:Pos} {td ty tx:TE}
theorem C09 (ho:PE X o td) (he:PE X e ty) (m:M1 X o "pop" apos e cpos):PE X (.Call (.Attribute o "pop" apos) [e] [] cpos) (C9p td ty):=by
 intro pins s σ H Q I h
 refine wpAny_Call_method m.base m.few m.line PySem.F.plainAttrs_dict PySem.F.slot_dict_pop PySem.F.type_dict_pop (thn (ho pins s σ H _ I h) λu s1 ⟨x,H1,I1,rx,a,ex,d,q1⟩=>?_)
 subst ex
 obtain rfl:u=Value.ref a:=rx
 obtain⟨t1,t2,_⟩:=C9o I1 d
 refine⟨t1,t2,?_⟩
 rw[m.trees]
 refine Calls.callWith_builtin rfl (Calls.evalArgs_plain (Calls.spliced_cons (thn (he pins s1 σ H1 _ I1 q1) λiv s2 ⟨y,H2,I2,ry,kvs,k,v,ea,ey,l,q2⟩=>Calls.spliced_nil ?_)))
 subst ey
 exact C9e I2 ea ry l (.inl rfl) λw' s3 I3 rw'=>⟨v,_,I3,rw',q2⟩
end
section
variable {X:Cx} {pins:List (Addr×Obj)} {σ:St} {H:Hp} {s:Shared} {a:Addr} {kvs:List (Key×V)} {A:Around} {E:Value->Shared->Prop}
end
section
variable {X:Cx} {pins:List (Addr×Obj)} {σ:St} {H:Hp} {s:Shared} {a:Addr} {y:V} {u:Value} {A:Around} {E:Value->Shared->Prop}
end
section
variable {prog:Program} {w:World} {A:Around} {E:Value->Shared->Prop} {s:Shared}
end
end L2
namespace My
open PySem L2
theorem u1 {n:Nat} (h:n + 64 < cLine):n + 1 < cLine:=by lia
section
variable {C:DC} {col:Addr->Nat} {ρ:List Sl} {σ:St} {P:List Pe} {H H':Hp} {p:Addr}
end
open PySem.Spec PyProof.Rows
section
variable {P:Program} {w:World} {K:A9} {mg:Str->Option Value} {base:Heap}
open Classical in
end
section
variable {X:Cx} {C:DC} {st:Stmt} {e a b:Expr} {te tk:DE} {u:DA} {pos:Pos}
end
end My
namespace My
open PySem L2
mutual
def C9q:PyData->List (List PyData)
 | .list ds=>ds::B45 ds
 | .tuple ds=>B45 ds
 | _=>[]
def B45:List PyData->List (List PyData)
 | []=>[]
 | d::ds=>C9q d++B45 ds
end
mutual
def szD:PyData->Nat
 | .list ds=>szL ds + 1
 | .tuple ds=>szL ds + 1
 | _=>1
def szL:List PyData->Nat
 | []=>0
 | d::ds=>szD d + szL ds
end
section
variable {X:Cx} {C:DC} {st:Stmt} {u:DA}
variable {a b:Expr} {tb:DE} {pos:Pos}
def D7r (neg:Bool) (i:Nat) (tb:DE)  (ρ:List Sl) (Q:PyData->List Sl->Prop):Prop:=bnd (R9 ρ i) λ_=>tb ρ λb ρ1=>bnd (R9 ρ1 i) λa=>gEq neg a b λd=>Q d ρ1
variable {a b:Expr} {tb:DE} {pos:Pos}
end
end My
namespace L2
open PySem PySem.Spec PyProof.Rows
end L2
namespace My
open PySem L2
open PySem.Spec PyProof.Rows
section
variable {C:DC} {col:Addr->Nat} {ρ:List Sl} {σ:L2.St} {P:List Pe} {H H':Hp} {p:Addr}
end
section
variable {X:Cx} {C:DC} {st:Stmt} {e:Expr} {te:DE} {u:DA} {pos:Pos}
def A64 (ρ:List Sl) (Q:PyData->List Sl->Prop):Prop:=Q (.dict []) ρ
end
end My
namespace My
open PySem L2
section
variable {X:Cx} {C:DC} {st:Stmt} {e:Expr} {ta:DE}
end
end My
namespace My
abbrev Ct:=List (List (Option Int))
abbrev Spt:=Nat×Nat
def ca (t:Ct) (s:Spt):Option Int:=gt (t.getD s.1 []) s.2
open PySem L2
def mnI (a b:Int):Int:=if b < a then b else a
def mxI (a b:Int):Int:=if b > a then b else a
theorem C1a {st:Int} {lo g tp c:Int} (h:EOk st (lo,g,tp)):V2 (some (lo,g,tp)) (X0 st c)=if tp + c < 0 then none else some (mxI lo (-c - g),g + c,mnI st (tp + c)):=by
 obtain⟨h1,h2,h3,h4,h5,h6⟩:=h
 simp only at h1 h2 h3 h4 h5 h6
 unfold X0
 by_cases d:st + c < 0
 ·rw[if_pos d,if_pos (OO)];rfl
 ·rw[if_neg d]
  by_cases e:tp + c < 0
  ·rw[if_pos e]
   exact A6x (by show tp < (if -c > 0 then -c else 0);split <;> lia)
  ·rw[if_neg e,A45 (by show ¬ tp < (if -c > 0 then -c else 0);split <;> lia)]
   unfold mxI mnI
   simp only[Option.some.injEq,Prod.mk.injEq]
   refine⟨?_,trivial,?_⟩
   ·repeat' split
    all_goals lia
   ·repeat' split
    all_goals lia
def B1j (e:Ef) (n:Int) (o:Option Int):Option Int:=match e,o with
 | some (lo,g,tp),some x=>if x < lo then none else if n > 1/\g ≥ 0/\mnI (x + g) tp < lo then none else
   if g < 0 then (if n > 1/\mnI (x + (n - 1) * g) (tp + (n - 2) * g) < lo then none else some (mnI (x + n * g) (tp + (n - 1) * g))) else some (mnI (x + n * g) tp)
 | _,_=>none
def itN (st:Int) (cs:List Int):Nat->Option Int->Option Int
 | 0,o=>o
 | n + 1,o=>itN st cs n (wkF st o cs)
theorem A65 {st:Int} {cs:List Int}:∀n,itN st cs n none=none
 | 0=>rfl
 | n + 1=>by
  show itN st cs n (wkF st none cs)=none
  rw[A6y];exact A65 n
theorem A9r {st:Int} {cs:List Int} {lo g tp x y:Int} (fx:fxF st cs=some (lo,g,tp)) (x0:0<=x) (x1:x<=st) (h:wkF st (some x) cs=some y):lo<=x/\y=mnI (x + g) tp:=by
 have w:=A6z x0 x1 cs
 rw[fx,h] at w
 unfold M6 at w
 dsimp only at w
 split at w
 ·cases w
 ·rename_i c
  refine⟨OO,?_⟩
  have:=Option.some.inj w
  rw[<-this]
  unfold mnI
  repeat' split
  all_goals lia
theorem C9r {st:Int} {cs:List Int} {x y:Int} (x0:0<=x) (x1:x<=st) (h:wkF st (some x) cs=some y):∃lo g tp,fxF st cs=some (lo,g,tp)/\EOk st (lo,g,tp):=by
 have w:=A6z x0 x1 cs
 have hok:=C0s (st:=st) OO cs
 cases e:fxF st cs with
 | none=>rw[e,h] at w;cases w
 | some r=>
  rw[e] at hok
  exact⟨r.1,r.2.1,r.2.2,rfl,hok⟩
theorem C1b {st:Int} {cs:List Int} {lo g tp:Int} (fx:fxF st cs=some (lo,g,tp)) (ok:EOk st (lo,g,tp)) (g0:0<=g):∀(n:Nat) {x y:Int},0<=x->x<=st->itN st cs (n + 1) (some x)=some y->lo<=x/\(1<=n->lo<=mnI (x + g) tp)/\y=mnI (x + (((n + 1:Nat)):Int) * g) tp
 | 0,x,y,x0,x1,h=>by
  obtain⟨a,b⟩:=A9r fx x0 x1 (show wkF st (some x) cs=some y from h)
  refine⟨a,λz=>OO,?_⟩
  rw[b];simp
 | n + 1,x,y,x0,x1,h=>by
  have h':itN st cs (n + 1) (wkF st (some x) cs)=some y:=h
  cases e:wkF st (some x) cs with
  | none=>rw[e,A65] at h';cases h'
  | some z=>
   rw[e] at h'
   obtain⟨a,b⟩:=A9r fx x0 x1 e
   obtain⟨o1,o2,o3,o4,o5,o6⟩:=ok
   simp only at o1 o2 o3 o4 o5 o6
   have hz:0<=z/\z<=st:=by rw[b];unfold mnI;split <;> lia
   obtain⟨c1,c2,c3⟩:=C1b fx ⟨o1,o2,o3,o4,o5,o6⟩ g0 n hz.1 hz.2 h'
   refine⟨a,λ_=>by rw[<-b];exact c1,?_⟩
   have e1:(((n + 1 + 1:Nat)):Int) * g=(((n + 1:Nat)):Int) * g + g:=by rw[B25 (n + 1) 1,A8y];simp
   have e0:0<=(((n + 1:Nat)):Int) * g:=B7j OO g0
   rw[c3,b,e1]
   generalize (((n + 1:Nat)):Int) * g=u at *
   unfold mnI
   split <;> split <;> split <;> lia
theorem C1c {st:Int} {cs:List Int} {lo g tp:Int} (fx:fxF st cs=some (lo,g,tp)) (ok:EOk st (lo,g,tp)) (g0:g < 0):∀(n:Nat) {x y:Int},0<=x->x<=st->itN st cs (n + 1) (some x)=some y->lo<=x/\(1<=n->lo<=mnI (x + ((n:Nat):Int) * g) (tp + (((n:Nat):Int) - 1) * g))/\y=mnI (x + (((n + 1:Nat)):Int) * g) (tp + ((n:Nat):Int) * g)
 | 0,x,y,x0,x1,h=>by
  obtain⟨a,b⟩:=A9r fx x0 x1 (show wkF st (some x) cs=some y from h)
  refine⟨a,λz=>OO,?_⟩
  rw[b];simp
 | n + 1,x,y,x0,x1,h=>by
  have h':itN st cs (n + 1) (wkF st (some x) cs)=some y:=h
  cases e:wkF st (some x) cs with
  | none=>rw[e,A65] at h';cases h'
  | some z=>
   rw[e] at h'
   obtain⟨a,b⟩:=A9r fx x0 x1 e
   obtain⟨o1,o2,o3,o4,o5,o6⟩:=ok
   simp only at o1 o2 o3 o4 o5 o6
   have hz:0<=z/\z<=st:=by rw[b];unfold mnI;split <;> lia
   obtain⟨c1,c2,c3⟩:=C1c fx ⟨o1,o2,o3,o4,o5,o6⟩ g0 n hz.1 hz.2 h'
   have e1:(((n + 1 + 1:Nat)):Int) * g=((n:Nat):Int) * g + g + g:=by
    rw[show (((n + 1 + 1:Nat)):Int)=((n:Nat):Int) + 1 + 1 by lia,A8y,A8y];simp
   have e2:(((n + 1:Nat)):Int) * g=((n:Nat):Int) * g + g:=by rw[B25,A8y];simp
   have e3:(((n:Nat):Int) - 1) * g=((n:Nat):Int) * g - g:=by rw[Int.sub_mul];simp
   have e4:((((n + 1:Nat)):Int) - 1) * g=((n:Nat):Int) * g:=by rw[show (((n + 1:Nat)):Int) - 1=((n:Nat):Int) by lia]
   rw[e2] at c3
   rw[e3] at c2
   rw[e1,e2,e4]
   have hn:1<=n\/n=0:=by lia
   have hm:n=0->((n:Nat):Int) * g=0:=λq=>by rw[q];simp
   generalize ((n:Nat):Int) * g=u at *
   refine⟨a,λ_=>?_,?_⟩
   ·rcases hn with q | q
    ·have:=c2 q
     rw[b] at this
     unfold mnI at *
     split at this <;> split at this <;> split <;> lia
    ·have:=hm q
     rw[b] at c1
     unfold mnI at *
     split at c1 <;> split <;> lia
   ·rw[c3,b]
    unfold mnI
    split <;> split <;> split <;> lia
theorem C9s {st:Int} {cs:List Int} {n x y:Int} (h0:0<=x) (h1:x<=st) (n1:1<=n) (h:itN st cs n.toNat (some x)=some y):B1j (fxF st cs) n (some x)=some y/\0<=y/\y<=st:=by
 obtain⟨k,rfl⟩:∃k:Nat,n=(((k + 1:Nat)):Int):=⟨n.toNat - 1,OO⟩
 rw[B0k] at h
 have hw:∃z,wkF st (some x) cs=some z:=by
  cases e:wkF st (some x) cs with
  | none=>
   have h':itN st cs k (wkF st (some x) cs)=some y:=h
   rw[e,A65] at h';cases h'
  | some z=>exact⟨z,rfl⟩
 obtain⟨z,hz⟩:=hw
 obtain⟨lo,g,tp,fx,ok⟩:=C9r h0 h1 hz
 rw[fx]
 have hy:0<=y/\y<=st:=by
  have key:∀(k:Nat) (x:Int),0<=x->x<=st->itN st cs k (some x)=some y->0<=y/\y<=st:=by
   intro k
   induction k with
   | zero=>intro x a b e;cases e;exact⟨a,b⟩
   | succ k ih=>
    intro x a b e
    have e':itN st cs k (wkF st (some x) cs)=some y:=e
    cases q:wkF st (some x) cs with
    | none=>rw[q,A65] at e';cases e'
    | some z=>
     rw[q] at e'
     obtain⟨c1,c2⟩:=A9r fx a b q
     obtain⟨o1,o2,o3,o4,o5,o6⟩:=ok
     simp only at o1 o2 o3 o4 o5 o6
     exact ih z (by rw[c2];unfold mnI;split <;> lia) (by rw[c2];unfold mnI;split <;> lia) e'
  exact key _ x h0 h1 h
 refine⟨?_,hy⟩
 unfold B1j
 dsimp only
 by_cases g0:0<=g
 ·obtain⟨a,b,c⟩:=C1b fx ok g0 k h0 h1 h
  rw[if_neg OO,if_neg (λq=>by have:=b (OO);lia),if_neg OO,c]
 ·obtain⟨a,b,c⟩:=C1c fx ok OO k h0 h1 h
  have e1:(((k + 1:Nat)):Int) - 1=((k:Nat):Int):=by lia
  have e2:(((k + 1:Nat)):Int) - 2=((k:Nat):Int) - 1:=by lia
  rw[if_neg OO,if_neg (λq=>OO),if_pos OO,e1,e2,if_neg (λq=>by have:=b (OO);lia),c]
end My
namespace L2
open PySem PySem.Spec PyProof.Rows
section
variable {X:Cx}
end
end L2
namespace My
open PySem L2
section
variable {C:DC}
end
end My
namespace L2
open PySem PySem.Spec PyProof.Rows
section
variable {X:Cx} {pins:List (Addr×Obj)} {σ:St} {H:Hp} {s:Shared}
end
section
variable {X:Cx}
end
section
variable {prog:Program} {w:World} {K:Type} [DecidableEq K] {knd:HeapKind prog w K} {A:Around} {E:Value->Shared->Prop} {s:Shared}
end
section
variable {X:Cx} {pins:List (Addr×Obj)} {σ:St} {H:Hp} {s:Shared} {a b:Addr} {kvs:List (List Key×V)} {k:List Key} {A:Around} {E:Value->Shared->Prop}
end
section
variable {prog:Program} {w:World} {A:Around} {E:Value->Shared->Prop} {s:Shared}
end
section
variable {prog:Program} {w:World} {A:Around} {R:Result->Shared->Prop} {I:Addr} {fp wr:List Addr} {n:Nat} {P:Nat->Value->Prop} {St:Nat->Heap->Prop}
end
section
variable {X:Cx}
end
theorem C1d:∀{kvs:List (Key×V)} {vs:List (Key×Value)} {ns:List Int} {its:List Value},KV kvs vs->kvs.map (·.1)=ns.map Sum.inl->its.length=vs.length->(∀(j:Nat) (v:Value),its[j]?=some v->∃k x,vs[j]?=some (k,x)/\∀i,k=Sum.inl i->∃t,v=Value.int i t)->D5 (ns.map V.int) its
 | [],[],[],[],_,_,_,_=>.nil
 | [],[],[],_::_,_,_,hl,_=>nomatch hl
 | [],[],_::_,_,_,h,_,_=>nomatch h
 | [],_::_,_,_,h,_,_,_=>nomatch h
 | _::_,[],_,_,h,_,_,_=>nomatch h
 | _::_,_::_,[],_,_,h,_,_=>nomatch h
 | _::_,_::_,_::_,[],_,_,hl,_=>nomatch hl
 | p::kvs,q::vs,n::ns,u::its,h,hk,hl,hp=>by
  obtain⟨k,x,e,e1⟩:=hp 0 u rfl
  cases e
  have h1:p.1=k/\KV kvs vs:=by
   cases h with
   | cons a b=>exact⟨a.1,b⟩
  rw[Q9,Q9] at hk
  injection hk with hk1 hk2
  rw[h1.1] at hk1
  exact .cons (e1 n hk1) (C1d h1.2 hk2 (by simpa using hl) λj v hj=>hp (j + 1) v hj)
section
variable {prog:Program} {w:World} {A:Around} {E:Value->Shared->Prop} {s:Shared} {T:String} {r d:Addr} {n:Nat} {P:Nat->Value->Prop} {OK:Heap->Prop}
theorem C9t {R:List Value->Shared->Prop} (src:PySem.W.KdlSrc prog w T r d n P OK) (calm:A.handled=none) (ok:OK s.heap) (few:n<=sizeLine)
  (k:∀(g:Heap) (t:Nat) (xs:Array Value),(∀b o,s.heap.get? b=some o->g.get? b=some o)->s.heap.objs.size<=g.objs.size->ItemsOf P xs n->R xs.toList { s with heap:=g,toks:=t }) :
  wpAny (model prog w) A (collect (.ref r)) R E s:=by
 obtain⟨lt1,lt2⟩:=src.there _ ok
 unfold collect
 refine wpAny_bind (wpAny_runValue (codeAny_builtin entry_proto_collect' ?_));rw[Around.under_plainId PySem.F.plain_proto_collect _]
 show wpAny _ A.in1 (newList [] >>= λq=>again (.builtin "list.__iadd__" ⟨[q,.ref r],[]⟩)) _ _ s
 refine wpAny_bind (wpAny_newObj_type (wpAny_pure ⟨plainId_quiet PySem.F.plain_list_iadd _,codeAny_builtin entry_list_iadd' ?_⟩))
 rw[Around.under_plainId PySem.F.plain_list_iadd _];show wpAny _ A.in1 (Builtin.List.listExtendWith (.ref s.heap.objs.size) (.ref r) (.ref s.heap.objs.size)) _ _ _
 have base:(s.heap.push { cls:=.type "list",data:=.seq ([]:List Value).toArray }).get? s.heap.objs.size=some { cls:=.type "list",data:=.seq #[] }:=T9 _ rfl
 have walk:=PySem.W.kdl_extend (A:=A) (s:={ s with heap:=s.heap.push { cls:=.type "list",data:=.seq ([]:List Value).toArray } })
  (R:=λ(q:Result) (s':Shared)=>∃(g:Heap) (t:Nat) (xs:Array Value) (c:Nat),q=.ok (.ret (.ref s.heap.objs.size))/\s'={ s with heap:=g,toks:=t }/\(∀b o,s.heap.get? b=some o->g.get? b=some o)/\
   g.get? s.heap.objs.size=some { cls:=.type "list",dict:=none,data:=.seq xs c,slots:=#[] }/\ItemsOf P xs n)
  src calm (src.keep _ _ ok λb _ o z=>O0 _ z) s.heap.objs.size (A5j lt1) (A5j lt2) (.ref s.heap.objs.size) 0 base
  (λg t xs c hk hS hx=>⟨g,t,xs,c,rfl,rfl,λb o z=>hk b o (Q1 (G9 z)) (O0 _ z),hS,hx⟩) few
 have fin:∀{g:Heap} {t:Nat} {xs:Array Value} {c:Nat},(∀b o,s.heap.get? b=some o->g.get? b=some o)->g.get? s.heap.objs.size=some { cls:=.type "list",dict:=none,data:=.seq xs c,slots:=#[] }->ItemsOf P xs n->R xs.toList { s with heap:=g,toks:=t }:=
  λhk hS hx=>k _ _ _ hk (A8o (G9 hS)) hx
 refine wpAny_mono walk (λf s' x=>?_) λe s' x=>by obtain⟨_,_,_,_,z,_⟩:=x;cases z
 cases f with
 | done f=>
  obtain⟨g,t,xs,c,z,rfl,hk,hS,hx⟩:=x
  cases z
  show wpAny _ A (load s.heap.objs.size >>= _) _ _ _;exact wpAny_bind (wpAny_load hS (wpAny_pure (fin hk hS hx)))
 | again c₁=>
  refine⟨x.1,codeAny_mono x.2 λq s₂ y=>?_⟩
  obtain⟨g,t,xs,c,rfl,rfl,hk,hS,hx⟩:=y
  show wpAny _ A (load s.heap.objs.size >>= _) _ _ _;exact wpAny_bind (wpAny_load hS (wpAny_pure (fin hk hS hx)))
end
section
variable {X:Cx}
theorem A66 (hc:X.calm=true):Y9 X (.builtin "sorted") (λxs H Q=>∃(p:Addr) (kvs:List (Key×V)) (ns:List Int),xs=[.ref p]/\H p=some (.dK kvs)/\kvs.map (·.1)=ns.map Sum.inl/\ns.length < 64/\∀(l:Addr) (ms:List Int),H l=none->ms.Perm ns->ms.Pairwise (·<=·)->Q (.ref l) (upd H l (.lst (ms.map V.int)))):=by
 intro pins s σ H xs us Q I r h
 obtain⟨p,kvs,ns,rfl,e,hkeys,hn,q⟩:=h
 obtain⟨u,rfl,rx⟩:=Z2 r
 cases rx
 obtain⟨z,lo,vs,rel,dd⟩:=B1h I.hok e
 obtain⟨ep,hat⟩:=dd.dictAt
 have hh:=I.ok.hd hc
 have ln:kvs.length=ns.length:=by have:=congrArg p7 hkeys;simpa using this
 have lv:vs.length=ns.length:=by rw[<-rel.length,ln]
 refine Calls.call_function_entry kind_sorted plain_sorted entry_sorted (args_sorted1 _) ?_
 unfold Builtin.«sorted»
 refine wpAny_bind (m:=checkCount "sorted" 1 1 _) (wpAny_pure ?_)
 refine wpAny_bind (C9t (A:=X.A.in1) (PySem.W.kdl_dict (knd:=X6 X.prog X.w) (kvs:=vs) (ep:=ep) lo) hh hat (by rw[<-rel.length];exact z) λh' tk acc hk ge hacc=>?_)
 have hl:acc.toList.length=vs.length:=by rw[A8p];exact hacc.1
 have hv:D5 (ns.map V.int) acc.toList:=C1d rel hkeys hl λj v hj=>by
  obtain⟨k,x,e1,e2⟩:=hacc.2 j v (by rw[<-B7f];exact hj)
  refine⟨k,x,e1,λi hi=>?_⟩
  subst hi
  have e2:A13 (Sum.inl i) v=true:=(C4u X.prog X.w (Sum.inl i) v).symm.trans e2
  rcases A0n e2 with ⟨j,t,e3,e4⟩ | ⟨y,t,e3,_⟩
  ·cases e3;exact⟨t,e4⟩
  ·cases e3
 have hi:=B8l hv
 have h64:acc.toList.length < 64:=by rw[hl,lv];exact hn
 refine wpAny_bind (wpAny_newList ?_ (by rw[hl,<-rel.length];exact z))
 have hoL:(h'.push (seqObj "list" acc.toList.toArray 0)).get? h'.objs.size=some (seqObj "list" acc.toList.toArray 0):=T9 _ rfl
 refine wpAny_bind (wpAny_holding (wpAny_call_entry slot_list_sort ⟨_,hoL,rfl⟩ entry_list_sort (list_sort_tree hoL hi h64 λout ms a1 a2 a3=>⟨_,rfl,?_⟩) (args_list_sort _)))
 refine wpAny_pure ⟨_,rfl,?_⟩
 have hk2:∀b o,s.heap.get? b=some o->(sortedHeap (h'.push (seqObj "list" acc.toList.toArray 0)) h'.objs.size acc.toList out).get? b=some o:=λb o z=>by
  have z':=hk b o z
  have lt:=G9 z'
  rw[sortedHeap_old (Q1 lt) (by rw[size_push'];exact Nat.lt_succ_of_lt lt)]
  exact O0 _ z'
 obtain⟨en,he⟩:=sortedHeap_at (out:=out) hoL
 have hv2:D5 (ms.map V.int) out.toList:=B3r a1
 refine⟨.ref h'.objs.size,_,I.laid (t':=tk) hk2 ge (show N5 X.prog X.w _ _ _ (.lst (ms.map V.int)) from ⟨?_,out.toList,en,hv2,by simpa [seqObj] using he⟩),rfl,q _ ms (I.hok.fresh ge) a2 a3⟩
 rw[C6,a2.length_eq,sizeLine_eq]
 lia
theorem C9u:Y9 X (.type "dict") (λxs H Q=>∃(p:Addr) (kvs:List (Key×V)),xs=[.ref p]/\H p=some (.dK kvs)/\∀l,H l=none->Q (.ref l) (upd H l (.dK kvs))):=by
 intro pins s σ H xs us Q I r h
 obtain⟨p,kvs,rfl,e,q⟩:=h
 obtain⟨u,rfl,rx⟩:=Z2 r
 cases rx
 obtain⟨z,lo,vs,rel,dd⟩:=B1h I.hok e
 refine kt_call_dict lo dd (by rw[<-rel.length];exact z) λh' hm hs=>?_
 have hk:∀b o,s.heap.get? b=some o->h'.get? b=some o:=λb o y=>by
  have lt:=G9 y
  rw[hs.2 b (Q1 lt)]
  exact O0 _ y
 refine⟨.ref s.heap.objs.size,_,I.laid (t':=s.toks) hk (F9 _) (show N5 X.prog X.w _ _ _ (.dK kvs) from ⟨z,?_,vs,rel,hm⟩),rfl,q _ (I.hok.fresh (F9 _))⟩
 exact beq_eq_false_iff_ne.mpr (A5j I.big)
theorem C9v:Y9 X (.builtin "len") (λxs H Q=>∃a kvs,xs=[V.ref a]/\H a=some (.dK kvs)/\Q (.int kvs.length) H):=by
 intro pins s σ H xs us Q I r h
 obtain⟨a,kvs,rfl,ha,q⟩:=h
 obtain⟨u,rfl,ru⟩:=Z2 r
 cases ru
 exact C9f I (.inl ha) λt s' I'=>⟨.int kvs.length,H,I',⟨t,rfl⟩,q⟩
end
end L2
namespace My
open PySem L2
open PySem.Spec PyProof.Rows
mutual
def j1:PyData->Bool
 | .none=>true
 | .bool _=>true
 | .int _=>true
 | .str _=>true
 | .tuple xs=>A2y xs
 | .list _=>false
 | .dict _=>false
def A2y:List PyData->Bool
 | []=>true
 | d::ds=>j1 d&&A2y ds
end
open Classical in
section
variable {X:Cx} {C:DC} {e a b:Expr} {es:List Expr} {t ta tb te:DE} {u:DA} {pos:Pos} {st:Stmt} {tg:Expr}
def A67 (i:Nat) (ρ:List Sl) (Q:PyData->List Sl->Prop):Prop:=bnd (A4n ρ i) λd=>Q d ρ
def A68 (ta tb:DE)  (ρ:List Sl) (Q:PyData->List Sl->Prop):Prop:=ta ρ λa ρ1=>tb ρ1 λb ρ2=>bnd (ixD a b) λd=>Q d ρ2
def A69 (t:DE)  (ρ:List Sl) (Q:PyData->List Sl->Prop):Prop:=t ρ λd ρ'=>j1 d=true/\Q d ρ'
def A7a (t:DE)  (ρ:List Sl) (Q:PyData->List Sl->Prop):Prop:=t ρ λd ρ'=>bnd (lenD d) λn=>Q (.int n) ρ'
def A7b (t:DE) (T:String)  (ρ:List Sl) (Q:PyData->List Sl->Prop):Prop:=t ρ λa ρ'=>Q (.bool (Z4 T a)) ρ'
def A7c (neg:Bool) (t:DE)  (ρ:List Sl) (Q:PyData->List Sl->Prop):Prop:=t ρ λa ρ'=>Q (.bool (if neg then !isN a else isN a)) ρ'
def A7d (t:DE)  (ρ:List Sl) (Q:List PyData->List Sl->Prop):Prop:=t ρ λd ρ'=>bnd (A03 d) λds=>A2y ds=true/\Q ds ρ'
def dIL (t:DE)  (ρ:List Sl) (Q:List PyData->List Sl->Prop):Prop:=t ρ λd ρ'=>bnd (O1 d) λxs=>A2y xs=true/\Q xs ρ'
def C1e (t:DE)  (ρ:List Sl) (Q:List PyData->List Sl->Prop):Prop:=t ρ λd ρ'=>bnd (O1 d) λxs=>A2y xs=true/\Q (y7 xs) ρ'
def aW (t:DE) (u:DA)  (ρ:List Sl) (Q:List Ar->List Sl->Prop):Prop:=t ρ λd ρ1=>u ρ1 λas ρ2=>Q (.w d::as) ρ2
end
end My
namespace My
open PySem L2
def C1f (C:DC) (col:Addr->Nat) (i:Nat) (b:Addr):Prop:=col b=2 * i + 3/\C.H0 b=none
open Classical in
noncomputable def ldC (C:DC) (col:Addr->Nat) (H:Hp) (i:Nat):DC:=⟨λb=>C.F b/\¬ C1f C col i b,C.hand,λb=>if C1f C col i b\/(∃xs,H b=some (.tup xs)) then H b else C.H0 b⟩
def S0:List Sl->Bool
 | []=>true
 | .b2 _::_=>false
 | .no::r=>S0 r
 | .sh _::r=>S0 r
 | .ow _::r=>S0 r
 | .bo _::r=>S0 r
 | .hd::r=>S0 r
 | .o2 _::r=>S0 r
 | .di _ _::r=>S0 r
 | .dm _ _::r=>S0 r
 | .bd _::r=>S0 r
 | .ot _::r=>S0 r
 | .ob _::r=>S0 r
section
variable {C:DC} {col col2:Addr->Nat} {ρ:List Sl} {σ:L2.St} {P:List Pe} {H H2:Hp} {i:Nat} {d:PyData}
open Classical in
open Classical in
end
section
variable {X:Cx} {C:DC} {e:Expr} {st:Stmt} {t te:DE} {u:DA} {i:Nat}
def A7e (i:Nat) (t:DE)  (ρ:List Sl) (Q:PyData->List Sl->Prop):Prop:=match ρ[i]? with
 | some (.ot d)=>S0 ρ=true/\t (ρ.set i (.bd d)) λd' ρ'=>ρ'=ρ.set i (.bd d)/\Q d' ρ
 | _=>t ρ Q
def A0b:List Md->List PyData->Bool
 | [],[]=>true
 | .sh::ms,d::ds=>j1 d&&A0b ms ds
 | .bo::ms,.list es::ds=>A2y es&&A0b ms ds
 | .bd::ms,_::ds=>A0b ms ds
 | .hd::ms,_::ds=>A0b ms ds
 | _,_=>false
def A7f (i:Nat) (ms:List Md) (sp:DSp) (u:DA)  (D:O2) (ρ:List Sl):Prop:=u ρ λas ρ'=>bnd (U3 ρ' ms as) λds=>A0b ms ds=true/\sp ds λd=>D.nx (ρ'.set i (.ot d))
open Classical in
mutual
def C9w:PyData->PyData
 | .tuple xs=>.tuple (A7g xs)
 | .list _=>.list []
 | .none=>.none
 | .bool b=>.bool b
 | .int i=>.int i
 | .str s=>.str s
 | .dict d=>.dict d
def A7g:List PyData->List PyData
 | []=>[]
 | d::ds=>C9w d::A7g ds
end
def A7h (i:Nat) (c:Int) (te:DE) (D:O2) (ρ:List Sl):Prop:=match ρ[i]? with
 | some (.ot (.tuple xs))=>S0 ρ=true/\match atI xs c with
  | some (.list ds)=>(A2y ds=true/\ds.length<=100000)/\te (ρ.set i (.bd (.tuple xs))) λd' ρ'=>ρ'=ρ.set i (.bd (.tuple xs))/\j1 d'=true/\∀xs',A7g xs'=A7g xs->D.nx (ρ.set i (.ot (.tuple xs')))
  | _=>False
 | _=>False
open Classical in
def A7i (i:Nat) (c:Int) (te:DE) (D:O2) (ρ:List Sl):Prop:=match ρ[i]? with
 | some (.ot (.tuple xs))=>S0 ρ=true/\match atI xs c with
  | some (.list ds)=>ds.length<=100000/\te (ρ.set i (.bd (.tuple xs))) λd' ρ'=>ρ'=ρ.set i (.bd (.tuple xs))/\D.nx (ρ.set i .no)
  | _=>False
 | _=>False
open Classical in
def A7j (i:Nat) (c:Int) (D:O2) (ρ:List Sl):Prop:=match ρ[i]? with
 | some (.ot (.tuple xs))=>match atI xs c with
  | some (.list _)=>∀xs',A7g xs'=A7g xs->D.nx (ρ.set i (.ot (.tuple xs')))
  | _=>False
 | _=>False
end
end My
namespace L2
open PySem PySem.Spec PyProof.Rows
section
variable {X:Cx}
end
end L2
namespace My
open PySem L2
section
variable {X:Cx} {C:DC} {a b:Expr} {te:DE} {pos:Pos} {i:Nat}
def A7k (te:DE) (i:Nat) (ρ:List Sl) (Q:PyData->List Sl->Prop):Prop:=te ρ λd ρ1=>bnd (R9 ρ1 i) λa=>bnd (O1 a) λxs=>(PyData.canLayAll0 xs=true/\d.canLay0=true/\d.depth<=60)/\Q (.bool (!(xs.any λz=>PyData.eqv z d))) ρ1
end
section
variable {X:Cx} {C:DC} {e a b:Expr} {t:DE} {tt:DT} {i:Nat} {pos:Pos}
def A7l (i:Nat) (tt:DT)  (ρ:List Sl) (Q:Bool->List Sl->Prop):Prop:=match ρ[i]? with
 | some (.ot d)=>S0 ρ=true/\tt (ρ.set i (.bd d)) λb ρ'=>ρ'=ρ.set i (.bd d)/\Q b ρ
 | _=>tt ρ Q
end
section
variable {X:Cx} {C:DC} {e:Expr} {u:DA} {i:Nat}
def arS (ρ:List Sl) (i:Nat) (m:Md) (a:Ar):Option PyData:=match m,a with
 | .sh,.s j=>if j=i then (match ρ[i]? with
  | some (.ot d)=>some d
  | _=>none) else none
 | m,a=>arD ρ m a
def A2z (ρ:List Sl) (i:Nat):List Md->List Ar->Option (List PyData)
 | [],[]=>some []
 | m::ms,a::as=>(arS ρ i m a).bind λd=>(A2z ρ i ms as).map (d::·)
 | _,_=>none
def A7m (i:Nat) (ms:List Md) (sp:DSp) (u:DA)  (ρ:List Sl) (Q:PyData->List Sl->Prop):Prop:=u ρ λas ρ'=>bnd (A2z ρ' i ms as) λds=>sp ds λd=>j1 d=true/\Q d ρ'
end
section
variable {C:DC} {col:Addr->Nat} {ρ:List Sl} {σ:St} {P:List Pe} {H H':Hp} {p:Addr}
end
section
variable {X:Cx} {C:DC} {st:Stmt} {e a b:Expr} {te tk:DE} {pos:Pos}
theorem B2.lenD {F:Addr->Prop} {H:Hp}:∀{vs:List V} {ds:List PyData},B2 F H vs ds->vs.length=ds.length
 | _,_,.nil=>rfl
 | _,_,.cons _ t=>by rw[J8,J8,B2.lenD t]
end
section
variable {X:Cx} {C:DC} {st:Stmt}
end
section
variable {X:Cx} {C:DC} {st:Stmt} {i j:Nat}
end
section
variable {X:Cx} {C:DC} {e:Expr} {te tp tl:DE} {i:Nat}
open Classical in
end
open PySem.Spec
section
variable {X:Cx} {C:DC} {a st:Expr} {pos:Pos}
end
section
variable {X:Cx} {C:DC}
end
mutual
def okS:PyData->Bool
 | .none=>true
 | .bool _=>true
 | .int _=>true
 | .str _=>true
 | .tuple xs=>B46 xs
 | .list xs=>B46 xs
 | .dict ks=>ks.isEmpty
def B46:List PyData->Bool
 | []=>true
 | d::ds=>okS d&&B46 ds
end
section
variable {X:Cx} {pins:List (Addr×Obj)} {σ:St} {H:Hp} {s:Shared} {F:Addr->Prop}
end
section
variable {C:DC}
end
open PyProof.Rows
section
variable {X:Cx} {C:DC} {st:Stmt} {i:Nat}
open Classical in
end
section
variable {X:Cx} {C:DC} {a b:Expr} {tl tb:DE} {pos:Pos}
end
mutual
inductive FpV (F:Addr->Prop) (H:Hp):V->PyData->List Addr->Prop
 | non:FpV F H .non .none []
 | bl (b):FpV F H (.bl b) (.bool b) []
 | int (i):FpV F H (.int i) (.int i) []
 | str (x):FpV F H (.str x) (.str x) []
 | lst {a xs ds fp}:F a->H a=some (.lst xs)->W1 F H xs ds fp->FpV F H (.ref a) (.list ds) (a::fp)
 | tup {a xs ds fp}:F a->H a=some (.tup xs)->W1 F H xs ds fp->FpV F H (.ref a) (.tuple ds) fp
inductive W1 (F:Addr->Prop) (H:Hp):List V->List PyData->List Addr->Prop
 | nil:W1 F H [] [] []
 | cons {x xs d ds fp fps}:FpV F H x d fp->W1 F H xs ds fps->W1 F H (x::xs) (d::ds) (fp++fps)
end
mutual
theorem FpV.th {F:Addr->Prop} {H:Hp}:∀{v:V} {d:PyData} {fp:List Addr},FpV F H v d fp->ThV F H v d
 | _,_,_,.non=>.non
 | _,_,_,.bl b=>.bl b
 | _,_,_,.int i=>.int i
 | _,_,_,.str x=>.str x
 | _,_,_,.lst n e t=>.lst n e (W1.th t)
 | _,_,_,.tup n e t=>.tup n e (W1.th t)
theorem W1.th {F:Addr->Prop} {H:Hp}:∀{vs:List V} {ds:List PyData} {fp:List Addr},W1 F H vs ds fp->B2 F H vs ds
 | _,_,_,.nil=>.nil
 | _,_,_,.cons x t=>.cons (FpV.th x) (W1.th t)
end
mutual
theorem FpV.mvm {F G:Addr->Prop} {H H':Hp}:∀{v:V} {d:PyData} {fp:List Addr},FpV F H v d fp->(∀b o,F b->H b=some o->(b∈fp\/∃xs,o=.tup xs)->G b/\H' b=some o)->FpV G H' v d fp
 | _,_,_,.non,_=>.non
 | _,_,_,.bl b,_=>.bl b
 | _,_,_,.int i,_=>.int i
 | _,_,_,.str x,_=>.str x
 | _,_,_,.lst n e t,f=>
  have q:=f _ _ n e (.inl D9)
  .lst q.1 q.2 (W1.mvm t λb o z e h=>f b o z e (h.imp (D3 _) id))
 | _,_,_,.tup n e t,f=>
  have q:=f _ _ n e (.inr ⟨_,rfl⟩)
  .tup q.1 q.2 (W1.mvm t f)
theorem W1.mvm {F G:Addr->Prop} {H H':Hp}:∀{vs:List V} {ds:List PyData} {fp:List Addr},W1 F H vs ds fp->(∀b o,F b->H b=some o->(b∈fp\/∃xs,o=.tup xs)->G b/\H' b=some o)->W1 G H' vs ds fp
 | _,_,_,.nil,_=>.nil
 | _,_,_,.cons x t,f=>.cons (FpV.mvm x λb o z e h=>f b o z e (h.imp (λh=>A0g.mpr (.inl h)) id)) (W1.mvm t λb o z e h=>f b o z e (h.imp (λh=>A0g.mpr (.inr h)) id))
end
def trR (d:PyData):B31 where
 p:=λW H v=>∃fp,FpV W H v d fp/\fp.Nodup
 mv:=λf ⟨fp,t,n⟩=>⟨fp,t.mvm λb o z e _=>f b o z e,n⟩
section
variable {C:DC} {col col2:Addr->Nat} {ρ:List Sl} {σ:L2.St} {P:List Pe} {H H2:Hp} {i:Nat} {d:PyData} {R:B31}
open Classical in
open Classical in
end
section
variable {X:Cx} {C:DC} {e:Expr} {es:List Expr} {st:Stmt} {t te:DE} {tt:DT} {u:DA} {i:Nat}
def A7n (i:Nat) (t:DE)  (ρ:List Sl) (Q:PyData->List Sl->Prop):Prop:=match ρ[i]? with
 | some (.ob R)=>∃d,R=trR d/\S0 ρ=true/\t (ρ.set i (.bd d)) λd' ρ'=>ρ'=ρ.set i (.bd d)/\Q d' ρ
 | _=>t ρ Q
def A7o (i:Nat) (tt:DT)  (ρ:List Sl) (Q:Bool->List Sl->Prop):Prop:=match ρ[i]? with
 | some (.ob R)=>∃d,R=trR d/\S0 ρ=true/\tt (ρ.set i (.bd d)) λb ρ'=>ρ'=ρ.set i (.bd d)/\Q b ρ
 | _=>tt ρ Q
def arF (ρ:List Sl) (m:Md) (a:Ar):Option PyData:=match m,a with
 | .sh,.w d=>some d
 | .sh,.s i=>match ρ[i]? with
  | some (.bd d)=>some d
  | some (.sh d)=>some d
  | _=>none
 | m,a=>arD ρ m a
def A20 (ρ:List Sl):List Md->List Ar->Option (List PyData)
 | [],[]=>some []
 | m::ms,a::as=>(arF ρ m a).bind λd=>(A20 ρ ms as).map (d::·)
 | _,_=>none
def A7p (ms:List Md) (sp:DSp) (u:DA)  (ρ:List Sl) (Q:PyData->List Sl->Prop):Prop:=u ρ λas ρ'=>bnd (A20 ρ' ms as) λds=>sp ds λd=>j1 d=true/\Q d ρ'
open Classical in
def A7q (i:Nat) (ms:List Md) (sp:DSp) (u:DA)  (D:O2) (ρ:List Sl):Prop:=u ρ λas ρ'=>bnd (U3 ρ' ms as) λds=>sp ds λd=>D.nx (ρ'.set i (.ob (trR d)))
end
section
variable {X:Cx} {C:DC} {tg e:Expr} {t:DE} {st:Stmt} {i:Nat}
def C1g (t:DE)  (ρ:List Sl) (Q:List PyData->List Sl->Prop):Prop:=t ρ λd ρ'=>bnd (O1 d) λxs=>Q xs.reverse ρ'
def C1h (t:DE)  (ρ:List Sl) (Q:List PyData->List Sl->Prop):Prop:=t ρ λd ρ'=>bnd (O1 d) λxs=>Q xs ρ'
def A7r (i:Nat) (t:DE) (D:O2) (ρ:List Sl):Prop:=t ρ λd ρ'=>D.nx (ρ'.set i (.bd d))
def C1i (it:DF) (i:Nat) (tb:DS) (D:O2) (ρ:List Sl):Prop:=it ρ λxs ρ1=>∃I:List PyData->List Sl->Prop,I xs ρ1/\(∀x r ρ,I (x::r) ρ->Blk tb { nx:=I r,ct:=I r,bk:=D.nx,rt:=D.rt } (ρ.set i (.bd x)))/\∀ρ,I [] ρ->D.nx ρ
end
section
variable {X:Cx} {C:DC} {st:Stmt} {i j ia ib:Nat}
def A7s (i j:Nat) (D:O2) (ρ:List Sl):Prop:=match ρ[i]?,ρ[j]? with
 | some (.ob R),some (.sh (.int z))=>∃(ds ps:List PyData) (s:PyData) (k:Nat),R=trR (.list ds)/\z=(k:Nat)/\ds[k]?=some (.tuple [s,.list ps])/\D.nx (ρ.set i (.ob (trR (.list (ds.set k (.tuple [s,.list []]))))))
 | _,_=>False
def PtA (n:Nat) (p:PyData):Prop:=∃es t,p=.tuple [.list es,t]/\A2y es=true/\j1 t=true/\es.length<=n
def A7t (i j ia ib:Nat) (D:O2) (ρ:List Sl):Prop:=match ρ[i]?,ρ[j]? with
 | some (.ob R),some (.sh (.int z))=>∃(ds ps:List PyData) (s:PyData) (k:Nat),R=trR (.list ds)/\z=(k:Nat)/\ds[k]?=some (.tuple [s,.list ps])/\(∀p∈ps,PtA 1000 p)/\ps.length<=1000/\((i≠ia/\i≠ib/\ia≠ib)/\i < ρ.length/\ia < ρ.length/\ib < ρ.length)/\
  ∀ps':List PyData,ps'.length=ps.length->D.nx (((ρ.set ia .no).set ib .no).set i (.ob (trR (.list (ds.set k (.tuple [s,.list ps']))))))
 | _,_=>False
end
end My
namespace My
open PySem L2
theorem M2 {us:List Value} {n:Nat} (h:us.length=n + 1):∃a r,us=a::r/\r.length=n:=by
 cases us with
 | nil=>cases h
 | cons a r=>exact⟨a,r,rfl,Nat.succ.inj h⟩
theorem D7s {us:List Value} (h:us.length=0):us=[]:=by
 cases A3i h
 exact rfl
theorem S1 {us:List Value} (h:us.length=1):∃a0,us=[a0]:=by
 obtain⟨a0,u0,rfl,h0⟩:=M2 h
 cases A3i h0
 exact⟨a0,rfl⟩
theorem N1 {us:List Value} (h:us.length=2):∃a0 a1,us=[a0,a1]:=by
 obtain⟨a0,u0,rfl,h0⟩:=M2 h
 obtain⟨a1,u1,rfl,h1⟩:=M2 h0
 cases A3i h1
 exact⟨a0,a1,rfl⟩
theorem S9 {us:List Value} (h:us.length=3):∃a0 a1 a2,us=[a0,a1,a2]:=by
 obtain⟨a0,u0,rfl,h0⟩:=M2 h
 obtain⟨a1,u1,rfl,h1⟩:=M2 h0
 obtain⟨a2,u2,rfl,h2⟩:=M2 h1
 cases A3i h2
 exact⟨a0,a1,a2,rfl⟩
theorem A08 {us:List Value} (h:us.length=4):∃a0 a1 a2 a3,us=[a0,a1,a2,a3]:=by
 obtain⟨a0,u0,rfl,h0⟩:=M2 h
 obtain⟨a1,u1,rfl,h1⟩:=M2 h0
 obtain⟨a2,u2,rfl,h2⟩:=M2 h1
 obtain⟨a3,u3,rfl,h3⟩:=M2 h2
 cases A3i h3
 exact⟨a0,a1,a2,a3,rfl⟩
theorem C1j {us:List Value} (h:us.length=5):∃a0 a1 a2 a3 a4,us=[a0,a1,a2,a3,a4]:=by
 obtain⟨a0,u0,rfl,h0⟩:=M2 h
 obtain⟨a1,u1,rfl,h1⟩:=M2 h0
 obtain⟨a2,u2,rfl,h2⟩:=M2 h1
 obtain⟨a3,u3,rfl,h3⟩:=M2 h2
 obtain⟨a4,u4,rfl,h4⟩:=M2 h3
 cases A3i h4
 exact⟨a0,a1,a2,a3,a4,rfl⟩
theorem D7t {us:List Value} (h:us.length=6):∃a0 a1 a2 a3 a4 a5,us=[a0,a1,a2,a3,a4,a5]:=by
 obtain⟨a0,u0,rfl,h0⟩:=M2 h
 obtain⟨a1,u1,rfl,h1⟩:=M2 h0
 obtain⟨a2,u2,rfl,h2⟩:=M2 h1
 obtain⟨a3,u3,rfl,h3⟩:=M2 h2
 obtain⟨a4,u4,rfl,h4⟩:=M2 h3
 obtain⟨a5,u5,rfl,h5⟩:=M2 h4
 cases A3i h5
 exact⟨a0,a1,a2,a3,a4,a5,rfl⟩
theorem D7u {us:List Value} (h:us.length=7):∃a0 a1 a2 a3 a4 a5 a6,us=[a0,a1,a2,a3,a4,a5,a6]:=by
 obtain⟨a0,u0,rfl,h0⟩:=M2 h
 obtain⟨a1,u1,rfl,h1⟩:=M2 h0
 obtain⟨a2,u2,rfl,h2⟩:=M2 h1
 obtain⟨a3,u3,rfl,h3⟩:=M2 h2
 obtain⟨a4,u4,rfl,h4⟩:=M2 h3
 obtain⟨a5,u5,rfl,h5⟩:=M2 h4
 obtain⟨a6,u6,rfl,h6⟩:=M2 h5
 cases A3i h6
 exact⟨a0,a1,a2,a3,a4,a5,a6,rfl⟩
theorem D7v {us:List Value} (h:us.length=8):∃a0 a1 a2 a3 a4 a5 a6 a7,us=[a0,a1,a2,a3,a4,a5,a6,a7]:=by
 obtain⟨a0,u0,rfl,h0⟩:=M2 h
 obtain⟨a1,u1,rfl,h1⟩:=M2 h0
 obtain⟨a2,u2,rfl,h2⟩:=M2 h1
 obtain⟨a3,u3,rfl,h3⟩:=M2 h2
 obtain⟨a4,u4,rfl,h4⟩:=M2 h3
 obtain⟨a5,u5,rfl,h5⟩:=M2 h4
 obtain⟨a6,u6,rfl,h6⟩:=M2 h5
 obtain⟨a7,u7,rfl,h7⟩:=M2 h6
 cases A3i h7
 exact⟨a0,a1,a2,a3,a4,a5,a6,a7,rfl⟩
def top (i:Nat):Stmt:=PySem.Challenge.pw_trudge_k92_whole_as_told_at_once.main.body.getD i (.Pass ⟨0,0,0,0⟩)
abbrev B47:Stmt:=top 11
abbrev B48:Stmt:=top 12
abbrev B49:Stmt:=top 13
abbrev B5a:Stmt:=top 14
abbrev B5b:Stmt:=top 15
abbrev B5c:Stmt:=top 23
abbrev B5d:Stmt:=top 24
abbrev B5e:Stmt:=top 25
abbrev B1k:Stmt:=top 26
abbrev B1l:Stmt:=top 27
abbrev B1m:Stmt:=top 28
abbrev B1n:Stmt:=top 30
abbrev B5f:Stmt:=top 31
abbrev B5g:Stmt:=top 32
abbrev B5h:Stmt:=top 34
abbrev B5i:Stmt:=top 39
abbrev B5j:Stmt:=top 40
abbrev B5k:Stmt:=top 41
abbrev B5l:Stmt:=top 42
abbrev B5m:Stmt:=top 43
abbrev B5n:Stmt:=top 49
abbrev B5o:Stmt:=top 50
abbrev B5p:Stmt:=top 51
abbrev B5q:Stmt:=top 55
abbrev B5r:Stmt:=top 56
abbrev B5s:Stmt:=top 57
abbrev B1o:Stmt:=top 58
abbrev B5t:Stmt:=top 60
abbrev B5u:Stmt:=top 61
abbrev B1p:Stmt:=top 62
abbrev B1q:Stmt:=top 63
abbrev B5v:Stmt:=top 64
abbrev B5w:Stmt:=top 65
abbrev B1r:Stmt:=top 66
abbrev A7u:Stmt:=top 67
abbrev B1s:Stmt:=top 69
abbrev B1t:Stmt:=top 70
abbrev B1u:Stmt:=top 72
abbrev A7v:Stmt:=top 73
abbrev B1v:Stmt:=top 75
abbrev B5x:Stmt:=top 79
abbrev B5y:Stmt:=top 80
abbrev B5z:Stmt:=top 82
abbrev B50:Stmt:=top 83
abbrev A7w:Stmt:=top 84
abbrev B51:Stmt:=top 87
abbrev B1w:Stmt:=top 88
abbrev A7x:Stmt:=Y0 (top 89) 0
abbrev A7y:Stmt:=Y0 (top 89) 1
abbrev A7z:Stmt:=Y0 (top 89) 2
abbrev A70:Stmt:=Y0 (top 89) 3
abbrev A71:Stmt:=Y0 (top 89) 4
abbrev A72:Stmt:=Y0 (top 89) 5
abbrev A73:Stmt:=Y0 (top 89) 6
abbrev A74:Stmt:=Y0 (top 89) 7
abbrev A75:Stmt:=Y0 (top 89) 8
abbrev A76:Stmt:=Y0 (top 89) 9
abbrev A77:Stmt:=Y0 (top 89) 10
abbrev A48:Stmt:=Y0 (top 89) 11
abbrev A78:Stmt:=Y0 (top 89) 12
abbrev A79:Stmt:=Y0 (top 89) 13
abbrev A8a:Stmt:=Y0 (top 89) 14
abbrev A8b:Stmt:=Y0 (top 89) 15
abbrev B52:Stmt:=top 91
abbrev B53:Stmt:=top 92
abbrev B54:Stmt:=top 93
abbrev B55:Stmt:=top 94
abbrev B56:Stmt:=top 95
abbrev B57:Stmt:=top 96
abbrev B58:Stmt:=top 97
abbrev B1x:Stmt:=top 98
abbrev B59:Stmt:=top 99
abbrev B6a:Stmt:=top 100
abbrev B6b:Stmt:=top 101
abbrev B6c:Stmt:=top 102
abbrev B6d:Stmt:=top 103
abbrev B1y:Stmt:=top 104
abbrev B1z:Stmt:=top 105
abbrev B6e:Stmt:=top 106
abbrev B6f:Stmt:=top 107
abbrev B10:Stmt:=top 108
abbrev B11:Stmt:=top 109
abbrev B6g:Stmt:=top 110
abbrev B6h:Stmt:=top 111
abbrev B12:Stmt:=top 112
abbrev B6i:Stmt:=top 113
abbrev B13:Stmt:=top 114
abbrev A1u:Stmt:=top 115
structure FT (K:A9) (mg:Str->Option Value) (nm:Str) (st:Stmt) (ps:List Str) where
 a:Addr
 d:FuncData
 F:Fun K nm nm st a d
 m:mg nm=some (.ref a)
 b:P8 K d ps []
def FH (K:A9) (nm:Str) (st:Stmt):Prop:=∃f,K0 K mainGlobals nm=some (some (.ref f))/\∃fd,Fun K nm nm st f fd
theorem FT.of {K:A9} {mg:Str->Option Value} {nm:Str} {st:Stmt} {ps:List Str} {h:Heap} (X:K.In h) (G:h.Ns mainGlobals mg) (H:FH K nm st) (hb:∀(kV doc pm:Value) (an:Option Addr) (cdv ct:Value) (us:List Value),us.length=ps.length->bindArgs (P6 nm nm (P9 st) (P0 st) (B1 st) .none kV doc pm an cdv ct) ⟨us,[]⟩=pure (ps.zip us)):Nonempty (FT K mg nm st ps):=by
 obtain⟨f,a,fd,F⟩:=H
 exact⟨⟨f,fd,F,Q5 X G a,F.binds hb⟩⟩
set_option genInjectivity false in
set_option genSizeOf false in
structure Txt (K:A9) (mg:Str->Option Value) where
 nB:mg "abs" = none
 nC:mg "all" = none
 lL:mg "bool" = none
 pf:mg "dict" = none
 fJ:mg "enumerate" = none
 lJ:mg "int" = none
 au:mg "isinstance" = none
 aN:mg "len" = none
 aD:mg "list" = none
 dP:mg "max" = none
 cN:mg "min" = none
 cj:mg "range" = none
 cO:mg "reversed" = none
 cx:mg "sorted" = none
 iZ:mg "tuple" = none
 ac:Addr
 hZ:mg "Keeper" = some (.ref ac)
 ae:Cls K ac
 eA:p9 K ac "many"
 cK:p9 K ac "full"
 bU:p9 K ac "wanted"
 bi:p9 K ac "laid"
 bV:p9 K ac "lowest"
 eC:Addr
 gc:FuncData
 jy:Fun K "__init__" "Keeper.__init__" A7x eC gc
 ph:U8 K ac "__init__" eC
 ja:Addr
 jb:FuncData
 kG:Fun K "lay" "Keeper.lay" A7y ja jb
 jz:U8 K ac "lay" ja
 gh:Addr
 gi:FuncData
 jA:Fun K "lift" "Keeper.lift" A7z gh gi
 kR:U8 K ac "lift" gh
 gj:Addr
 gk:FuncData
 jB:Fun K "turn" "Keeper.turn" A70 gj gk
 kS:U8 K ac "turn" gj
 dQ:Addr
 dR:FuncData
 gm:Fun K "refill" "Keeper.refill" A71 dQ dR
 jq:U8 K ac "refill" dQ
 jc:Addr
 jd:FuncData
 kI:Fun K "aim" "Keeper.aim" A72 jc jd
 jC:U8 K ac "aim" jc
 eZ:Addr
 fb:FuncData
 ic:Fun K "found" "Keeper.found" A73 eZ fb
 gp:U8 K ac "found" eZ
 fc:Addr
 ff:FuncData
 ie:Fun K "moved" "Keeper.moved" A74 fc ff
 ck:U8 K ac "moved" fc
 gq:Addr
 gr:FuncData
 jD:Fun K "ways" "Keeper.ways" A75 gq gr
 kT:U8 K ac "ways" gq
 fg:Addr
 fh:FuncData
 ig:Fun K "store" "Keeper.store" A76 fg fh
 jU:U8 K ac "store" fg
 gu:Addr
 gz:FuncData
 jE:Fun K "goal" "Keeper.goal" A77 gu gz
 kU:U8 K ac "goal" gu
 gA:Addr
 gB:FuncData
 jF:Fun K "land" "Keeper.land" A48 gA gB
 cL:U8 K ac "land" gA
 fj:Addr
 fm:FuncData
 ii:Fun K "least" "Keeper.least" A78 fj fm
 jV:U8 K ac "least" fj
 cu:Addr
 cw:FuncData
 dG:Fun K "trip_from" "Keeper.trip_from" A79 cu cw
 cX:U8 K ac "trip_from" cu
 du:Addr
 dv:FuncData
 fK:Fun K "highest" "Keeper.highest" A8a du dv
 ij:U8 K ac "highest" du
 bS:Addr
 bT:FuncData
 cP:Fun K "least_store" "Keeper.least_store" A8b bS bT
 eE:U8 K ac "least_store" bS
 ik:Mk K ac eC
 pj:Tok
 bP:mg "MANY" = some (.int 0 pj)
 pk:Tok
 bQ:mg "WAYS" = some (.int 1 pk)
 ni:Tok
 bW:mg "START" = some (.int 0 ni)
 qE:Tok
 cq:mg "END" = some (.int 1 qE)
 lM:Tok
 bX:mg "CHANGE" = some (.int 2 lM)
 jr:Tok
 im:mg "MOST_WAYS" = some (.int 40 jr)
 nk:Tok
 eF:mg "LEAST" = some (.int 0 nk)
 pp:Tok
 eB:mg "GAIN" = some (.int 1 pp)
 qF:Tok
 fS:mg "TOP" = some (.int 2 qF)
 nr:Tok
 cy:mg "TABLE" = some (.int 0 nr)
 nu:Tok
 jG:mg "RISEN" = some (.int 1 nu)
 pq:Tok
 cM:mg "FROM" = some (.int 0 pq)
 qQ:Tok
 gC:mg "BY" = some (.int 1 qQ)
 kW:Tok
 cQ:mg "NUMBERS" = some (.int 0 kW)
 nv:Tok
 eG:mg "TIMES" = some (.int 1 nv)
 nw:Tok
 jH:mg "PLACE" = some (.int 0 nw)
 ny:Tok
 cz:mg "LEVEL" = some (.int 1 ny)
 ak:FT K mg "is_whole" B47 ["thing"]
 bF:FT K mg "is_store" B48 ["thing"]
 bG:FT K mg "is_level" B49 ["store", "thing"]
 bf:FT K mg "stepped" B5a ["store", "level", "change"]
 ay:FT K mg "levels_along" B5b ["store", "level", "changes"]
 aF:FT K mg "is_place" B5c ["many", "thing"]
 aJ:FT K mg "is_change" B5d ["thing"]
 cA:FT K mg "is_way" B5e ["many", "thing"]
 ax:FT K mg "turned_land" B1k ["land"]
 av:FT K mg "changes_of" B1l ["land", "numbers"]
 bm:FT K mg "most_taken" B1m ["land"]
 aP:FT K mg "is_table" B1n ["many", "store", "thing"]
 bY:FT K mg "is_more" B5f ["one", "other"]
 bn:FT K mg "behind_way" B5g ["store", "table", "way"]
 bz:FT K mg "is_within" B5h ["level", "bound"]
 aI:FT K mg "effect_of_none" B5i ["store"]
 aK:FT K mg "effect_of_one" B5j ["store", "change"]
 bA:FT K mg "effect_of" B5k ["store", "changes"]
 cB:FT K mg "passed" B5l ["effect", "level"]
 cC:FT K mg "joined" B5m ["one", "other"]
 bB:FT K mg "first_row" B5n ["table"]
 bp:FT K mg "row_behind" B5o ["land", "store", "table", "stayed"]
 bg:FT K mg "walk_to" B5p ["land", "rows", "place"]
 aU:FT K mg "behind_ways" B5q ["land", "place", "numbers"]
 aX:FT K mg "behind_part" B5r ["land", "place", "part"]
 cD:FT K mg "end_of" B5s ["land", "place", "trip"]
 bH:FT K mg "backward" B1o ["trip"]
 aQ:FT K mg "rows_from" B5t ["land", "store", "table"]
 aY:FT K mg "still_rises" B5u ["land", "rows"]
 aZ:FT K mg "rising_walk" B1p ["land", "rows"]
 aB:FT K mg "parted_at_round" B1q ["land", "walk"]
 aG:FT K mg "parts_by" B5v ["numbers"]
 aL:FT K mg "filling_parts" B5w ["land", "store", "level", "walk"]
 bh:FT K mg "settled" B1r ["land", "store", "base"]
 aw:FT K mg "highest" A7u ["land", "store", "base"]
 bZ:FT K mg "trip_to" B1s ["land", "rows", "roads", "place"]
 bI:FT K mg "trips_to" B1t ["land", "store", "base"]
 aC:FT K mg "lacking" B1u ["store", "table"]
 bj:FT K mg "least" A7v ["land", "store", "goal"]
 bJ:FT K mg "trips_on" B1v ["land", "store", "goal"]
 cb:FT K mg "base_at" B5x ["many", "spot"]
 bq:FT K mg "has_enough" B5y ["table", "goal"]
 aq:FT K mg "comes_through" B5z ["land", "store", "begin", "goal"]
 aO:FT K mg "store_enough" B50 ["land", "begin", "goal"]
 aH:FT K mg "least_store" A7w ["land", "begin", "goal"]
 aR:FT K mg "is_label" B51 ["thing"]
 az:FT K mg "places_below" B1w ["table", "other"]
 eI:FT K mg "_law_hand" B52 ["_law_script"]
 bv:FT K mg "_law_next" B53 ["_law_hand_here"]
 eJ:FT K mg "_law_take" B54 ["_law_hand_here"]
 ah:FT K mg "_law_draw" B55 ["_law_hand_here", "_law_many_here"]
 cY:FT K mg "_law_scale" B56 ["_law_hand_here"]
 ba:FT K mg "_law_change" B57 ["_law_hand_here", "_law_scale_here"]
 cZ:FT K mg "_law_store" B58 ["_law_hand_here", "_law_scale_here"]
 bu:FT K mg "_law_table" B1x ["_law_hand_here", "_law_many_here", "_law_store_here"]
 cE:FT K mg "_law_effect" B59 ["_law_store_here", "_law_changes"]
 de:FT K mg "_law_times" B6a ["_law_effect_here", "_law_times_here", "_law_level"]
 cF:FT K mg "_law_arrive" B6b ["_law_land", "_law_store_here", "_law_place", "_law_level", "_law_trip"]
 aA:FT K mg "_law_is_whole" B6c ["_law_thing"]
 df:FT K mg "_law_state" B6d ["_law_many_here", "_law_store_here", "_law_goal"]
 am:FT K mg "_law_own_land" B1y ["_law_state_here"]
 eM:FT K mg "_law_deed" B1z ["_law_hand_here", "_law_state_here", "_law_scale_here", "_law_most"]
 bR:FT K mg "_law_after" B6e ["_law_state_here", "_law_deed_here"]
 fL:FT K mg "_law_do" B6f ["_law_keeper", "_law_deed_here"]
 dh:FT K mg "_law_asked" B10 ["_law_keeper", "_law_state_here"]
 cc:FT K mg "_law_at_once" B11 ["_law_hand_here", "_law_state_here"]
 aE:FT K mg "_law_trip_right" B6g ["_law_keeper", "_law_state_here", "_law_table_here", "_law_place"]
 aM:FT K mg "_law_highest_right" B6h ["_law_keeper", "_law_land", "_law_store_here", "_law_base"]
 cm:FT K mg "_law_right" B12 ["_law_keeper", "_law_state_here", "_law_base", "_law_pairs"]
 cR:FT K mg "_law_spot" B6i ["_law_hand_here", "_law_many_here", "_law_scale_here"]
 eN:FT K mg "_law_many" B13 ["_law_hand_here", "_law_keeper", "_law_state_here", "_law_scale_here"]
 lK:FT K mg "law" A1u ["_law_script"]
 aT:mg "highest_highest" = some (.ref aw.a)
 bC:mg "least_least" = some (.ref bj.a)
 bD:mg "least_store_stores" = some (.ref aH.a)
theorem C9x:D1 ["thing"] ["thing"] (B1 B47):=⟨rfl,rfl,rfl,KK,rfl,KK,KK⟩
theorem C9y:D1 ["thing"] ["thing"] (B1 B48):=⟨rfl,rfl,rfl,KK,rfl,KK,KK⟩
theorem C9z:D1 ["store", "thing"] ["store", "thing"] (B1 B49):=⟨rfl,rfl,rfl,KK,rfl,KK,KK⟩
theorem C1k:D1 ["store", "level", "change", "behind"] ["store", "level", "change"] (B1 B5a):=⟨rfl,rfl,rfl,KK,rfl,KK,KK⟩
theorem B14:D1 ["store", "level", "changes", "levels", "change", "behind"] ["store", "level", "changes"] (B1 B5b):=⟨rfl,rfl,rfl,KK,rfl,KK,KK⟩
theorem C90:D1 ["many", "thing"] ["many", "thing"] (B1 B5c):=⟨rfl,rfl,rfl,KK,rfl,KK,KK⟩
theorem C91:D1 ["thing"] ["thing"] (B1 B5d):=⟨rfl,rfl,rfl,KK,rfl,KK,KK⟩
theorem C92:D1 ["many", "thing"] ["many", "thing"] (B1 B5e):=⟨rfl,rfl,rfl,KK,rfl,KK,KK⟩
theorem C93:D1 ["land"] ["land"] (B1 B1k):=⟨rfl,rfl,rfl,KK,rfl,KK,KK⟩
theorem C94:D1 ["land", "numbers"] ["land", "numbers"] (B1 B1l):=⟨rfl,rfl,rfl,KK,rfl,KK,KK⟩
theorem C95:D1 ["land"] ["land"] (B1 B1m):=⟨rfl,rfl,rfl,KK,rfl,KK,KK⟩
theorem C96:D1 ["many", "store", "thing"] ["many", "store", "thing"] (B1 B1n):=⟨rfl,rfl,rfl,KK,rfl,KK,KK⟩
theorem C97:D1 ["one", "other"] ["one", "other"] (B1 B5f):=⟨rfl,rfl,rfl,KK,rfl,KK,KK⟩
theorem C1l:D1 ["store", "table", "way", "level"] ["store", "table", "way"] (B1 B5g):=⟨rfl,rfl,rfl,KK,rfl,KK,KK⟩
theorem C98:D1 ["level", "bound"] ["level", "bound"] (B1 B5h):=⟨rfl,rfl,rfl,KK,rfl,KK,KK⟩
theorem C99:D1 ["store"] ["store"] (B1 B5i):=⟨rfl,rfl,rfl,KK,rfl,KK,KK⟩
theorem D0a:D1 ["store", "change"] ["store", "change"] (B1 B5j):=⟨rfl,rfl,rfl,KK,rfl,KK,KK⟩
theorem B15:D1 ["store", "changes", "whole", "change"] ["store", "changes"] (B1 B5k):=⟨rfl,rfl,rfl,KK,rfl,KK,KK⟩
theorem D0b:D1 ["effect", "level"] ["effect", "level"] (B1 B5l):=⟨rfl,rfl,rfl,KK,rfl,KK,KK⟩
theorem C1m:D1 ["one", "other", "least"] ["one", "other"] (B1 B5m):=⟨rfl,rfl,rfl,KK,rfl,KK,KK⟩
theorem D0c:D1 ["table"] ["table"] (B1 B5n):=⟨rfl,rfl,rfl,KK,rfl,KK,KK⟩
theorem A8c:D1 ["land", "store", "table", "stayed", "higher", "risen", "number", "way", "level"] ["land", "store", "table", "stayed"] (B1 B5o):=⟨rfl,rfl,rfl,KK,rfl,KK,KK⟩
theorem A8d:D1 ["land", "rows", "place", "here", "numbers", "row", "number"] ["land", "rows", "place"] (B1 B5p):=⟨rfl,rfl,rfl,KK,rfl,KK,KK⟩
theorem B16:D1 ["land", "place", "numbers", "here", "number"] ["land", "place", "numbers"] (B1 B5q):=⟨rfl,rfl,rfl,KK,rfl,KK,KK⟩
theorem C1n:D1 ["land", "place", "part", "behind"] ["land", "place", "part"] (B1 B5r):=⟨rfl,rfl,rfl,KK,rfl,KK,KK⟩
theorem A9s:D1 ["land", "place", "trip", "here", "at", "part"] ["land", "place", "trip"] (B1 B5s):=⟨rfl,rfl,rfl,KK,rfl,KK,KK⟩
theorem D0d:D1 ["trip"] ["trip"] (B1 B1o):=⟨rfl,rfl,rfl,KK,rfl,KK,KK⟩
theorem B17:D1 ["land", "store", "table", "rows", "row"] ["land", "store", "table"] (B1 B5t):=⟨rfl,rfl,rfl,KK,rfl,KK,KK⟩
theorem D0e:D1 ["land", "rows"] ["land", "rows"] (B1 B5u):=⟨rfl,rfl,rfl,KK,rfl,KK,KK⟩
theorem C1o:D1 ["land", "rows", "last"] ["land", "rows"] (B1 B1p):=⟨rfl,rfl,rfl,KK,rfl,KK,KK⟩
theorem A9t:D1 ["land", "walk", "places", "end", "begin"] ["land", "walk"] (B1 B1q):=⟨rfl,rfl,rfl,KK,rfl,KK,KK⟩
theorem D0f:D1 ["numbers"] ["numbers"] (B1 B5v):=⟨rfl,rfl,rfl,KK,rfl,KK,KK⟩
theorem A21:D1 ["land", "store", "level", "walk", "parted", "ahead", "turn", "effect", "missing", "times", "levels"] ["land", "store", "level", "walk"] (B1 B5w):=⟨rfl,rfl,rfl,KK,rfl,KK,KK⟩
theorem A1v:D1 ["land", "store", "base", "table", "roads", "rows", "walk", "parts", "full", "road"] ["land", "store", "base"] (B1 B1r):=⟨rfl,rfl,rfl,KK,rfl,KK,KK⟩
theorem D0g:D1 ["land", "store", "base"] ["land", "store", "base"] (B1 A7u):=⟨rfl,rfl,rfl,KK,rfl,KK,KK⟩
theorem B18:D1 ["land", "rows", "roads", "place", "walk", "road", "trip"] ["land", "rows", "roads", "place"] (B1 B1s):=⟨rfl,rfl,rfl,KK,rfl,KK,KK⟩
theorem B19:D1 ["land", "store", "base", "found", "rows", "table"] ["land", "store", "base"] (B1 B1t):=⟨rfl,rfl,rfl,KK,rfl,KK,KK⟩
theorem D0h:D1 ["store", "table"] ["store", "table"] (B1 B1u):=⟨rfl,rfl,rfl,KK,rfl,KK,KK⟩
theorem D0i:D1 ["land", "store", "goal"] ["land", "store", "goal"] (B1 A7v):=⟨rfl,rfl,rfl,KK,rfl,KK,KK⟩
theorem C1p:D1 ["land", "store", "goal", "told"] ["land", "store", "goal"] (B1 B1v):=⟨rfl,rfl,rfl,KK,rfl,KK,KK⟩
theorem C1q:D1 ["many", "spot", "base"] ["many", "spot"] (B1 B5x):=⟨rfl,rfl,rfl,KK,rfl,KK,KK⟩
theorem C1r:D1 ["table", "goal", "level"] ["table", "goal"] (B1 B5y):=⟨rfl,rfl,rfl,KK,rfl,KK,KK⟩
theorem D0j:D1 ["land", "store", "begin", "goal"] ["land", "store", "begin", "goal"] (B1 B5z):=⟨rfl,rfl,rfl,KK,rfl,KK,KK⟩
theorem D0k:D1 ["land", "begin", "goal"] ["land", "begin", "goal"] (B1 B50):=⟨rfl,rfl,rfl,KK,rfl,KK,KK⟩
theorem A8e:D1 ["land", "begin", "goal", "high", "low", "middle"] ["land", "begin", "goal"] (B1 A7w):=⟨rfl,rfl,rfl,KK,rfl,KK,KK⟩
theorem D0l:D1 ["thing"] ["thing"] (B1 B51):=⟨rfl,rfl,rfl,KK,rfl,KK,KK⟩
theorem D0m:D1 ["table", "other"] ["table", "other"] (B1 B1w):=⟨rfl,rfl,rfl,KK,rfl,KK,KK⟩
theorem D0n:D1 ["self", "many", "store", "goal"] ["self", "many", "store", "goal"] (B1 A7x):=⟨rfl,rfl,rfl,KK,rfl,KK,KK⟩
theorem D0o:D1 ["self", "label", "start", "end", "change"] ["self", "label", "start", "end", "change"] (B1 A7y):=⟨rfl,rfl,rfl,KK,rfl,KK,KK⟩
theorem D0p:D1 ["self", "label"] ["self", "label"] (B1 A7z):=⟨rfl,rfl,rfl,KK,rfl,KK,KK⟩
theorem C1s:D1 ["self", "label", "change", "way"] ["self", "label", "change"] (B1 A70):=⟨rfl,rfl,rfl,KK,rfl,KK,KK⟩
theorem D0q:D1 ["self", "store"] ["self", "store"] (B1 A71):=⟨rfl,rfl,rfl,KK,rfl,KK,KK⟩
theorem D0r:D1 ["self", "goal"] ["self", "goal"] (B1 A72):=⟨rfl,rfl,rfl,KK,rfl,KK,KK⟩
theorem D0s:D1 ["self", "label"] ["self", "label"] (B1 A73):=⟨rfl,rfl,rfl,KK,rfl,KK,KK⟩
theorem C1t:D1 ["self", "ahead"] ["self"] (B1 A74):=⟨rfl,rfl,rfl,KK,rfl,KK,KK⟩
theorem B2a:D1 ["self", "told", "label", "way"] ["self"] (B1 A75):=⟨rfl,rfl,rfl,KK,rfl,KK,KK⟩
theorem D0t:D1 ["self"] ["self"] (B1 A76):=⟨rfl,rfl,rfl,KK,rfl,KK,KK⟩
theorem D0u:D1 ["self"] ["self"] (B1 A77):=⟨rfl,rfl,rfl,KK,rfl,KK,KK⟩
theorem D0v:D1 ["self"] ["self"] (B1 A48):=⟨rfl,rfl,rfl,KK,rfl,KK,KK⟩
theorem D0w:D1 ["self"] ["self"] (B1 A78):=⟨rfl,rfl,rfl,KK,rfl,KK,KK⟩
theorem D0x:D1 ["self", "place"] ["self", "place"] (B1 A79):=⟨rfl,rfl,rfl,KK,rfl,KK,KK⟩
theorem D0y:D1 ["self", "base"] ["self", "base"] (B1 A8a):=⟨rfl,rfl,rfl,KK,rfl,KK,KK⟩
theorem D0z:D1 ["self", "begin", "goal"] ["self", "begin", "goal"] (B1 A8b):=⟨rfl,rfl,rfl,KK,rfl,KK,KK⟩
theorem D00:D1 ["_law_script"] ["_law_script"] (B1 B52):=⟨rfl,rfl,rfl,KK,rfl,KK,KK⟩
theorem D01:D1 ["_law_hand_here"] ["_law_hand_here"] (B1 B53):=⟨rfl,rfl,rfl,KK,rfl,KK,KK⟩
theorem B6j:D1 ["_law_hand_here", "_law_cell"] ["_law_hand_here"] (B1 B54):=⟨rfl,rfl,rfl,KK,rfl,KK,KK⟩
theorem A8f:D1 ["_law_hand_here", "_law_many_here", "_law_got", "_law_value", "_law_size"] ["_law_hand_here", "_law_many_here"] (B1 B55):=⟨rfl,rfl,rfl,KK,rfl,KK,KK⟩
theorem D02:D1 ["_law_hand_here"] ["_law_hand_here"] (B1 B56):=⟨rfl,rfl,rfl,KK,rfl,KK,KK⟩
theorem D03:D1 ["_law_hand_here", "_law_scale_here"] ["_law_hand_here", "_law_scale_here"] (B1 B57):=⟨rfl,rfl,rfl,KK,rfl,KK,KK⟩
theorem C1u:D1 ["_law_hand_here", "_law_scale_here", "_law_way"] ["_law_hand_here", "_law_scale_here"] (B1 B58):=⟨rfl,rfl,rfl,KK,rfl,KK,KK⟩
theorem C1v:D1 ["_law_hand_here", "_law_many_here", "_law_store_here", "_law_rare"] ["_law_hand_here", "_law_many_here", "_law_store_here"] (B1 B1x):=⟨rfl,rfl,rfl,KK,rfl,KK,KK⟩
theorem A8g:D1 ["_law_store_here", "_law_changes", "_law_lowest", "_law_gain", "_law_top", "_law_change_here"] ["_law_store_here", "_law_changes"] (B1 B59):=⟨rfl,rfl,rfl,KK,rfl,KK,KK⟩
theorem A9u:D1 ["_law_effect_here", "_law_times_here", "_law_level", "_law_lowest", "_law_gain", "_law_top", "_law_ahead"] ["_law_effect_here", "_law_times_here", "_law_level"] (B1 B6a):=⟨rfl,rfl,rfl,KK,rfl,KK,KK⟩
theorem A22:D1 ["_law_land", "_law_store_here", "_law_place", "_law_level", "_law_trip", "_law_part", "_law_here", "_law_changes", "_law_number"] ["_law_land", "_law_store_here", "_law_place", "_law_level", "_law_trip"] (B1 B6b):=⟨rfl,rfl,rfl,KK,rfl,KK,KK⟩
theorem D04:D1 ["_law_thing"] ["_law_thing"] (B1 B6c):=⟨rfl,rfl,rfl,KK,rfl,KK,KK⟩
theorem D05:D1 ["_law_many_here", "_law_store_here", "_law_goal"] ["_law_many_here", "_law_store_here", "_law_goal"] (B1 B6d):=⟨rfl,rfl,rfl,KK,rfl,KK,KK⟩
theorem D06:D1 ["_law_state_here"] ["_law_state_here"] (B1 B1y):=⟨rfl,rfl,rfl,KK,rfl,KK,KK⟩
theorem A23:D1 ["_law_hand_here", "_law_state_here", "_law_scale_here", "_law_most", "_law_way", "_law_labels", "_law_label", "_law_start", "_law_end", "_law_low"] ["_law_hand_here", "_law_state_here", "_law_scale_here", "_law_most"] (B1 B1z):=⟨rfl,rfl,rfl,KK,rfl,KK,KK⟩
theorem A9v:D1 ["_law_state_here", "_law_deed_here", "_law_word", "_law_things", "_law_ways", "_law_after_here"] ["_law_state_here", "_law_deed_here"] (B1 B6e):=⟨rfl,rfl,rfl,KK,rfl,KK,KK⟩
theorem B6k:D1 ["_law_keeper", "_law_deed_here", "_law_word", "_law_things"] ["_law_keeper", "_law_deed_here"] (B1 B6f):=⟨rfl,rfl,rfl,KK,rfl,KK,KK⟩
theorem C1w:D1 ["_law_keeper", "_law_state_here", "_law_ways"] ["_law_keeper", "_law_state_here"] (B1 B10):=⟨rfl,rfl,rfl,KK,rfl,KK,KK⟩
theorem A49:D1 ["_law_hand_here", "_law_state_here", "_law_keeper", "_law_labels", "_law_label", "_law_start", "_law_end", "_law_change_here"] ["_law_hand_here", "_law_state_here"] (B1 B11):=⟨rfl,rfl,rfl,KK,rfl,KK,KK⟩
theorem B6l:D1 ["_law_keeper", "_law_state_here", "_law_table_here", "_law_place", "_law_told", "_law_found"] ["_law_keeper", "_law_state_here", "_law_table_here", "_law_place"] (B1 B6g):=⟨rfl,rfl,rfl,KK,rfl,KK,KK⟩
theorem B6m:D1 ["_law_keeper", "_law_land", "_law_store_here", "_law_base", "_law_handed", "_law_found"] ["_law_keeper", "_law_land", "_law_store_here", "_law_base"] (B1 B6h):=⟨rfl,rfl,rfl,KK,rfl,KK,KK⟩
theorem A9w:D1 ["_law_keeper", "_law_state_here", "_law_base", "_law_pairs", "_law_land", "_law_table_here", "_law_begin", "_law_goal"] ["_law_keeper", "_law_state_here", "_law_base", "_law_pairs"] (B1 B12):=⟨rfl,rfl,rfl,KK,rfl,KK,KK⟩
theorem D07:D1 ["_law_hand_here", "_law_many_here", "_law_scale_here"] ["_law_hand_here", "_law_many_here", "_law_scale_here"] (B1 B6i):=⟨rfl,rfl,rfl,KK,rfl,KK,KK⟩
theorem A8h:D1 ["_law_hand_here", "_law_keeper", "_law_state_here", "_law_scale_here", "_law_labels", "_law_label", "_law_start", "_law_deed_here"] ["_law_hand_here", "_law_keeper", "_law_state_here", "_law_scale_here"] (B1 B13):=⟨rfl,rfl,rfl,KK,rfl,KK,KK⟩
theorem Z6:D1 ["_law_script", "_law_hand_here", "_law_many_here", "_law_scale_here", "_law_store_here", "_law_state_here", "_law_keeper", "_law_k", "_law_deed_here", "_law_table_here", "_law_base", "_law_begin", "_law_goal"] ["_law_script"] (B1 A1u):=⟨rfl,rfl,rfl,KK,rfl,KK,KK⟩
theorem C1x {K:A9} {mg:Str->Option Value} (T:Txt K mg):P8 K T.gc ["self", "many", "store", "goal"] []:=T.jy.binds λ_ _ _ _ _ _ us hl=>by obtain⟨_,_,_,_,rfl⟩:=A08 hl;rfl
theorem C1y {K:A9} {mg:Str->Option Value} (T:Txt K mg):P8 K T.jb ["self", "label", "start", "end", "change"] []:=T.kG.binds λ_ _ _ _ _ _ us hl=>by obtain⟨_,_,_,_,_,rfl⟩:=C1j hl;rfl
theorem D08 {K:A9} {mg:Str->Option Value} (T:Txt K mg):P8 K T.gi ["self", "label"] []:=T.jA.binds λ_ _ _ _ _ _ us hl=>by obtain⟨_,_,rfl⟩:=N1 hl;rfl
theorem D09 {K:A9} {mg:Str->Option Value} (T:Txt K mg):P8 K T.gk ["self", "label", "change"] []:=T.jB.binds λ_ _ _ _ _ _ us hl=>by obtain⟨_,_,_,rfl⟩:=S9 hl;rfl
theorem D1a {K:A9} {mg:Str->Option Value} (T:Txt K mg):P8 K T.dR ["self", "store"] []:=T.gm.binds λ_ _ _ _ _ _ us hl=>by obtain⟨_,_,rfl⟩:=N1 hl;rfl
theorem C1z {K:A9} {mg:Str->Option Value} (T:Txt K mg):P8 K T.jd ["self", "goal"] []:=T.kI.binds λ_ _ _ _ _ _ us hl=>by obtain⟨_,_,rfl⟩:=N1 hl;rfl
theorem C10 {K:A9} {mg:Str->Option Value} (T:Txt K mg):P8 K T.fb ["self", "label"] []:=T.ic.binds λ_ _ _ _ _ _ us hl=>by obtain⟨_,_,rfl⟩:=N1 hl;rfl
theorem A9x {K:A9} {mg:Str->Option Value} (T:Txt K mg):P8 K T.ff ["self"] []:=T.ie.binds λ_ _ _ _ _ _ us hl=>by obtain⟨_,rfl⟩:=S1 hl;rfl
theorem D1b {K:A9} {mg:Str->Option Value} (T:Txt K mg):P8 K T.gr ["self"] []:=T.jD.binds λ_ _ _ _ _ _ us hl=>by obtain⟨_,rfl⟩:=S1 hl;rfl
theorem D1c {K:A9} {mg:Str->Option Value} (T:Txt K mg):P8 K T.fh ["self"] []:=T.ig.binds λ_ _ _ _ _ _ us hl=>by obtain⟨_,rfl⟩:=S1 hl;rfl
theorem D1d {K:A9} {mg:Str->Option Value} (T:Txt K mg):P8 K T.gz ["self"] []:=T.jE.binds λ_ _ _ _ _ _ us hl=>by obtain⟨_,rfl⟩:=S1 hl;rfl
theorem A9y {K:A9} {mg:Str->Option Value} (T:Txt K mg):P8 K T.gB ["self"] []:=T.jF.binds λ_ _ _ _ _ _ us hl=>by obtain⟨_,rfl⟩:=S1 hl;rfl
theorem D1e {K:A9} {mg:Str->Option Value} (T:Txt K mg):P8 K T.fm ["self"] []:=T.ii.binds λ_ _ _ _ _ _ us hl=>by obtain⟨_,rfl⟩:=S1 hl;rfl
theorem C11 {K:A9} {mg:Str->Option Value} (T:Txt K mg):P8 K T.cw ["self", "place"] []:=T.dG.binds λ_ _ _ _ _ _ us hl=>by obtain⟨_,_,rfl⟩:=N1 hl;rfl
theorem D1f {K:A9} {mg:Str->Option Value} (T:Txt K mg):P8 K T.dv ["self", "base"] []:=T.fK.binds λ_ _ _ _ _ _ us hl=>by obtain⟨_,_,rfl⟩:=N1 hl;rfl
theorem D1g {K:A9} {mg:Str->Option Value} (T:Txt K mg):P8 K T.bT ["self", "begin", "goal"] []:=T.cP.binds λ_ _ _ _ _ _ us hl=>by obtain⟨_,_,_,rfl⟩:=S9 hl;rfl
section
variable {P:Program} {w:World} {K:A9} {mg:Str->Option Value} {base:Heap}
theorem D1h (T:Txt K mg):C1 P w K mg base CX0 1 T.eI.a T.eI.d ["_law_script"] (C7h K):=by
 refine T.eI.F.ok D00 (λvs H Q E h=>?_) (λcdv A outer s H vs Q E hr h=>?_)
 ·obtain⟨a,ns,rfl,_⟩:=h
  rfl
 ·obtain⟨a,ns,rfl,hS,k⟩:=h
  refine⟨_,(D7 (F7 (U9 (A1 (W6 Z3 rfl T.aD V0 (A1 (B3m B3o (pv 0) B8m (B8n A8)) A5 A6) (he:=A6) (hpl:=A3)) (A1 A8 (A1 A8 (A1 A8 (A1 A8 (A1 A8 A5 E6) E6) E6) E6) E6) D4)))),?_⟩
  refine⟨_,rfl,_,rfl,a,_,rfl,hS,λp1 h1=>⟨p1,_,rfl,.inl (SqL.of B6),λl hl=>⟨(by show 6<=sizeLine;decide),λp hp=>?_⟩⟩⟩
  have n1:p≠p1:=(g6 (H:=upd (upd H p1 _) l _) (by rw[B8 (g6 B6 hl)];exact B6) hp).symm
  have n2:p≠l:=(g6 (H:=upd (upd H p1 _) l _) B6 hp).symm
  have hp0:H p=none:=by rw[B8 n2,B8 n1] at hp;exact hp
  have hl0:H l=none:=by
   have nl:l≠p1:=(g6 B6 hl).symm
   rw[B8 nl] at hl;exact hl
  refine k p l _ hp0 hl0 ⟨(ns.drop (HT.sIx (ns.map V.int).length 0 none)).take (HT.sIx (ns.map V.int).length (ns.map V.int).length (some 63) - HT.sIx (ns.map V.int).length 0 none),0,0,0,20011,40009,?_,A0m _,B6⟩ (((Same.refl H).lay h1).lay hl |>.lay hp)
  rw[B8 n2.symm,B6]
  unfold A3q
  rw[A1i,List.map_drop]
theorem C12 (T:Txt K mg):C1 P w K mg base CX0 1 T.bv.a T.bv.d ["_law_hand_here"] C7i:=by
 refine T.bv.F.ok D01 (λvs H Q E h=>?_) (λcdv A outer s H vs Q E hr h=>?_)
 ·obtain⟨a,l,rfl,_⟩:=h
  rfl
 ·obtain⟨a,l,rfl,⟨ns,p,b,c,u,v,hl,hp,ha⟩,k⟩:=h
  have ne:=B06 hl ha
  refine⟨_,(B9 (V7 (J2 A0u (J2 W5 (C4 D2 (pv 0) A8 (λ_ _=>rfl)) A8) A8) (b6 (pv 0) A8 X9))
   (B9 (V7 (J2 A0u (J2 W5 (C4 D2 (pv 0) A8 (λ_ _=>rfl)) A8) A8) (b6 (pv 0) A8 X9))
   (D7 (F7 (J2 K5 (C4 D2 (pv 0) A8 (λ_ _=>rfl)) (C4 D2 (pv 0) A8 (λ_ _=>rfl))))))),?_⟩
  refine⟨_,rfl,a,_,_,_,rfl,rfl,SqL.of ha,rfl,_,_,rfl,rfl,.inr ⟨DD,DD⟩,_,_,rfl,rfl,(by first | decide | (dsimp only;decide)),_,rfl,a,_,_,_,rfl,rfl,ha,rfl,?_⟩
  refine⟨_,rfl,a,_,_,_,rfl,rfl,SqL.of B6,rfl,_,_,rfl,rfl,.inr ⟨DD,DD⟩,_,_,rfl,rfl,(by first | decide | (dsimp only;decide)),_,rfl,a,_,_,_,rfl,rfl,B6,rfl,?_⟩
  refine⟨_,rfl,a,_,_,_,rfl,rfl,SqL.of B6,rfl,_,rfl,a,_,_,_,rfl,rfl,SqL.of B6,rfl,_,_,rfl,rfl,?_⟩
  exact k _ _ ⟨ns,p,b,c,_,_,by rw[B8 ne,B8 ne];exact hl,hp,B6⟩ λb o e nb=>by rw[B8 nb,B8 nb];exact e
theorem D1i (T:Txt K mg):C1 P w K mg base CX0 2 T.eJ.a T.eJ.d ["_law_hand_here"] C7j:=by
 have ip:=@C12 P w K mg base T
 have iq:=T.bv.b
 refine T.eJ.F.ok B6j (λvs H Q E h=>?_) (λcdv A outer s H vs Q E hr h=>?_)
 ·obtain⟨a,l,rfl,_⟩:=h
  rfl
 ·obtain⟨a,l,rfl,⟨ns,p,b,c,u,v,hl,hp,ha⟩,k⟩:=h
  have ne:=B06 hl ha
  refine⟨_,(B9 (C0 (i:=1) B6j.nd rfl (B3 rfl) A8)
   (B9 (M5 (K1 (J3 T2 (C4 D2 (pv 0) A8 (λ_ _=>rfl)) (E9 U0 rfl T.aN T3 (A1 (C4 D2 (pv 0) A8 (λ_ _=>rfl)) A5 A6) (he:=A6) (hpl:=A3)) (C8 _))
   (D7 (C0 (i:=1) B6j.nd rfl (B3 rfl) (E9 B77 rfl T.nB B88 (A1 (C4 D2 (C4 D2 (pv 0) A8 (λ_ _=>rfl)) (C4 D2 (pv 0) A8 (λ_ _=>rfl)) (λ_ _=>rfl)) A5 A6) (he:=A6) (hpl:=A3))))
   K4))
   (B9 (B7w (pv 0) A8 B87 A8 C5c X9)
   (B9 (M5 (K1 (J3 A86 (pv 1) (J2 Z0 A8 A8) (C8 _))
   (D7 (V7 (pv 1) (b6 (pv 0) A8 X9)))
   (D7 (V7 A8 (b6 (pv 0) A8 X9)))))
   (B9 (V7 (J2 K5 (J2 A0u (J2 K5 (C4 D2 (pv 0) A8 (λ_ _=>rfl)) (J2 A0u (pv 1) A8)) A8) A8) (b6 (pv 0) A8 X9))
   (B9 (V7 (J2 K5 (J2 A0u (J2 K5 (J2 W5 (C4 D2 (pv 0) A8 (λ_ _=>rfl)) A8) (J2 A0u (pv 1) A8)) A8) A8) (b6 (pv 0) A8 X9))
   (B9 (V6 (B0 ip (hr.mono DD) rfl T.bv.m T.bv.F.kp iq .nil A7 (A1 (pv 0) A5 A0) (he:=A0) (hpl:=A3)))
   (D7 (V6 (B0 ip (hr.mono DD) rfl T.bv.m T.bv.F.kp iq .nil A7 (A1 (pv 0) A5 A0) (he:=A0) (hpl:=A3))))))))))),?_⟩
  refine⟨fun σ H1=>H=H1/\∃z:Int,σ=[some (.ref a),some (.int z)],?_,?_⟩
  ·refine⟨_,rfl,a,_,_,_,rfl,rfl,SqL.of ha,rfl,_,rfl,a,_,_,_,rfl,rfl,SqL.of ha,rfl,l,_,rfl,.inl (SqL.of hl),_,_,rfl,rfl,_,rfl,?_⟩
   refine A51 (λhlt=>?_) (λ_=>⟨rfl,_,rfl⟩)
   have hlt':p < (ns.length:Int):=by simpa using hlt
   obtain⟨z,hz⟩:=C7g hp hlt'
   exact⟨_,rfl,a,_,_,_,rfl,rfl,SqL.of ha,rfl,_,rfl,a,_,_,_,rfl,rfl,SqL.of ha,rfl,l,_,_,_,rfl,rfl,SqL.of hl,hz,_,rfl,rfl,_,rfl⟩
  ·rintro σ H1 ⟨rfl,z,rfl⟩
   refine⟨_,rfl,a,_,_,_,rfl,rfl,(by first | decide | (dsimp only;decide)),SqL.of ha,rfl,_,_,rfl,rfl,a,_,_,_,rfl,rfl,ha,rfl,?_⟩
   refine⟨fun σ H1=>σ=[some (.ref a),some (.int z)]/\Hd H1 a l/\Kp a H H1,?_,?_⟩
   ·refine⟨_,rfl,_,_,rfl,rfl,⟨DD,DD,DD⟩,_,_,rfl,rfl,_,rfl,?_⟩
    refine A51 (λ_=>?_) (λ_=>?_)
    ·refine⟨_,rfl,_,rfl,a,_,_,_,rfl,rfl,B6,rfl,rfl,⟨ns,p + 1,_,_,_,_,by rw[B8 ne,B8 ne];exact hl,OO,B6⟩,λb o e nb=>by rw[B8 nb,B8 nb];exact e⟩
    ·refine⟨_,rfl,a,_,_,_,rfl,rfl,B6,rfl,rfl,⟨ns,p + 1,_,_,_,_,by rw[B8 ne,B8 ne];exact hl,OO,B6⟩,λb o e nb=>by rw[B8 nb,B8 nb];exact e⟩
   ·rintro σ H1 ⟨rfl,⟨ns,p,b,c,u,v,hl,hp,ha⟩,k1⟩
    have ne:=B06 hl ha
    refine⟨_,rfl,a,_,_,_,rfl,rfl,SqL.of ha,rfl,_,rfl,_,_,rfl,rfl,(by first | decide | (dsimp only;decide)),_,_,rfl,rfl,_,_,rfl,rfl,(by first | decide | (dsimp only;decide)),_,_,rfl,rfl,_,rfl,a,_,_,_,rfl,rfl,ha,rfl,?_⟩
    refine⟨_,rfl,a,_,_,_,rfl,rfl,SqL.of B6,rfl,_,_,rfl,rfl,.inr ⟨DD,DD⟩,_,rfl,_,_,rfl,rfl,(by first | decide | (dsimp only;decide)),_,_,rfl,rfl,_,_,rfl,rfl,(by first | decide | (dsimp only;decide)),_,_,rfl,rfl,_,rfl,a,_,_,_,rfl,rfl,B6,rfl,?_⟩
    refine⟨_,rfl,a,l,rfl,⟨ns,p,_,_,_,_,by rw[B8 ne,B8 ne];exact hl,hp,B6⟩,λr H2 h2 k2=>?_⟩
    refine⟨_,rfl,a,l,rfl,h2,λr H3 h3 k3=>?_⟩
    exact k H3 h3 (((k1.trans λb o e nb=>by rw[B8 nb,B8 nb];exact e).trans k2).trans k3)
theorem D1j (T:Txt K mg):C1 P w K mg base CX0 3 T.ah.a T.ah.d ["_law_hand_here", "_law_many_here"] C7k:=by
 have ip:=@C12 P w K mg base T
 have qR:=@D1i P w K mg base T
 have iq:=T.bv.b
 have qS:=T.eJ.b
 refine T.ah.F.ok A8f (λvs H Q E h=>?_) (λcdv A outer s H vs Q E hr h=>?_)
 ·obtain⟨a,l,m,rfl,_⟩:=h
  rfl
 ·obtain⟨a,l,m,rfl,hd,hm0,hm1,k⟩:=h
  refine⟨_,(B9 (M5 (K1 (PW.pt (A82 (J3 b7 (C4 D2 (pv 0) A8 (λ_ _=>rfl)) A8 (C8 _)) (A81 (J3 b7 (C4 D2 (pv 0) A8 (λ_ _=>rfl)) A8 (C8 _)))))
   (D7 (V6 (B0 qR (hr.mono DD) rfl T.eJ.m T.eJ.F.kp qS .nil A7 (A1 (pv 0) A5 A0) (he:=A0) (hpl:=A3))))
   K4))
   (B9 (M5 (K1 (J3 p8 (C4 D2 (pv 0) A8 (λ_ _=>rfl)) A8 (C8 _))
   (B9 (C0 (i:=2) A8f.nd rfl (B3 rfl) (J2 A0u (C4 D2 (pv 0) A8 (λ_ _=>rfl)) (pv 1)))
   (B9 (V7 (J2 B3x (C4 D2 (pv 0) A8 (λ_ _=>rfl)) (pv 1)) (b6 (pv 0) A8 X9))
   (D7 (F7 (pv 2)))))
   K4))
   (B9 (B7w (pv 0) A8 B87 A8 C5d X9)
   (B9 (C0 (i:=3) A8f.nd rfl (B3 rfl) (B0 ip (hr.mono DD) rfl T.bv.m T.bv.F.kp iq .nil A7 (A1 (pv 0) A5 A0) (he:=A0) (hpl:=A3)))
   (B9 (C0 (i:=4) A8f.nd rfl (B3 rfl) A8)
   (B9 (A15 V5 (J3 T2 (pv 4) (pv 1) (C8 _))
   (B9 (C0 (i:=3) A8f.nd rfl (B3 rfl) (J2 K5 (J2 W5 (pv 3) A8) (B0 ip (hr.mono DD) rfl T.bv.m T.bv.F.kp iq .nil A7 (A1 (pv 0) A5 A0) (he:=A0) (hpl:=A3))))
   (D7 (C0 (i:=4) A8f.nd rfl (B3 rfl) (J2 W5 (pv 4) A8)))))
   (D7 (F7 (J2 A0u (pv 3) (pv 1)))))))))),?_⟩
  refine⟨fun σ H1=>σ=[some (.ref a),some (.int m),none,none,none]/\Hd H1 a l/\Kp a H H1,?_,?_⟩
  ·obtain⟨ns,p,b,c,u,v,hl,hp,ha⟩:=id hd
   refine⟨_,rfl,a,_,_,_,rfl,rfl,SqL.of ha,rfl,rfl,_,rfl,?_⟩
   refine A51 (λ_=>?_) (λ_=>C7 ⟨rfl,hd,.refl a H⟩)
   refine⟨_,rfl,a,_,_,_,rfl,rfl,SqL.of ha,rfl,rfl,_,rfl,?_⟩
   refine A51 (λ_=>?_) (λ_=>⟨rfl,hd,.refl a H⟩)
   exact⟨_,rfl,a,l,rfl,hd,λH1 h1 k1=>⟨rfl,h1,k1⟩⟩
  ·rintro σ H1 ⟨rfl,⟨ns,p,b,c,u,v,hl,hp,ha⟩,k1⟩
   have ne:=B06 hl ha
   refine⟨fun σ H2=>H1=H2/\σ=[some (.ref a),some (.int m),none,none,none],?_,?_⟩
   ·refine⟨_,rfl,a,_,_,_,rfl,rfl,SqL.of ha,rfl,_,_,rfl,rfl,_,rfl,?_⟩
    refine A51 (λ_=>?_) (λ_=>⟨rfl,rfl⟩)
    refine⟨_,rfl,a,_,_,_,rfl,rfl,SqL.of ha,rfl,_,rfl,_,_,rfl,rfl,hm0,?_⟩
    refine⟨_,rfl,a,_,_,_,rfl,rfl,SqL.of ha,rfl,_,rfl,_,_,rfl,rfl,⟨hm0,hm1⟩,_,rfl,a,_,_,_,rfl,rfl,ha,rfl,?_⟩
    refine⟨_,rfl,?_⟩
    exact k _ _ (B26 _ OO) (B7k _ hm0) ⟨ns,p,_,_,_,_,by rw[B8 ne];exact hl,hp,B6⟩ (k1.trans λb o e nb=>by rw[B8 nb];exact e)
   ·rintro σ H2 ⟨rfl,rfl⟩
    refine⟨_,rfl,a,_,_,_,rfl,rfl,(by first | decide | (dsimp only;decide)),SqL.of ha,rfl,_,_,rfl,rfl,a,_,_,_,rfl,rfl,ha,rfl,?_⟩
    refine⟨_,rfl,a,l,rfl,⟨ns,p,_,_,_,_,by rw[B8 ne];exact hl,hp,B6⟩,λr H3 h3 k3=>?_⟩
    have k3':Kp a H H3:=(k1.trans λb o e nb=>by rw[B8 nb];exact e).trans k3
    refine C5k (fun σ H4=>∃(val sz:Int),σ=[some (.ref a),some (.int m),none,some (.int val),some (.int sz)]/\Hd H4 a l/\Kp a H H4/\0 < sz)
     (fun σ _=>match σ with | [_,_,_,_,some (.int sz)]=>(m - sz).toNat | _=>0) ⟨r,4294967296,rfl,h3,k3',DD⟩ ?_ (fun σ H Q Q' f ⟨v,e1,u,e2,i,j,e3,e4,c,e5,q⟩=>⟨v,e1,u,e2,i,j,e3,e4,c,e5,f _ _ q⟩)
    rintro σ H4 ⟨val,sz,rfl,h4,k4,hsz⟩
    refine⟨_,rfl,_,rfl,_,_,rfl,rfl,_,rfl,?_⟩
    refine A51 (λhlt=>?_) (λ_=>?_)
    ·have hlt':sz < m:=by simpa using hlt
     refine⟨_,rfl,_,_,rfl,rfl,.inr ⟨DD,DD⟩,_,rfl,a,l,rfl,h4,λr H5 h5 k5=>⟨_,_,rfl,rfl,?_⟩⟩
     refine⟨_,rfl,_,_,rfl,rfl,.inr ⟨DD,DD⟩,?_⟩
     refine⟨⟨_,sz * 4294967296,rfl,h5,k4.trans k5,OO⟩,?_⟩
     show (m - sz * 4294967296).toNat < (m - sz).toNat
     lia
    ·refine⟨_,rfl,_,rfl,_,_,rfl,rfl,hm0,?_⟩
     exact k _ _ (B26 _ OO) (B7k _ hm0) h4 k4
end
def mqB:List Lean.Name:=[``A4q,``T4,``A2o,``A2p,``dOp,``A2d,``A4t,``dT,``A4s,``A6b,``dCb,``A34,``A33,``dC,``dF,``A36,``A35,``A3x,``A3s,``A3t,``dOr,``A3u,``A3v,``A3w,``dBV,``dIf,``A1p,``dIx,``A37,``A38,``A4e,``A4f,``A4g,``dSl,``A4h,``A4j,``A4k,``A4l,``A4p,``A4m,``aV,``aS,``U3,``arD,``A1q,``R9,``A6o,``ixD,``lenD,``O1,``A03,``gI,``gI0,``A3y,``A3z,``A30,``A58,``A31,``A32,``gLt,``gLe,``gGt,``gGe,``gEq,``A00,``isN,``A2h,``A4a,``A4b,``gI2,``A2i,``A2j,``A4d,``A59,``A4r,``A4y,``A2r,``A4u,``A4w,``gN,``gT2,``gT3,``gT5,``A6q,``A2t,``A6r,``A6s,``A6t,``A6u,``A6v,``A04,``A6p,``A4x,``gIn,``gB2,``oN,``oS,``m9,``f9,``A6c,``A6d,``A6e,``A6f,``A6g,``A6h,``Z4,``tyD,``B0l,``B0m,``B0n,``A8v,``B0o,``B0p,``J8,``A3g,``B0q,``A12,``A5r,``X5,``A6i,``A6j,``A6k,``A6l,``A6m,``A6n,``B0r,``B0s,``A64,``A7n,``A7o,``A7p,``A20,``arF,``A7q,``A7s,``A7t,``A7r,``A67,``A4n,``A68,``A69,``j1,``A7a,``A7b,``A7c,``A7d,``A7e,``A7l,``S0,``A7f,``A0b,``A7h,``A7i,``A7j,``aW,``A7k,``A7m,``A2z,``arS,``A61,``A2v,``A2w]
def mqT(s:List Lean.Name):Lean.MacroM (Lean.TSyntax `tactic):=do
 let a:=(s++mqB).toArray.map λx=>Lean.mkCIdent x
 `(tactic|try dsimp only[$[$a:ident],*])
local macro_rules|`(tactic|left)=>mqT []
local macro_rules|`(tactic|array_get_dec)=>mqT [``B4n,``dIl,``dIv,``dIt,``B4j,``B97,``B4k,``B4p,``dIL,``C1e,``C1i,``C1g,``C1h]
local macro_rules|`(tactic|sizeOf_list_dec)=>mqT [``Blk]
theorem K2 {k:Nat} {A:Around} (hr:P7 k A):A.units + 64 < cLine:=hr.units
def A9z:DSp:=λds Q=>∃m:Int,ds=[.none,.int m]/\0 < m/\m < 100000000000000000000000000000000000000000000000000000000000000/\∀r:Int,0<=r->r < m->Q (.int r)
theorem D1k {F:Addr->Prop} {hand:Option (Addr×Addr)} {H:Hp} {vs:List V} {ds:List PyData} {ms:List Md} (a:Z5 F hand H (.hd::ms) vs ds):∃q vs' d ds',hand=some q/\vs=.ref q.1::vs'/\ds=d::ds'/\Z5 F hand H ms vs' ds':=by
 cases a with
 | cons x t=>
  obtain⟨q,e,rfl⟩:=x
  exact⟨q,_,_,_,e,rfl,rfl,t⟩
section
variable {P:Program} {w:World} {K:A9} {mg:Str->Option Value} {base:Heap}
theorem A1w (T:Txt K mg):C1 P w K mg base CX0 3 T.ah.a T.ah.d ["_law_hand_here", "_law_many_here"] (spD [.hd,.sh] A9z):=(D1j T).imp λvs H Q E h=>by
 obtain⟨F,hand,ds,Qd,h1,h2,h3,a,⟨m,rfl,m0,m1,hr⟩,h5⟩:=h
 obtain⟨q,vs',d,ds',e,rfl,e2,a⟩:=D1k a
 cases e2
 subst e
 cases a with
 | cons x t=>
  cases t
  cases (show ThV F H _ (.int m) from x)
  exact⟨q.1,q.2,m,rfl,h3 q rfl,m0,m1,λr H' r0 r1 hd kp=>h5 _ _ _ (hr r r0 r1) (.int r) (λb o eb n=>kp b o eb (n q rfl)) λq' e'=>by cases e';exact hd⟩
end
def oD:Option Int->PyData
 | none=>.none
 | some i=>.int i
def onD:Option Nat->PyData
 | none=>.none
 | some n=>.int (n:Nat)
def M7 (ns:List Int):List PyData:=ns.map PyData.int
def B7 (t:Tb):List PyData:=t.map oD
def rnL (t:Rn):List PyData:=t.map onD
def V3 (r:Rw):PyData:=.tuple [.list (B7 r.1),.list (rnL r.2)]
def K7 (w:Wy):PyData:=.tuple [.int (w.1:Nat),.int (w.2.1:Nat),.int w.2.2]
def E8 (m:Nat) (ws:List Wy):PyData:=.tuple [.int (m:Nat),.list (ws.map K7)]
def Z7:Ef->PyData
 | none=>.none
 | some (l,g,t)=>.tuple [.int l,.int g,.int t]
def F5 (ns:List Nat):List PyData:=ns.map λn=>.int (n:Nat)
def G4 (p:List Nat×Int):PyData:=.tuple [.list (F5 p.1),.int p.2]
local macro_rules|`(tactic|right)=>mqT [``oD,``onD,``Z7,``V3,``E8,``K7,``G4,``J1]
local macro_rules|`(tactic|array_mem_dec)=>mqT [``B4n,``dIl,``dIv,``dIt,``B4j,``B97,``B4k,``B4p,``dIL,``C1e,``C1i,``C1g,``C1h,``oD,``onD,``Z7,``V3,``E8,``K7,``G4,``J1]
local macro_rules|`(tactic|decreasing_trivial_pre_omega)=>mqT [``Blk,``oD,``onD,``Z7,``V3,``E8,``K7,``G4,``J1]
theorem A5a {t:Tb} {p:Nat} (h:p < t.length):atI (B7 t) ((p:Nat):Int)=some (oD (gt t p)):=c9 (by unfold B7;rw[K3,A41 h];rfl)
theorem C13 {t:Rn} {p:Nat} (h:p < t.length):atI (rnL t) ((p:Nat):Int)=some (onD (gt t p)):=c9 (by unfold rnL;rw[K3,A41 h];rfl)
theorem A5b {ws:List Wy} {n:Nat} {w:Wy} (h:ws[n]?=some w):atI (ws.map K7) ((n:Nat):Int)=some (K7 w):=c9 (by rw[K3,h];rfl)
theorem A90 {n j:Nat} (h:j < n):ixN n ((j:Nat):Int)=some j:=by
 unfold ixN
 rw[if_pos OO,if_pos (OO)]
 simp
theorem A91 {α:Type} {xs:List α} {x:α} (h:xs.getLast?=some x):atI xs (-1)=some x:=by
 obtain⟨ys,rfl⟩:=List.getLast?_eq_some_iff.mp h
 exact B8p ys x
def D1l:DSp:=λds Q=>∃st lv ch:Int,ds=[.int st,.int lv,.int ch]/\Q (oD (J6 st lv ch))
def D1m:DSp:=λds Q=>∃(st lv:Int) (cs:List Int),ds=[.int st,.int lv,.list (M7 cs)]/\cs.length<=900/\Q (.list (M7 (P4 st lv cs)))
def D1n:DSp:=λds Q=>∃st:Int,ds=[.int st]/\Q (Z7 (some (0,0,st)))
def D1o:DSp:=λds Q=>∃st c:Int,ds=[.int st,.int c]/\Q (Z7 (X0 st c))
def D1p:DSp:=λds Q=>∃(e:Ef) (x:Int),ds=[Z7 e,.int x]/\Q (oD (M6 e x))
def D1q:DSp:=λds Q=>∃a b:Ef,ds=[Z7 a,Z7 b]/\Q (Z7 (V2 a b))
def D1r:DSp:=λds Q=>∃(st:Int) (cs:List Int),ds=[.int st,.list (M7 cs)]/\Q (Z7 (fxF st cs))
def o7 (d:PyData):Bool:=Z4 "int" d&&!Z4 "bool" d
def B6n:DSp:=λds Q=>∃d,ds=[d]/\Q (.bool (o7 d))
def D1s:DSp:=λds Q=>∃(m:Int) (n:Int),ds=[.int m,.int n]/\Q (.bool (decide (0<=n/\n < m)))
def D1t:DSp:=λds Q=>∃a b:Option Int,ds=[oD a,oD b]/\Q (.bool (Y3 a b))
def D1u:DSp:=λds Q=>∃(st:Int) (t:Tb) (w:Wy),ds=[.int st,.list (B7 t),K7 w]/\w.1 < t.length/\Q (oD (O3 st t w))
section
variable {P:Program} {w:World} {K:A9} {mg:Str->Option Value} {base:Heap}
theorem C14 (T:Txt K mg):C1 P w K mg base CX0 1 T.bf.a T.bf.d ["store", "level", "change"] (spD [.sh,.sh,.sh] D1l):=by
 refine F8 T.bf.F C1k rfl (λC cdv A outer s H E hr=>⟨_,(@F2 _ _ _ _ _ _ (F3 (C0 (i:=3) C1k.nd rfl (B3 rfl) (F6 K5 S6 (A2 (pv 1)) (A2 (pv 2))))) (F2 (N0 (J5 T2 y4 (A2 (pv 3)) C5 (C8 _))
   (C9 (D8 J0))
   N8)
   (C9 (D8 (S7 A02 (E9 (A0v rfl) rfl T.cN A0w (C3 (A2 (pv 3)) (C3 (A2 (pv 0)) E7 A0) A0) (he:=A0) (hpl:=(A4 A0 A3)))))))),λds Q hl h=>?_⟩)
 obtain⟨st,lv,ch,rfl,q⟩:=h
 left
 unfold J6 at q
 by_cases c:lv + ch < 0
 ·rw[decide_eq_true c,if_pos rfl]
  rw[if_pos c] at q;exact q
 ·rw[decide_eq_false c,if_neg Q2]
  rw[if_neg c] at q;exact q
theorem A92 (T:Txt K mg):C1 P w K mg base CX0 1 T.ak.a T.ak.d ["thing"] (spD [.sh] B6n):=by
 refine F8 T.ak.F C9x rfl (λC cdv A outer s H E hr=>⟨_,(@C9 _ _ _ _ (@D8 _ _ _ _ _ (@m5 _ _ _ _ _ _ _ _ (A2k B95 (E9 A1o rfl T.au A0x (A1 (pv 0) (A1 (A0q (v:=V.ty "int") rfl T.lJ B3y rfl) A5 A0) A0) (he:=A0) (hpl:=(A4 A0 A3)))) (e7 (B9o (A2k B96 (E9 A1o rfl T.au A0x (A1 (pv 0) (A1 (A0q (v:=V.ty "bool") rfl T.lL B89 rfl) A5 A0) A0) (he:=A0) (hpl:=(A4 A0 A3))))))))),λds Q hl h=>?_⟩)
 obtain⟨d,rfl,q⟩:=h
 left
 unfold o7 at q
 cases d <;> exact q
theorem C15 (T:Txt K mg):C1 P w K mg base CX0 2 T.aF.a T.aF.d ["many", "thing"] (spD [.sh,.sh] D1s):=by
 have bc:=@A92 P w K mg base T
 have be:=T.ak.b
 refine F8 T.aF.F C90 rfl (λC cdv A outer s H E hr=>⟨_,(C9 (D8 (m5 (E4 (B0 bc (hr.mono DD) rfl T.ak.m T.ak.F.kp be .nil A7 (B4 (A2 (pv 1)) E3 A0) (he:=A0) (hpl:=A3))) (e7 (A9d Z1 T2 C5 (A2 (pv 1)) (A2 (pv 0))))))),λds Q hl h=>?_⟩)
 obtain⟨m,n,rfl,q⟩:=h
 left
 refine⟨_,rfl,?_⟩
 left
 by_cases c:0<=n
 ·by_cases c2:n < m
  ·simpa [c,c2,o7,Z4,tyD,B6n] using q
  ·simpa [c,c2,o7,Z4,tyD] using q
 ·simpa [c,o7,Z4,tyD] using q
theorem D1v (T:Txt K mg):C1 P w K mg base CX0 1 T.bY.a T.bY.d ["one", "other"] (spD [.sh,.sh] D1t):=by
 refine F8 T.bY.F C97 rfl (λC cdv A outer s H E hr=>⟨_,(C9 (D8 (m5 (w4 A3m A9c (A2 (pv 0)) J0 (C8 _)) (e7 (B35 (w4 V8 j0 (A2 (pv 1)) J0 (C8 _)) (e7 (w4 p8 A2f (A2 (pv 0)) (A2 (pv 1)) (C8 _)))))))),λds Q hl h=>?_⟩)
 obtain⟨a,b,rfl,q⟩:=h
 cases a with
 | none=>
  left
  exact q
 | some x=>
  cases b with
  | none=>
   left
   exact q
  | some y=>
   left
   exact q
theorem D1w (T:Txt K mg):C1 P w K mg base CX0 2 T.bn.a T.bn.d ["store", "table", "way"] (spD [.sh,.sh,.sh] D1u):=by
 have ir:=@C14 P w K mg base T
 have iu:=T.bf.b
 refine F8 T.bn.F C1l rfl (λC cdv A outer s H E hr=>⟨_,(@F2 _ _ _ _ _ _ (F3 (C0 (i:=3) C1l.nd rfl (B3 rfl) (C2 (pv 1) (C2 (pv 2) (D6 (D0 (v:=V.int 0) rfl T.bW ⟨_,rfl⟩)) (λ_ _=>rfl)) (λ_ _=>rfl)))) (@F2 _ _ _ _ _ _ (N0 (J5 V8 j0 (A2 (pv 3)) J0 (C8 _))
   (C9 (D8 J0))
   N8) (C9 (D8 (E4 (B0 ir (hr.mono DD) rfl T.bf.m T.bf.F.kp iu .nil A7 (B4 (A2 (pv 0)) (B4 (A2 (pv 3)) (B4 (C2 (pv 2) (D6 (D0 (v:=V.int 2) rfl T.bX ⟨_,rfl⟩)) (λ_ _=>rfl)) E3 A6) A0) A0) (he:=A0) (hpl:=(A4 A0 (A4 A6 A3))))))))),λds Q hl h=>?_⟩)
 obtain⟨st,t,w,rfl,hw,q⟩:=h
 right
 rw[A5a hw]
 unfold O3 at q
 cases e:gt t w.1 with
 | none=>
  rw[e] at q
  right
  exact q
 | some l=>
  rw[e] at q
  right
  exact⟨_,_,_,rfl,q⟩
theorem D1x (T:Txt K mg):C1 P w K mg base CX0 1 T.cB.a T.cB.d ["effect", "level"] (spD [.sh,.sh] D1p):=by
 refine F8 T.cB.F D0b rfl (λC cdv A outer s H E hr=>⟨_,(@F2 _ _ _ _ _ _ (N0 (PW.pt (i9 (J5 V8 j0 (A2 (pv 0)) J0 (C8 _)) (w5 (J5 T2 y4 (A2 (pv 1)) (C2 (pv 0) (D6 (D0 (v:=V.int 0) rfl T.eF ⟨_,rfl⟩)) (λ_ _=>rfl)) (C8 _)))))
   (C9 (D8 J0))
   N8) (C9 (D8 (S7 A02 (E9 (A0v rfl) rfl T.cN A0w (C3 (F6 K5 S6 (A2 (pv 1)) (C2 (pv 0) (D6 (D0 (v:=V.int 1) rfl T.eB ⟨_,rfl⟩)) (λ_ _=>rfl))) (C3 (C2 (pv 0) (D6 (D0 (v:=V.int 2) rfl T.fS ⟨_,rfl⟩)) (λ_ _=>rfl)) E7 A6) F4) (he:=F4) (hpl:=(A4 A6 A3))))))),λds Q hl h=>?_⟩)
 obtain⟨e,x,rfl,q⟩:=h
 rcases e with _ | ⟨l,g,t⟩
 ·right
  exact q
 ·unfold M6 at q
  dsimp only at q
  right
  by_cases c:x < l
  ·rw[if_pos c] at q
   simp only[c,decide_true,if_true]
   exact q
  ·rw[if_neg c] at q
   simp only[c,decide_false,B2z,if_false]
   exact q
theorem D1y (T:Txt K mg):C1 P w K mg base CX0 2 T.cC.a T.cC.d ["one", "other"] (spD [.sh,.sh] D1q):=by
 have qc:=@D1x P w K mg base T
 have qe:=T.cB.b
 refine F8 T.cC.F C1m rfl (λC cdv A outer s H E hr=>⟨_,(@F2 _ _ _ _ _ _ (@N0 _ _ _ _ _ _ _ _ _ (PW.pt (i9 (J5 V8 j0 (A2 (pv 0)) J0 (C8 _)) (i9 (J5 V8 j0 (A2 (pv 1)) J0 (C8 _)) (w5 (J5 T2 y4 (C2 (pv 0) (D6 (D0 (v:=V.int 2) rfl T.fS ⟨_,rfl⟩)) (λ_ _=>rfl)) (C2 (pv 1) (D6 (D0 (v:=V.int 0) rfl T.eF ⟨_,rfl⟩)) (λ_ _=>rfl)) (C8 _)))))) (C9 (D8 J0)) N8) (@F2 _ _ _ _ _ _ (@F3 _ _ _ _ _ (@C0 _ _ 2 _ _ _ _ C1m.nd rfl (B3 rfl) (@S7 _ _ _ _ _ _ A9e (@E9 _ _ _ _ _ _ _ _ _ (A50 rfl) rfl T.dP A2c (C3 (C2 (pv 0) (D6 (D0 (v:=V.int 0) rfl T.eF ⟨_,rfl⟩)) (λ_ _=>rfl)) (C3 (F6 A0t A2e (C2 (pv 1) (D6 (D0 (v:=V.int 0) rfl T.eF ⟨_,rfl⟩)) (λ_ _=>rfl)) (C2 (pv 0) (D6 (D0 (v:=V.int 1) rfl T.eB ⟨_,rfl⟩)) (λ_ _=>rfl))) E7 F4) A6) DD DD A6 ((A4 F4 A3)))) (by rfl) (by first | exact .inl rfl | exact .inr rfl | assumption))) (@C9 _ _ _ _ (@D8 _ _ _ _ _ (@U2 _ _ _ _ _ _ (@C3 _ _ _ _ _ _ (A2 (pv 2)) (@C3 _ _ _ _ _ _ (F6 K5 S6 (C2 (pv 0) (D6 (D0 (v:=V.int 1) rfl T.eB ⟨_,rfl⟩)) (λ_ _=>rfl)) (C2 (pv 1) (D6 (D0 (v:=V.int 1) rfl T.eB ⟨_,rfl⟩)) (λ_ _=>rfl))) (C3 (E4 (B0 qc (hr.mono DD) rfl T.cB.m T.cB.F.kp qe .nil A7 (B4 (A2 (pv 1)) (B4 (C2 (pv 0) (D6 (D0 (v:=V.int 2) rfl T.fS ⟨_,rfl⟩)) (λ_ _=>rfl)) E3 A6) A0) (he:=A0) (hpl:=(A4 A6 A3)))) E7 D4) F4) A0)))))),λds Q hl h=>?_⟩)
 obtain⟨a,b,rfl,q⟩:=h
 rcases a with _ | ⟨l1,g1,t1⟩
 ·right
  exact q
 ·rcases b with _ | ⟨l2,g2,t2⟩
  ·right
   exact q
  ·right
   by_cases c:t1 < l2
   ·rw[A6x (a:=(l1,g1,t1)) (b:=(l2,g2,t2)) c] at q
    simp only[c,decide_true,if_true]
    exact q
   ·rw[A45 (a:=(l1,g1,t1)) (b:=(l2,g2,t2)) c] at q
    simp only[c,decide_false,B2z,if_false]
    refine⟨some (l2,g2,t2),t1,rfl,?_⟩
    have e:oD (M6 (some (l2,g2,t2)) t1)=.int (if t2 < t1 + g2 then t2 else t1 + g2):=by
     unfold M6
     dsimp only
     rw[if_neg c]
     rfl
    rw[e]
    left
    simp only[Z7] at q
    exact⟨DD,q⟩
theorem D1z (T:Txt K mg):C1 P w K mg base CX0 1 T.aI.a T.aI.d ["store"] (spD [.sh] D1n):=by
 refine F8 T.aI.F C99 rfl (λC cdv A outer s H E hr=>⟨_,(C9 (D8 (U2 (C3 C5 (C3 C5 (C3 (A2 (pv 0)) E7 A0) E6) E6)))),λds Q hl h=>?_⟩)
 obtain⟨st,rfl,q⟩:=h
 right
 exact⟨DD,q⟩
theorem D10 (T:Txt K mg):C1 P w K mg base CX0 1 T.aK.a T.aK.d ["store", "change"] (spD [.sh,.sh] D1o):=by
 refine F8 T.aK.F D0a rfl (λC cdv A outer s H E hr=>⟨_,(@F2 _ _ _ _ _ _ (N0 (J5 T2 y4 (F6 K5 S6 (A2 (pv 0)) (A2 (pv 1))) C5 (C8 _))
   (C9 (D8 J0))
   N8) (@C9 _ _ _ _ (@D8 _ _ _ _ _ (@U2 _ _ _ _ _ _ (@C3 _ _ _ _ _ _ (S7 A9e (E9 (A50 rfl) rfl T.dP A2c (C3 C5 (C3 (w6 (A2 (pv 1))) E7 B9b) E6) (he:=E6) (hpl:=(A4 B9b A3)))) (C3 (A2 (pv 1)) (C3 (S7 A02 (E9 (A0v rfl) rfl T.cN A0w (C3 (A2 (pv 0)) (C3 (F6 K5 S6 (A2 (pv 0)) (A2 (pv 1))) E7 F4) A0) (he:=A0) (hpl:=(A4 F4 A3)))) E7 D4) A0) D4))))),λds Q hl h=>?_⟩)
 obtain⟨st,c,rfl,q⟩:=h
 unfold X0 at q
 right
 by_cases d:st + c < 0
 ·rw[if_pos d] at q
  simp only[d,decide_true,if_true]
  exact q
 ·rw[if_neg d] at q
  simp only[d,decide_false,B2z,if_false]
  exact⟨DD,q⟩
theorem D11 (T:Txt K mg):C1 P w K mg base CX0 3 T.bA.a T.bA.d ["store", "changes"] (spD [.sh,.sh] D1r):=by
 have jI:=@D1z P w K mg base T
 have jJ:=T.aI.b
 have jW:=@D10 P w K mg base T
 have jX:=T.aK.b
 have qf:=@D1y P w K mg base T
 have qh:=T.cC.b
 refine F8 T.bA.F B15 rfl (λC cdv A outer s H E hr=>⟨_,(@F2 _ _ _ _ _ _ (F3 (C0 (i:=2) B15.nd rfl (B3 rfl) (E4 (B0 jI (hr.mono DD) rfl T.aI.m T.aI.F.kp jJ .nil A7 (B4 (A2 (pv 0)) E3 A0) (he:=A0) (hpl:=A3))))) (@F2 _ _ _ _ _ _ (@A1r _ _ _ _ _ _ (@l3 _ _ _ _ _ _ _ _ V5 rfl (A2m (pv 1)) (A4v (Q3 (i:=3) B15.nd rfl (B3 rfl))) (@C9 _ _ _ _ (@F3 _ _ _ _ _ (@C0 _ _ 2 _ _ _ _ B15.nd rfl (B3 rfl) (@E4 _ _ _ _ _ _ _ (@B0 _ _ _ _ _ _ _ _ _ _ _ _ _ _ _ _ qf (hr.mono DD) rfl T.cC.m T.cC.F.kp qh .nil A7 (B4 (A2 (pv 2)) (B4 (E4 (B0 jW (hr.mono DD) rfl T.aK.m T.aK.F.kp jX .nil A7 (B4 (A2 (pv 0)) (B4 (A2 (pv 3)) E3 A0) A0) (he:=A0) (hpl:=(A4 A0 A3)))) E3 D4) A0) DD A0 ((A4 D4 A3)))) (by rfl) (by first | exact .inl rfl | exact .inr rfl | assumption)))) (by intro _;rfl))) (C9 (D8 (A2 (pv 2)))))),λds Q hl h=>?_⟩)
 obtain⟨st,cs,rfl,q⟩:=h
 left
 refine⟨st,rfl,?_⟩
 array_get_dec
 refine⟨λr ρ=>∃(cs':List Int) (e:Ef) (z0 z:Sl),r=M7 cs'/\ρ=[Sl.sh (.int st),z0,Sl.sh (Z7 e),z]/\Q (Z7 (foF st e cs')),⟨cs,_,_,_,rfl,rfl,q⟩,?_,?_⟩
 ·rintro x r ρ ⟨cs',e,z0,z,h1,rfl,q⟩
  cases cs' with
  | nil=>cases h1
  | cons c cs'=>
   cases (show x::r=PyData.int c::M7 cs' from h1)
   sizeOf_list_dec
   refine⟨_,_,rfl,?_⟩
   left
   refine⟨_,_,rfl,?_⟩
   exact⟨cs',_,_,_,rfl,rfl,q⟩
 ·rintro ρ ⟨cs',e,z0,z,h1,rfl,q⟩
  cases cs' with
  | nil=>
   left
   exact q
  | cons c cs'=>cases h1
theorem D12 (T:Txt K mg):C1 P w K mg base CX0 2 T.ay.a T.ay.d ["store", "level", "changes"] (spD [.sh,.sh,.sh] D1m):=by
 have ir:=@C14 P w K mg base T
 have iu:=T.bf.b
 refine F8 T.ay.F B14 rfl (λC cdv A outer s H E hr=>⟨_,(@F2 _ _ _ _ _ _ (A2q (C0 (i:=3) B14.nd rfl (B3 rfl) (W9 (C3 (A2 (pv 1)) E7 A0)))) (@F2 _ _ _ _ _ _ (@A1r _ _ _ _ _ _ (@l3 _ _ _ _ _ _ _ _ V5 rfl (A2m (pv 2)) (A4v (Q3 (i:=4) B14.nd rfl (B3 rfl))) (@F2 _ _ _ _ _ _ (F3 (C0 (i:=5) B14.nd rfl (B3 rfl) (E4 (B0 ir (hr.mono DD) rfl T.bf.m T.bf.F.kp iu .nil A7 (B4 (A2 (pv 0)) (B4 (C2 (pv 3) (w6 C5) (λ_ _=>rfl)) (B4 (A2 (pv 4)) E3 A0) A6) A0) (he:=A0) (hpl:=(A4 A6 (A4 A0 A3))))))) (F2 (N0 (J5 V8 j0 (A2 (pv 5)) J0 (C8 _))
   (C9 (D8 (A2 (pv 3))))
   N8)
   (C9 (A9j (V6 (r8 A1j A8z A80 A3r (pv 3) (A1 (A2 (pv 5)) A5 A0))))))) (by intro _;rfl))) (C9 (D8 (A2 (pv 3)))))),λds Q hl h=>?_⟩)
 obtain⟨st,lv,cs,rfl,hn,q⟩:=h
 array_get_dec
 refine⟨DD,λr ρ=>∃(cs' ys:List Int) (l:Int) (z0 z1 z2:Sl),r=M7 cs'/\ρ=[Sl.sh (.int st),Sl.sh (.int lv),z0,Sl.ow (M7 (ys++[l])),z1,z2]/\ys.length + cs'.length=cs.length/\ys++P4 st l cs'=P4 st lv cs,⟨cs,[],lv,_,_,_,rfl,rfl,by simp,rfl⟩,?_,?_⟩
 ·rintro x r ρ ⟨cs',ys,l,z0,z1,z2,h1,rfl,h2,h3⟩
  cases cs' with
  | nil=>cases h1
  | cons c cs'=>
   cases (show x::r=PyData.int c::M7 cs' from h1)
   have hlast:atI (M7 (ys++[l])) (-1)=some (.int l):=A91 (by unfold M7;simp)
   sizeOf_list_dec
   rw[hlast]
   left
   refine⟨_,_,_,rfl,?_⟩
   cases e:J6 st l c with
   | none=>
    rw[C8w e] at h3
    right
    rw[h3]
    exact q
   | some v=>
    rw[C8x e] at h3
    right
    refine⟨by unfold M7;rw[C6,U6];simp at h2 ⊢;lia,cs',ys++[l],v,z0,_,_,rfl,by rw[show M7 (ys++[l]++[v])=M7 (ys++[l])++[.int v] by unfold M7;simp],by simp at h2 ⊢;lia,by rw[<-h3];simp⟩
 ·rintro ρ ⟨cs',ys,l,z0,z1,z2,h1,rfl,h2,h3⟩
  cases cs' with
  | nil=>
   left
   have e:ys++[l]=P4 st lv cs:=h3
   rw[e]
   exact q
  | cons c cs'=>cases h1
end
def S2 (w:Wy):Wy:=(w.2.1,w.1,w.2.2)
theorem Y5 {t:Tb}:(B7 t).length=t.length:=by unfold B7;rw[C6]
theorem D13 {t:Rn}:(rnL t).length=t.length:=by unfold rnL;rw[C6]
theorem A24 {t:List Nat}:(F5 t).length=t.length:=by unfold F5;rw[C6]
theorem B6o {t:Tb} {i:Nat} {x:Option Int}:(B7 t).set i (oD x)=B7 (t.set i x):=by unfold B7;rw[List.map_set]
theorem D14 {t:Rn} {i n:Nat}:(rnL t).set i (.int (n:Nat))=rnL (t.set i (some n)):=by unfold rnL;rw[List.map_set];rfl
theorem C16 {n:Nat}:A4i [PyData.none] n=rnL (E5 n none):=by
 unfold A4i rnL
 induction n with
 | zero=>rfl
 | succ n ih=>rw[A0j,A0j,A3e,Q9,ih];rfl
theorem D15 {n:Nat}:A4i [PyData.none] n=B7 (E5 n none):=by
 unfold A4i B7
 induction n with
 | zero=>rfl
 | succ n ih=>rw[A0j,A0j,A3e,Q9,ih];rfl
theorem D16 {ws:List Wy}:y7 (ws.map K7)=ws.zipIdx.map λp=>.tuple [.int (p.2:Nat),K7 p.1]:=by
 unfold y7
 rw[List.zipIdx_map,j8]
 rfl
def D17:DSp:=λds Q=>∃(m:Nat) (ws:List Wy),ds=[E8 m ws]/\ws.length<=900/\Q (E8 m (ws.map S2))
def D18:DSp:=λds Q=>∃(m:Nat) (ws:List Wy) (ns:List Nat),ds=[E8 m ws,.list (F5 ns)]/\(∀n∈ns,n < ws.length)/\ns.length<=900/\Q (.list (M7 (chs ws ns)))
def D19:DSp:=λds Q=>∃t:Tb,ds=[.list (B7 t)]/\t.length<=900/\Q (V3 (t,E5 t.length none))
def D2a:DSp:=λds Q=>∃(m:Nat) (ws:List Wy) (st:Int) (t s:Tb),ds=[E8 m ws,.int st,.list (B7 t),.list (B7 s)]/\J7 m ws/\t.length=m/\s.length=m/\Q (V3 (P3 m ws st t s))
def A5c (m:Nat) (ws:List Wy) (rs:List Rw):Prop:=∀r∈rs,r.2.length=m/\∀q n,gt r.2 q=some n->n < ws.length
def D2b:DSp:=λds Q=>∃(m:Nat) (ws:List Wy) (rs:List Rw) (p:Nat),ds=[E8 m ws,.list (rs.map V3),.int (p:Nat)]/\p < m/\J7 m ws/\A5c m ws rs/\rs.length<=900/\Q (.tuple [.int ((wlk ws rs.reverse p).1:Nat),.list (F5 (wlk ws rs.reverse p).2)])
section
variable {P:Program} {w:World} {K:A9} {mg:Str->Option Value} {base:Heap}
theorem C17 (T:Txt K mg):C1 P w K mg base CX0 1 T.ax.a T.ax.d ["land"] (spD [.sh] D17):=by
 refine F8 T.ax.F C93 rfl (λC cdv A outer s H E hr=>⟨_,(@C9 _ _ _ _ (@D8 _ _ _ _ _ (@U2 _ _ _ _ _ _ (@C3 _ _ _ _ _ _ (C2 (pv 0) (D6 (D0 (v:=V.int 0) rfl T.bP ⟨_,rfl⟩)) (λ_ _=>rfl)) (@C3 _ _ _ _ _ _ (@K6 _ _ _ _ (@A05 _ _ _ _ _ _ _ _ rfl (@W8 _ _ _ _ _ _ _ _ _ _ _ _ _ _ _ (Q0.new (N:=["land"]) (osc:=B1 B1k) KK) rfl (A9i (C2 (pv 0) (D6 (D0 (v:=V.int 1) rfl T.bQ ⟨_,rfl⟩)) (λ_ _=>rfl))) (λ_=>y8) (λ_=>(U2 (C3 (C2 (pv 1) (D6 (D0 (v:=V.int 1) rfl T.cq ⟨_,rfl⟩)) (λ_ _=>rfl)) (C3 (C2 (pv 1) (D6 (D0 (v:=V.int 0) rfl T.bW ⟨_,rfl⟩)) (λ_ _=>rfl)) (C3 (C2 (pv 1) (D6 (D0 (v:=V.int 2) rfl T.bX ⟨_,rfl⟩)) (λ_ _=>rfl)) E7 A6) A6) A6))) (by rfl) (by rfl) (by intro _;rfl)))) E7 A0y) A6)))),λds Q hl h=>?_⟩)
 obtain⟨m,ws,rfl,hn,q⟩:=h
 array_mem_dec
 refine⟨⟨rfl,by rw[C6];lia⟩,z4 (f:=λw=>K7 (S2 w)) (λw hw Q' q'=>?_) ?_⟩
 ·right
  exact⟨DD,q'⟩
 ·refine⟨DD,?_⟩
  unfold E8 at q
  rw[j8] at q
  exact q
theorem D2c (T:Txt K mg):C1 P w K mg base CX0 1 T.av.a T.av.d ["land", "numbers"] (spD [.sh,.sh] D18):=by
 refine F8 T.av.F C94 rfl (λC cdv A outer s H E hr=>⟨_,(C9 (D8 (K6 (A05 rfl (W8 (Q0.new (N:=["land", "numbers"]) (osc:=B1 B1l) KK) rfl (A2m (pv 1)) (λ_=>y8) (λ_=>(P2 (P2 (C2 (pv 0) (D6 (D0 (v:=V.int 1) rfl T.bQ ⟨_,rfl⟩)) (λ_ _=>rfl)) (A2 (pv 2)) (λ_ _=>rfl)) (D6 (D0 (v:=V.int 2) rfl T.bX ⟨_,rfl⟩)) (λ_ _=>rfl)))))))),λds Q hl h=>?_⟩)
 obtain⟨m,ws,ns,rfl,hb,hn,q⟩:=h
 array_mem_dec
 refine⟨⟨rfl,by rw[A24];lia⟩,?_⟩
 unfold F5
 refine z4 (f:=λn=>.int (S8 ws n)) (λn hm Q' q'=>?_) ?_
 ·obtain⟨w,hw⟩:∃w,ws[n]?=some w:=⟨_,M4 (hb n hm)⟩
  right
  rw[A5b hw]
  right
  have e:S8 ws n=w.2.2:=by unfold S8;rw[hw]
  rw[e] at q'
  exact q'
 ·unfold M7 chs at q
  rw[j8] at q
  exact q
theorem D2d (T:Txt K mg):C1 P w K mg base CX0 1 T.bB.a T.bB.d ["table"] (spD [.bo] D19):=by
 refine F8 T.bB.F D0c rfl (λC cdv A outer s H E hr=>⟨_,(C9 (D8 (U2 (C3 (K6 (B4b (W6 Z3 rfl T.aD V0 (A1 (pv 0) A5 A0) (he:=A0) (hpl:=A3)))) (C3 (K6 (B4d (K6 (W9 (C3 J0 E7 E6))) (A39 (E9 U0 rfl T.aN T3 (A1 (pv 0) A5 A0) (he:=A0) (hpl:=A3))))) E7 F4) D4)))),λds Q hl h=>?_⟩)
 obtain⟨t,rfl,hn,q⟩:=h
 right
 refine⟨DD,⟨OO,by rw[Y5];lia,DD⟩,DD,?_⟩
 unfold V3 at q
 rw[Y5,show ((t.length:Nat):Int).toNat=t.length by simp,C16]
 exact q
theorem D2e (T:Txt K mg):C1 P w K mg base CX0 3 T.bp.a T.bp.d ["land", "store", "table", "stayed"] (spD [.sh,.sh,.sh,.sh] D2a):=by
 have lN:=@D1w P w K mg base T
 have lO:=T.bn.b
 have pr:=@D1v P w K mg base T
 have pw:=T.bY.b
 refine F8 T.bp.F A8c rfl (λC cdv A outer s H E hr=>⟨_,(@F2 _ _ _ _ _ _ (A2q (C0 (i:=4) A8c.nd rfl (B3 rfl) (B4b (W6 Z3 rfl T.aD V0 (A1 (pv 3) A5 A0) (he:=A0) (hpl:=A3))))) (@F2 _ _ _ _ _ _ (A2q (C0 (i:=5) A8c.nd rfl (B3 rfl) (B4d (K6 (W9 (C3 J0 E7 E6))) (C2 (pv 0) (D6 (D0 (v:=V.int 0) rfl T.bP ⟨_,rfl⟩)) (λ_ _=>rfl))))) (@F2 _ _ _ _ _ _ (@A1r _ _ _ _ _ _ (@l3 _ _ _ _ _ _ _ _ V5 rfl (B98 (B9f rfl T.fJ (A1 (C2 (pv 0) (D6 (D0 (v:=V.int 1) rfl T.bQ ⟨_,rfl⟩)) (λ_ _=>rfl)) A5 A6))) (B99 (A3l (n:=2) rfl (X7 (Q3 (i:=6) A8c.nd rfl (B3 rfl)) (X7 (Q3 (i:=7) A8c.nd rfl (B3 rfl)) A3k)))) (@F2 _ _ _ _ _ _ (F3 (C0 (i:=8) A8c.nd rfl (B3 rfl) (E4 (B0 lN (hr.mono DD) rfl T.bn.m T.bn.F.kp lO .nil A7 (B4 (A2 (pv 1)) (B4 (A2 (pv 2)) (B4 (A2 (pv 7)) E3 A0) A0) A0) (he:=A0) (hpl:=(A4 A0 (A4 A0 A3))))))) (@C9 _ _ _ _ (@N0 _ _ _ _ _ _ _ _ _ (l8 (E4 (B0 pr (hr.mono DD) rfl T.bY.m T.bY.F.kp pw .nil A7 (B4 (A2 (pv 8)) (B4 (C2 (pv 4) (C2 (pv 7) (D6 (D0 (v:=V.int 1) rfl T.cq ⟨_,rfl⟩)) (λ_ _=>rfl)) (λ_ _=>rfl)) E3 A6) A0) (he:=A0) (hpl:=(A4 A6 A3))))) (F2 (A9k (V7 (A2 (pv 8)) (b6 (pv 4) (C2 (pv 7) (D6 (D0 (v:=V.int 1) rfl T.cq ⟨_,rfl⟩)) (λ_ _=>rfl)) X9)))
   (C9 (A9k (V7 (A2 (pv 6)) (b6 (pv 5) (C2 (pv 7) (D6 (D0 (v:=V.int 1) rfl T.cq ⟨_,rfl⟩)) (λ_ _=>rfl)) X9))))) N8))) (by intro _;rfl))) (C9 (D8 (U2 (C3 (A2 (pv 4)) (C3 (A2 (pv 5)) E7 A0) A0))))))),λds Q hl h=>?_⟩)
 obtain⟨m,ws,st,t,s0,rfl,ok,ht,hs,q⟩:=h
 have m2:=ok.m2
 array_mem_dec
 refine⟨DD,⟨OO,OO,DD⟩,?_⟩
 rw[show ((m:Nat):Int).toNat=m by simp,C16,D16]
 refine⟨λr ρ=>∃(R:List (Wy×Nat)) (acc:Tb×Rn) (z1 z2 z3:Sl),r=R.map (λp=>.tuple [.int (p.2:Nat),K7 p.1])/\ρ=[Sl.sh (E8 m ws),Sl.sh (.int st),Sl.sh (.list (B7 t)),Sl.sh (.list (B7 s0)),Sl.ow (B7 acc.1),Sl.ow (rnL acc.2),z1,z2,z3]/\acc.1.length=m/\acc.2.length=m/\(∀p∈R,p.1∈ws)/\R.foldl (A2u st t) acc=P3 m ws st t s0,
  ⟨ws.zipIdx,(s0,E5 m none),_,_,_,rfl,rfl,hs,by simp,λp hp=>?_,rfl⟩,?_,?_⟩
 ·obtain⟨w,n⟩:=p
  rw[C4k] at hp
  exact R6 hp
 ·rintro x r ρ ⟨R,acc,z1,z2,z3,h1,rfl,l1,l2,hR,hF⟩
  cases R with
  | nil=>cases h1
  | cons p R=>
   cases (show x::r=PyData.tuple [.int (p.2:Nat),K7 p.1]::R.map (λp=>.tuple [.int (p.2:Nat),K7 p.1]) from h1)
   have hw:=hR p D9
   have e1:=ok.en _ hw
   have hF':R.foldl (A2u st t) (A2u st t acc p)=P3 m ws st t s0:=hF
   sizeOf_list_dec
   refine⟨_,_,_,rfl,by rw[ht];exact ok.st _ hw,?_⟩
   unfold K7
   left
   rw[A5a (by rw[l1];exact e1)]
   left
   refine⟨_,_,rfl,?_⟩
   unfold A2u at hF'
   cases c:Y3 (O3 st t p.1) (gt acc.1 p.1.2.1) with
   | true=>
    rw[if_pos c] at hF'
    left
    rw[A90 (by rw[Y5,l1];exact e1)]
    left
    rw[A90 (by rw[D13,l2];exact e1),B6o]
    left
    rw[D14]
    exact⟨R,_,_,_,_,rfl,rfl,by rw[Y6];exact l1,by rw[Y6];exact l2,λp hp=>hR p (D3 _ hp),hF'⟩
   | false=>
    rw[if_neg (by rw[c];exact Q2)] at hF'
    left
    exact⟨R,acc,_,_,_,rfl,rfl,l1,l2,λp hp=>hR p (D3 _ hp),hF'⟩
 ·rintro ρ ⟨R,acc,z1,z2,z3,h1,rfl,l1,l2,hR,hF⟩
  cases R with
  | cons p R=>cases h1
  | nil=>
   left
   refine⟨DD,?_⟩
   have hF':acc=P3 m ws st t s0:=hF
   rw[<-hF'] at q
   exact q
theorem C18 (T:Txt K mg):C1 P w K mg base CX0 1 T.bg.a T.bg.d ["land", "rows", "place"] (spD [.sh,.sh,.sh] D2b):=by
 refine F8 T.bg.F A8d rfl (λC cdv A outer s H E hr=>⟨_,(@F2 _ _ _ _ _ _ (F3 (C0 (i:=3) A8d.nd rfl (B3 rfl) (A2 (pv 2)))) (@F2 _ _ _ _ _ _ (A2q (C0 (i:=4) A8d.nd rfl (B3 rfl) (W9 E7))) (@F2 _ _ _ _ _ _ (@A1r _ _ _ _ _ _ (@l3 _ _ _ _ _ _ _ _ V5 rfl (C0h (B9l rfl T.cO (A1 (A2 (pv 1)) A5 A0))) (A4v (Q3 (i:=5) A8d.nd rfl (B3 rfl))) (@F2 _ _ _ _ _ _ (F3 (C0 (i:=6) A8d.nd rfl (B3 rfl) (P2 (C2 (pv 5) (D6 (D0 (v:=V.int 1) rfl T.jG ⟨_,rfl⟩)) (λ_ _=>rfl)) (A2 (pv 3)) (λ_ _=>rfl)))) (@C9 _ _ _ _ (@N0 _ _ _ _ _ _ _ _ _ (J5 A3m A9c (A2 (pv 6)) J0 (C8 _)) (@F2 _ _ _ _ _ _ (A9j (V6 (r8 A1j A8z A80 A3r (pv 4) (A1 (A2 (pv 6)) A5 A0)))) (C9 (F3 (C0 (i:=3) A8d.nd rfl (B3 rfl) (P2 (P2 (C2 (pv 0) (D6 (D0 (v:=V.int 1) rfl T.bQ ⟨_,rfl⟩)) (λ_ _=>rfl)) (A2 (pv 6)) (λ_ _=>rfl)) (D6 (D0 (v:=V.int 0) rfl T.bW ⟨_,rfl⟩)) (λ_ _=>rfl)))))) N8))) (by intro _;rfl))) (C9 (D8 (U2 (C3 (A2 (pv 3)) (C3 (K6 (C0g (B9j rfl T.aD rfl T.cO rfl (A1 (A2 (pv 4)) A5 A0)))) E7 D4) A0))))))),λds Q hl h=>?_⟩)
 obtain⟨m,ws,rs,p,rfl,hp,ok,hr2,hn,q⟩:=h
 array_mem_dec
 refine⟨DD,?_⟩
 refine⟨λr ρ=>∃(R:List Rw) (here:Nat) (acc:List Nat) (z1 z2:Sl),r=R.map V3/\ρ=[Sl.sh (E8 m ws),Sl.sh (.list (rs.map V3)),Sl.sh (.int (p:Nat)),Sl.sh (.int (here:Nat)),Sl.ow (F5 acc),z1,z2]/\here < m/\A5c m ws R/\acc.length + R.length<=rs.length/\wlk ws rs.reverse p=((wlk ws R here).1,(wlk ws R here).2++acc.reverse),
  ⟨rs.reverse,p,[],_,_,by rw[B27],rfl,hp,λr hr=>hr2 r (List.mem_reverse.mp hr),by simp,by simp⟩,?_,?_⟩
 ·rintro x r ρ ⟨R,here,acc,z1,z2,h1,rfl,hh,hR,hl2,hW⟩
  cases R with
  | nil=>cases h1
  | cons r0 R=>
   cases (show x::r=V3 r0::R.map V3 from h1)
   obtain⟨l0,b0⟩:=hR r0 D9
   decreasing_trivial_pre_omega
   rw[C13 (by rw[l0];exact hh)]
   cases c:gt r0.2 here with
   | none=>
    right
    refine⟨R,here,acc,_,_,rfl,rfl,hh,λr hr=>hR r (D3 _ hr),by simp at hl2;lia,?_⟩
    rw[hW]
    have:wlk ws (r0::R) here=wlk ws R here:=by
     show (match gt r0.2 here with
      | none=>wlk ws R here
      | some n=>((wlk ws R (Q8 ws n)).1,(wlk ws R (Q8 ws n)).2++[n]))=_
     rw[c]
    rw[this]
   | some n=>
    have hn':=b0 here n c
    obtain⟨w,hw⟩:∃w,ws[n]?=some w:=⟨_,M4 hn'⟩
    right
    refine⟨by rw[A24];simp at hl2;lia,?_⟩
    rw[A5b hw]
    right
    refine⟨R,w.1,acc++[n],_,_,rfl,by rw[show F5 (acc++[n])=F5 acc++[.int (n:Nat)] by unfold F5;simp],ok.st w (R6 hw),λr hr=>hR r (D3 _ hr),by simp at hl2 ⊢;lia,?_⟩
    ·rw[hW]
     have:wlk ws (r0::R) here=((wlk ws R w.1).1,(wlk ws R w.1).2++[n]):=by
      show (match gt r0.2 here with
       | none=>wlk ws R here
       | some n=>((wlk ws R (Q8 ws n)).1,(wlk ws R (Q8 ws n)).2++[n]))=_
      rw[c]
      have e:Q8 ws n=w.1:=by unfold Q8;rw[hw]
      show ((wlk ws R (Q8 ws n)).1,(wlk ws R (Q8 ws n)).2++[n])=_
      rw[e]
     rw[this]
     simp
 ·rintro ρ ⟨R,here,acc,z1,z2,h1,rfl,hh,hR,hl2,hW⟩
  cases R with
  | cons p R=>cases h1
  | nil=>
   left
   refine⟨DD,?_⟩
   rw[hW] at q
   have e:(F5 acc).reverse=F5 acc.reverse:=by unfold F5;rw[B27]
   rw[e]
   exact q
end
inductive Pth (ws:List Wy):Nat->List Nat->Nat->Prop
 | nil {p}:Pth ws p [] p
 | cons {n w ns q}:ws[n]?=some w->Pth ws w.2.1 ns q->Pth ws w.1 (n::ns) q
abbrev Pt:=List Nat×Int
inductive Trp (ws:List Wy):Nat->List Pt->Nat->Prop
 | nil {p}:Trp ws p [] p
 | cons {p q r pt ps}:Pth ws p pt.1 q->pt.1≠[]->1<=pt.2->pt.2<=1000000000000000000000000->(pt.2=1\/q=p)->Trp ws q ps r->Trp ws p (pt::ps) r
theorem Pth.app {ws:List Wy} {a b c:Nat} {xs ys:List Nat} (h1:Pth ws a xs b) (h2:Pth ws b ys c):Pth ws a (xs++ys) c:=by
 induction h1 with
 | nil=>exact h2
 | cons e _ ih=>exact .cons e (ih h2)
theorem Trp.app {ws:List Wy} {a b c:Nat} {xs ys:List Pt} (h1:Trp ws a xs b) (h2:Trp ws b ys c):Trp ws a (xs++ys) c:=by
 induction h1 with
 | nil=>exact h2
 | cons e1 e2 e3 e4 e5 _ ih=>exact .cons e1 e2 e3 e4 e5 (ih h2)
def prt (ns:List Nat):List Pt:=if ns.isEmpty then [] else [(ns,1)]
theorem B6p {ws:List Wy} {a b:Nat} {ns:List Nat} (h:Pth ws a ns b):Trp ws a (prt ns) b:=by
 cases h with
 | nil=>exact .nil
 | cons e t=>exact .cons (pt:=(_,1)) (.cons e t) (by simp) (show (1:Int)<=1 by decide) (show (1:Int)<=1000000000000000000000000 by decide) (.inl rfl) .nil
theorem Wk.pth {ws:List Wy} {st:Int} {b:Tb} {N:List Nat} {P:Nat->Nat} {L:Nat->Int} (W:Wk ws st b N P L) {i:Nat}:∀{j:Nat},i<=j->j<=N.length->Pth ws (P i) (My.seg N i j) (P j)
 | 0,h1,_=>by
  have:i=0:=by lia
  subst this
  rw[A60];exact .nil
 | j + 1,h1,h2=>by
  by_cases e:i=j + 1
  ·subst e
   rw[A60];exact .nil
  ·rw[B4y OO (OO)]
   obtain⟨w,hw,e1,e2,_⟩:=W.way j N[j] (M4 OO)
   refine (W.pth (i:=i) (j:=j) OO OO).app ?_
   rw[<-e1,<-e2]
   exact .cons hw .nil
theorem A09 (i j:Int):min (PyData.depth (.int i)) (PyData.depth (.int j))<=64:=by show min 0 0<=64;decide
theorem A1x (i j:Int):PyData.eqv (.int i) (.int j)=(i == j):=by rw[PyData.eqv]
def D2f:DSp:=λds Q=>∃(m:Nat) (ws:List Wy) (p q:Nat) (ns:List Nat),ds=[E8 m ws,.int (p:Nat),.list (F5 ns)]/\Pth ws p ns q/\Q (.int (q:Nat))
def D2g:DSp:=λds Q=>∃(m:Nat) (ws:List Wy) (p q:Nat) (pt:Pt),ds=[E8 m ws,.int (p:Nat),G4 pt]/\Pth ws p pt.1 q/\pt.1≠[]/\1<=pt.2/\pt.2<=1000000000000000000000000/\(pt.2=1\/q=p)/\Q (.int (q:Nat))
def D2h:DSp:=λds Q=>∃(m:Nat) (ws:List Wy) (p q:Nat) (ps:List Pt),ds=[E8 m ws,.int (p:Nat),.list (ps.map G4)]/\Trp ws p ps q/\Q (.int (q:Nat))
def D2i:DSp:=λds Q=>∃ns:List Nat,ds=[.list (F5 ns)]/\Q (.list ((prt ns).map G4))
section
variable {P:Program} {w:World} {K:A9} {mg:Str->Option Value} {base:Heap}
theorem C19 (T:Txt K mg):C1 P w K mg base CX0 1 T.aG.a T.aG.d ["numbers"] (spD [.sh] D2i):=by
 refine F8 T.aG.F D0f rfl (λC cdv A outer s H E hr=>⟨_,(C9 (D8 (B36 (J5 p8 A2f (A39 (E9 U0 rfl T.aN T3 (A1 (pv 0) A5 A0) (he:=A0) (hpl:=A3))) C5 (C8 _)) (K6 (W9 (C3 (U2 (C3 (A2 (pv 0)) (C3 C5 E7 E6) A0)) E7 l7))) (K6 (W9 E7))))),λds Q hl h=>?_⟩)
 obtain⟨ns,rfl,q⟩:=h
 right
 cases ns with
 | nil=>exact⟨DD,q⟩
 | cons n ns=>
  have e:decide ((0:Int) < ((F5 (n::ns)).length:Nat))=true:=by
   rw[A24];exact decide_eq_true (by rw[J8];lia)
  rw[e]
  right
  exact⟨DD,DD,q⟩
theorem D2j (T:Txt K mg):C1 P w K mg base CX0 3 T.aU.a T.aU.d ["land", "place", "numbers"] (spD [.sh,.sh,.sh] D2f):=by
 have dS:=@C15 P w K mg base T
 have dU:=T.aF.b
 refine F8 T.aU.F B16 rfl (λC cdv A outer s H E hr=>⟨_,(@F2 _ _ _ _ _ _ (F3 (C0 (i:=3) B16.nd rfl (B3 rfl) (A2 (pv 1)))) (@F2 _ _ _ _ _ _ (@A1r _ _ _ _ _ _ (@l3 _ _ _ _ _ _ _ _ V5 rfl (A2m (pv 2)) (A4v (Q3 (i:=4) B16.nd rfl (B3 rfl))) (@F2 _ _ _ _ _ _ (@N0 _ _ _ _ _ _ _ _ _ (PW.pt (@i9 _ _ _ _ _ _ _ _ (@l9 _ _ _ _ _ (@l8 _ _ _ _ (@E4 _ _ _ _ _ _ _ (@B0 _ _ _ _ _ _ _ _ _ _ _ _ _ _ _ _ dS (hr.mono DD) rfl T.aF.m T.aF.F.kp dU .nil A7 (B4 (S7 B4a (E9 U0 rfl T.aN T3 (C3 (C2 (pv 0) (D6 (D0 (v:=V.int 1) rfl T.bQ ⟨_,rfl⟩)) (λ_ _=>rfl)) E7 A6) (he:=A6) (hpl:=A3))) (B4 (A2 (pv 4)) E3 A0) D4) DD D4 ((A4 A0 A3)))) (by intro _;rfl))) (w5 (J5 (i8 (K2 hr)) m7 (P2 (P2 (C2 (pv 0) (D6 (D0 (v:=V.int 1) rfl T.bQ ⟨_,rfl⟩)) (λ_ _=>rfl)) (A2 (pv 4)) (λ_ _=>rfl)) (D6 (D0 (v:=V.int 0) rfl T.bW ⟨_,rfl⟩)) (λ_ _=>rfl)) (A2 (pv 3)) (C8 _))))) (C9 (D8 J0)) N8) (C9 (F3 (C0 (i:=3) B16.nd rfl (B3 rfl) (P2 (P2 (C2 (pv 0) (D6 (D0 (v:=V.int 1) rfl T.bQ ⟨_,rfl⟩)) (λ_ _=>rfl)) (A2 (pv 4)) (λ_ _=>rfl)) (D6 (D0 (v:=V.int 1) rfl T.cq ⟨_,rfl⟩)) (λ_ _=>rfl)))))) (by intro _;rfl))) (C9 (D8 (A2 (pv 3)))))),λds Q hl h=>?_⟩)
 obtain⟨m,ws,p,q0,ns,rfl,hp,q⟩:=h
 array_mem_dec
 refine⟨λr ρ=>∃(ns':List Nat) (p':Nat) (z:Sl),r=F5 ns'/\ρ=[Sl.sh (E8 m ws),Sl.sh (.int (p:Nat)),Sl.sh (.list (F5 ns)),Sl.sh (.int (p':Nat)),z]/\Pth ws p' ns' q0,⟨ns,p,_,rfl,rfl,hp⟩,?_,?_⟩
 ·rintro x r ρ ⟨ns',p',z,h1,rfl,hp'⟩
  cases hp' with
  | nil=>cases h1
  | @cons n w ns' _ hw hp'=>
   cases (show x::r=PyData.int (n:Nat)::F5 ns' from h1)
   have hn:=(A1d.mp hw).1
   decreasing_trivial_pre_omega
   refine⟨_,_,rfl,?_⟩
   rw[C6,decide_eq_true (show (0:Int)<=((n:Nat):Int)/\((n:Nat):Int) < ((ws.length:Nat):Int) from ⟨OO,OO⟩)]
   decreasing_trivial_pre_omega
   rw[A5b hw]
   right
   refine⟨rfl,rfl,A09 _ _,?_⟩
   rw[A1x,beq_self_eq_true]
   right
   exact⟨ns',w.2.1,_,rfl,rfl,hp'⟩
 ·rintro ρ ⟨ns',p',z,h1,rfl,hp'⟩
  cases hp' with
  | nil=>
   left
   exact q
  | cons hw hp'=>cases h1
theorem D2k (T:Txt K mg):C1 P w K mg base CX0 4 T.aX.a T.aX.d ["land", "place", "part"] (spD [.sh,.sh,.sh] D2g):=by
 have kZ:=@D2j P w K mg base T
 have la:=T.aU.b
 refine F8 T.aX.F C1n rfl (λC cdv A outer s H E hr=>⟨_,(@F2 _ _ _ _ _ _ (@N0 _ _ _ _ _ _ _ _ _ (PW.pt (@i9 _ _ _ _ _ _ _ _ (J5 (A2b (K2 hr)) m7 (S7 B4a (E9 U0 rfl T.aN T3 (C3 (C2 (pv 2) (D6 (D0 (v:=V.int 0) rfl T.cQ ⟨_,rfl⟩)) (λ_ _=>rfl)) E7 A6) (he:=A6) (hpl:=A3))) C5 (C8 _)) (w5 (l9 (B38 Z1 Z1 C5 (C2 (pv 2) (D6 (D0 (v:=V.int 1) rfl T.eG ⟨_,rfl⟩)) (λ_ _=>rfl)) (F6 Z0 m6 C5 C5)))))) (C9 (D8 J0)) N8) (@F2 _ _ _ _ _ _ (@F3 _ _ _ _ _ (@C0 _ _ 3 _ _ _ _ C1n.nd rfl (B3 rfl) (E4 (B0 kZ (hr.mono DD) rfl T.aU.m T.aU.F.kp la .nil A7 (B4 (A2 (pv 0)) (B4 (A2 (pv 1)) (B4 (C2 (pv 2) (D6 (D0 (v:=V.int 0) rfl T.cQ ⟨_,rfl⟩)) (λ_ _=>rfl)) E3 A6) A0) A0) (he:=A0) (hpl:=(A4 A0 (A4 A6 A3))))) (by rfl) (by first | exact .inl rfl | exact .inr rfl | assumption))) (F2 (N0 (PW.pt (A9b (J5 p8 A2f (C2 (pv 2) (D6 (D0 (v:=V.int 1) rfl T.eG ⟨_,rfl⟩)) (λ_ _=>rfl)) C5 (C8 _)) (B08 (J5 (i8 (K2 hr)) m7 (A2 (pv 3)) (A2 (pv 1)) (C8 _)))))
   (C9 (D8 J0))
   N8)
   (C9 (D8 (A2 (pv 3))))))),λds Q hl h=>?_⟩)
 obtain⟨m,ws,p,q0,⟨ns,t⟩,rfl,hp,hne,t1,t2,ht,q⟩:=h
 simp only at hp hne t1 t2 ht
 right
 refine⟨rfl,rfl,A09 _ _,?_⟩
 have hl0:PyData.eqv (.int ((F5 ns).length:Nat)) (.int 0)=false:=by
  rw[A1x,A24]
  cases ns with
  | nil=>exact absurd rfl hne
  | cons n r=>exact beq_eq_false_iff_ne.mpr (by simp;lia)
 rw[hl0]
 right
 rw[decide_eq_true (show (1:Int)<=t from t1)]
 right
 refine⟨⟨DD,DD,DD⟩,?_⟩
 rw[decide_eq_true (show t<=(10:Int) ^ (24:Int).toNat from t2)]
 right
 refine⟨_,_,_,_,_,rfl,hp,?_⟩
 right
 rcases ht with ht | ht
 ·rw[decide_eq_false (show ¬ (1:Int) < t by lia)]
  right
  exact q
 ·subst ht
  by_cases c:(1:Int) < t
  ·rw[decide_eq_true c]
   right
   refine⟨rfl,rfl,A09 _ _,?_⟩
   rw[A1x,beq_self_eq_true]
   right
   exact q
  ·rw[decide_eq_false c]
   right
   exact q
theorem D2l (T:Txt K mg):C1 P w K mg base CX0 5 T.cD.a T.cD.d ["land", "place", "trip"] (spD [.sh,.sh,.sh] D2h):=by
 have lc:=@D2k P w K mg base T
 have ld:=T.aX.b
 refine F8 T.cD.F A9s rfl (λC cdv A outer s H E hr=>⟨_,(@F2 _ _ _ _ _ _ (F3 (C0 (i:=3) A9s.nd rfl (B3 rfl) (A2 (pv 1)))) (@F2 _ _ _ _ _ _ (@A1r _ _ _ _ _ _ (@l3 _ _ _ _ _ _ _ _ V5 rfl (B98 (B9f rfl T.fJ (A1 (A2 (pv 2)) A5 A0))) (B99 (A3l (n:=2) rfl (X7 (Q3 (i:=4) A9s.nd rfl (B3 rfl)) (X7 (Q3 (i:=5) A9s.nd rfl (B3 rfl)) A3k)))) (@F2 _ _ _ _ _ _ (F3 (C0 (i:=3) A9s.nd rfl (B3 rfl) (E4 (B0 lc (hr.mono DD) rfl T.aX.m T.aX.F.kp ld .nil A7 (B4 (A2 (pv 0)) (B4 (A2 (pv 3)) (B4 (A2 (pv 5)) E3 A0) A0) A0) (he:=A0) (hpl:=(A4 A0 (A4 A0 A3))))))) (C9 (N0 (J5 V8 j0 (A2 (pv 3)) J0 (C8 _))
   (C9 C76)
   N8))) (by intro _;rfl))) (C9 (D8 (A2 (pv 3)))))),λds Q hl h=>?_⟩)
 obtain⟨m,ws,p,q0,ps,rfl,hp,q⟩:=h
 array_mem_dec
 have e0:y7 (ps.map G4)=ps.zipIdx.map λp=>.tuple [.int (p.2:Nat),G4 p.1]:=by
  unfold y7
  rw[List.zipIdx_map,j8]
  rfl
 rw[e0]
 refine⟨λr ρ=>∃(ps':List (Pt×Nat)) (p':Nat) (z1 z2:Sl),r=ps'.map (λp=>.tuple [.int (p.2:Nat),G4 p.1])/\ρ=[Sl.sh (E8 m ws),Sl.sh (.int (p:Nat)),Sl.sh (.list (ps.map G4)),Sl.sh (.int (p':Nat)),z1,z2]/\Trp ws p' (ps'.map (·.1)) q0,⟨ps.zipIdx,p,_,_,rfl,rfl,by rw[show ps.zipIdx.map (·.1)=ps by simp];exact hp⟩,?_,?_⟩
 ·rintro x r ρ ⟨ps',p',z1,z2,h1,rfl,hp'⟩
  cases ps' with
  | nil=>cases h1
  | cons a ps'=>
   cases (show x::r=PyData.tuple [.int (a.2:Nat),G4 a.1]::ps'.map (λp=>.tuple [.int (p.2:Nat),G4 p.1]) from h1)
   have hp2:Trp ws p' (a.1::ps'.map (·.1)) q0:=hp'
   cases hp2 with
   | cons e1 e2 e3 e4 e5 e6=>
    sizeOf_list_dec
    refine⟨_,_,_,_,_,rfl,e1,e2,e3,e4,e5,?_⟩
    left
    exact⟨ps',_,_,_,rfl,rfl,e6⟩
 ·rintro ρ ⟨ps',p',z1,z2,h1,rfl,hp'⟩
  cases ps' with
  | cons a ps'=>cases h1
  | nil=>
   cases hp'
   left
   exact q
end
theorem D2m (a b:Option Int):PyData.eqv (oD a) (oD b)=decide (a=b):=by
 cases a with
 | none=>cases b with
  | none=>rfl
  | some y=>rfl
 | some x=>cases b with
  | none=>rfl
  | some y=>
   show PyData.eqv (.int x) (.int y)=_
   rw[A1x]
   by_cases h:x=y
   ·subst h;simp
   ·simp [h]
theorem C2a:∀a b:Tb,PyData.eqvAll (B7 a) (B7 b)=decide (a=b)
 | [],[]=>rfl
 | [],_::_=>rfl
 | _::_,[]=>rfl
 | x::a,y::b=>by
  show PyData.eqvAll (oD x::B7 a) (oD y::B7 b)=_
  rw[PyData.eqvAll,D2m,C2a a b]
  by_cases h:x=y
  ·subst h;simp
  ·simp [h]
theorem D2n (a b:Tb):PyData.eqv (.list (B7 a)) (.list (B7 b))=decide (a=b):=by rw[PyData.eqv];exact C2a a b
theorem C2b:∀t:Tb,PyData.canLayAll0 (B7 t)=true
 | []=>rfl
 | x::t=>by
  show (PyData.canLay0 (oD x)&&PyData.canLayAll0 (B7 t))=true
  rw[C2b t]
  cases x <;> rfl
theorem C2c (t:Tb):PyData.canLay0 (.list (B7 t))=true:=by rw[PyData.canLay0];exact C2b t
theorem C2d:∀t:Tb,PyData.depthAll (B7 t)=0
 | []=>rfl
 | x::t=>by
  show max (PyData.depth (oD x)) (PyData.depthAll (B7 t))=0
  rw[C2d t]
  cases x <;> rfl
theorem C2e (t:Tb):PyData.depth (.list (B7 t))=1:=by
 show PyData.depthAll (B7 t) + 1=1
 rw[C2d]
def D2o:DSp:=λds Q=>∃(m:Nat) (ws:List Wy) (st:Int) (t:Tb),ds=[E8 m ws,.int st,.list (B7 t)]/\J7 m ws/\t.length=m/\Q (.list ((T6 m ws st m (t,E5 m none)).map V3))
def D2p:DSp:=λds Q=>∃(m:Nat) (ws:List Wy) (rs:List Rw),ds=[E8 m ws,.list (rs.map V3)]/\Q (.bool (decide (m < rs.length)))
def D2q:DSp:=λds Q=>∃(m:Nat) (ws:List Wy) (rs:List Rw) (r:Rw),ds=[E8 m ws,.list (rs.map V3)]/\J7 m ws/\A5c m ws rs/\rs.length<=900/\rs.getLast?=some r/\(∃p n,gt r.2 p=some n)/\
 ∀p n,p < m->gt r.2 p=some n->Q (.tuple [.int ((wlk ws rs.reverse p).1:Nat),.list (F5 (wlk ws rs.reverse p).2)])
def A93 (p:Nat) (N:List Nat):PyData:=.tuple [.int (p:Nat),.list (F5 N)]
def D2r:DSp:=λds Q=>∃(m:Nat) (ws:List Wy) (st:Int) (b:Tb) (N:List Nat) (P:Nat->Nat) (L:Nat->Int),ds=[E8 m ws,A93 (P 0) N]/\J7 m ws/\G1 m st b/\Wk ws st b N P L/\N.length=m/\
 ∀i j,i < j->j<=m->P i=P j->Q (.tuple [.list (F5 (seg N 0 i)),.list (F5 (seg N i j))])
theorem B2b {α β:Type} {f:α->β} {xs:List α} {x:α} (h:xs.getLast?=some x):(xs.map f).getLast?=some (f x):=by
 obtain⟨ys,rfl⟩:=List.getLast?_eq_some_iff.mp h
 simp
theorem Wk.places {ws:List Wy} {st:Int} {b:Tb} {N:List Nat} {P:Nat->Nat} {L:Nat->Int} (W:Wk ws st b N P L):[P 0]++N.map (A1s ws)=(T8 (N.length + 1)).map P:=by
 apply List.ext_getElem?
 intro k
 cases k with
 | zero=>simp
 | succ k=>
  rw[A5k (by simp),K3,K3]
  by_cases h:k < N.length
  ·rw[B21 (OO)]
   show (N[k]?).map (A1s ws)=some (P (k + 1))
   obtain⟨w,hw,_,e,_⟩:=W.way k N[k] (M4 h)
   rw[M4 h]
   show some (A1s ws N[k])=_
   unfold A1s
   rw[hw,<-e]
  ·rw[A11 (l:=T8 _) (by rw[j7];lia)]
   show (N[k]?).map (A1s ws)=none
   rw[A11 (OO)]
   rfl
section
variable {P:Program} {w:World} {K:A9} {mg:Str->Option Value} {base:Heap}
theorem D2s (T:Txt K mg):C1 P w K mg base CX0 4 T.aQ.a T.aQ.d ["land", "store", "table"] (spD [.sh,.sh,.bo] D2o):=by
 have mf:=@D2d P w K mg base T
 have mh:=T.bB.b
 have lP:=@D2e P w K mg base T
 have lQ:=T.bp.b
 refine F8 T.aQ.F B17 rfl (λC cdv A outer s H E hr=>⟨_,(@F2 _ _ _ _ _ _ (A2q (C0 (i:=3) B17.nd rfl (B3 rfl) (W9 E7))) (@F2 _ _ _ _ _ _ (F3 (C0 (i:=4) B17.nd rfl (B3 rfl) (E4 (B0 mf (hr.mono DD) rfl T.bB.m T.bB.F.kp mh .nil A7 (Y2 (pv 2) E3 A0) (he:=A0) (hpl:=A3))))) (@F2 _ _ _ _ _ _ (@B1d _ _ _ _ _ (@A15 _ _ _ _ _ _ V5 (J5 T2 y4 (A39 (E9 U0 rfl T.aN T3 (A1 (pv 3) A5 A0) (he:=A0) (hpl:=A3))) (C2 (pv 0) (D6 (D0 (v:=V.int 0) rfl T.bP ⟨_,rfl⟩)) (λ_ _=>rfl)) (C8 _)) (@F2 _ _ _ _ _ _ (A9j (V6 (r8 A1j A8z A80 A3r (pv 3) (A1 (A2 (pv 4)) A5 A0)))) (@F2 _ _ _ _ _ _ (@F3 _ _ _ _ _ (@C0 _ _ 4 _ _ _ _ B17.nd rfl (B3 rfl) (@E4 _ _ _ _ _ _ _ (@B0 _ _ _ _ _ _ _ _ _ _ _ _ _ _ _ _ lP (hr.mono DD) rfl T.bp.m T.bp.F.kp lQ .nil A7 (B4 (A2 (pv 0)) (B4 (A2 (pv 1)) (B4 (C2 (pv 4) (D6 (D0 (v:=V.int 0) rfl T.cy ⟨_,rfl⟩)) (λ_ _=>rfl)) (B4 (C2 (pv 4) (D6 (D0 (v:=V.int 0) rfl T.cy ⟨_,rfl⟩)) (λ_ _=>rfl)) E3 A6) A6) A0) A0) DD A0 ((A4 A0 (A4 A6 (A4 A6 A3)))))) (by rfl) (by first | exact .inl rfl | exact .inr rfl | assumption))) (C9 (N0 (J5 (A2b (K2 hr)) m7 (C2 (pv 4) (D6 (D0 (v:=V.int 0) rfl T.cy ⟨_,rfl⟩)) (λ_ _=>rfl)) (P2 (C2 (pv 3) (w6 C5) (λ_ _=>rfl)) (D6 (D0 (v:=V.int 0) rfl T.cy ⟨_,rfl⟩)) (λ_ _=>rfl)) (C8 _))
   (C9 (D8 (A2 (pv 3))))
   N8)))))) (F2 (A9j (V6 (r8 A1j A8z A80 A3r (pv 3) (A1 (A2 (pv 4)) A5 A0))))
   (C9 (D8 (A2 (pv 3)))))))),λds Q hl h=>?_⟩)
 obtain⟨m,ws,st,t,rfl,ok,ht,q⟩:=h
 have m2:=ok.m2
 left
 refine⟨DD,rfl,t,rfl,OO,?_⟩
 unfold A9l
 refine⟨fun μ ρ=>∃(rs:List Rw) (r:Rw),ρ=[Sl.sh (E8 m ws),Sl.sh (.int st),Sl.bo (B7 t),Sl.ow (rs.map V3),Sl.sh (V3 r)]/\rs.length + μ=m/\r.1.length=m/\rs++T6 m ws st μ r=T6 m ws st m (t,E5 m none),⟨m,[],(t,E5 t.length none),rfl,by simp,ht,by rw[ht];rfl⟩,?_⟩
 rintro μ ρ ⟨rs,r,rfl,h1,h2,h3⟩
 right
 rw[C6]
 cases μ with
 | zero=>
  rw[decide_eq_false (OO)]
  right
  refine⟨OO,?_⟩
  have e:rs++[r]=T6 m ws st m (t,E5 m none):=h3
  rw[<-e,R7] at q
  exact q
 | succ μ=>
  rw[decide_eq_true (OO)]
  decreasing_trivial_pre_omega
  refine⟨by rw[C6];lia,?_⟩
  refine⟨m,ws,st,r.1,r.1,rfl,ok,h2,h2,?_⟩
  right
  rw[show -(1:Int)=-1 from rfl,B8p]
  right
  refine⟨C2c _,C2c _,by rw[C2e,C2e];decide,?_⟩
  rw[D2n]
  by_cases c:(P3 m ws st r.1 r.1).1=r.1
  ·rw[decide_eq_true c]
   right
   have e:rs++[r]=T6 m ws st m (t,E5 m none):=by rw[<-h3,T6,if_pos c]
   rw[<-e,R7] at q
   exact q
  ·rw[decide_eq_false c]
   right
   refine⟨μ,OO,rs++[r],P3 m ws st r.1 r.1,by rw[R7];rfl,by simp;lia,(A0a (st:=st) (t:=r.1) ok h2).l1,?_⟩
   rw[<-h3,T6,if_neg c]
   simp
theorem D2t (T:Txt K mg):C1 P w K mg base CX0 1 T.aY.a T.aY.d ["land", "rows"] (spD [.sh,.sh] D2p):=by
 refine F8 T.aY.F D0e rfl (λC cdv A outer s H E hr=>⟨_,(C9 (D8 (w4 p8 A2f (A39 (E9 U0 rfl T.aN T3 (A1 (pv 1) A5 A0) (he:=A0) (hpl:=A3))) (C2 (pv 0) (D6 (D0 (v:=V.int 0) rfl T.bP ⟨_,rfl⟩)) (λ_ _=>rfl)) (C8 _)))),λds Q hl h=>?_⟩)
 obtain⟨m,ws,rs,rfl,q⟩:=h
 right
 rw[C6]
 rw[show decide (((m:Nat):Int) < ((rs.length:Nat):Int))=decide (m < rs.length) by by_cases c:m < rs.length <;> simp [c]]
 exact q
theorem D2u (T:Txt K mg):C1 P w K mg base CX0 2 T.aZ.a T.aZ.d ["land", "rows"] (spD [.sh,.sh] D2q):=by
 have iw:=@C18 P w K mg base T
 have ix:=T.bg.b
 refine F8 T.aZ.F C1o rfl (λC cdv A outer s H E hr=>⟨_,(@F2 _ _ _ _ _ _ (F3 (C0 (i:=2) C1o.nd rfl (Or.inr rfl) (P2 (C2 (pv 1) (w6 C5) (λ_ _=>rfl)) (D6 (D0 (v:=V.int 1) rfl T.jG ⟨_,rfl⟩)) (λ_ _=>rfl)))) (@C9 _ _ _ _ (@D8 _ _ _ _ _ (@E4 _ _ _ _ _ _ _ (@B0 _ _ _ _ _ _ _ _ _ _ _ _ _ _ _ _ iw (hr.mono DD) rfl T.bg.m T.bg.F.kp ix .nil A7 (@B4 _ _ _ _ _ _ (A2 (pv 0)) (@B4 _ _ _ _ _ _ (A2 (pv 1)) (@B4 _ _ _ _ _ _ (@P2 _ _ _ _ _ _ _ (@K6 _ _ _ _ (@A05 _ _ _ _ _ _ _ _ rfl (W8 (Q0.new (N:=["land", "rows", "last"]) (osc:=B1 B1p) KK) rfl (B1c (A16 rfl T.cj (C3 (C2 (pv 0) (D6 (D0 (v:=V.int 0) rfl T.bP ⟨_,rfl⟩)) (λ_ _=>rfl)) E7 A6))) (λ_=>(B3u (J5 A3m A9c (C2 (pv 2) (A2 (pv 3)) (λ_ _=>rfl)) J0 (C8 _)))) (λ_=>(A2 (pv 3)))))) C5 (λ_ _=>rfl)) E3 A6) A0) A0) DD A0 ((A4 A0 (A4 A6 A3)))))))),λds Q hl h=>?_⟩)
 obtain⟨m,ws,rs,r,rfl,ok,hR,hn,hl2,⟨p0,n0,hp0⟩,q⟩:=h
 have m2:=ok.m2
 have hr0:=hR r (List.mem_of_getLast? hl2)
 array_mem_dec
 rw[show -(1:Int)=-1 from rfl,A91 (B2b hl2)]
 array_mem_dec
 refine⟨⟨OO,OO⟩,⟨rfl,by unfold U4;rw[C6,j7];lia⟩,?_⟩
 unfold U4
 rw[show ((m:Nat):Int).toNat=m by simp]
 refine B4q (p:=λi=>(gt r.2 i).isSome) (f:=λi=>.int (0 + ((i:Nat):Int))) (λi hi Q' q'=>?_) (λi hi _ Q' q'=>?_) ?_
 ·left
  rw[show (0:Int) + ((i:Nat):Int)=((i:Nat):Int) by lia] at q' ⊢
  rw[C13 (by rw[hr0.1];exact p5.mp hi)]
  left
  cases c:gt r.2 i with
  | none=>rw[c] at q';exact q'
  | some n=>rw[c] at q';exact q'
 ·exact q'
 ·have hp0m:p0 < m:=by
   by_cases h:p0 < m
   ·exact h
   ·rw[A40 (by rw[hr0.1];lia)] at hp0;cases hp0
  have hmem:p0∈(T8 m).filter λi=>(gt r.2 i).isSome:=B2v.mpr ⟨p5.mpr hp0m,by rw[hp0];rfl⟩
  cases hf:(T8 m).filter λi=>(gt r.2 i).isSome with
  | nil=>rw[hf] at hmem;cases hmem
  | cons p ps=>
   have hpm:p∈(T8 m).filter λi=>(gt r.2 i).isSome:=by rw[hf];exact D9
   obtain⟨h1,h2⟩:=B2v.mp hpm
   obtain⟨n,hn'⟩:=Option.isSome_iff_exists.mp h2
   rw[X5,Q9,C8g]
   left
   refine⟨m,ws,rs,p,by rw[show (0:Int) + ((p:Nat):Int)=((p:Nat):Int) by lia];rfl,p5.mp h1,ok,hR,hn,q p n (p5.mp h1) hn'⟩
end
theorem C2f {P:Nat->Nat}:∀k:Nat,(∀i j,i < j->j < k->P i≠P j)->((T8 k).map P).Nodup
 | 0,_=>List.nodup_nil
 | k + 1,h=>by
  rw[List.range_succ,R7,List.nodup_append]
  refine⟨C2f k λi j h1 h2=>h i j h1 OO,by simp,λa ha b hb=>?_⟩
  obtain⟨i,hi,rfl⟩:=S5.mp ha
  have:b=P k:=by simpa using hb
  subst this
  exact h i k (p5.mp hi) (OO)
def plI (P:Nat->Nat) (n:Nat):List Int:=((T8 n).map P).map λp=>((p:Nat):Int)
theorem B6q {P:Nat->Nat} {n:Nat} {x:Nat}:((x:Nat):Int)∈plI P n↔∃i,i < n/\P i=x:=by
 unfold plI
 constructor
 ·intro h
  obtain⟨y,hy,e⟩:=S5.mp h
  obtain⟨i,hi,rfl⟩:=S5.mp hy
  exact⟨i,p5.mp hi,OO⟩
 ·rintro ⟨i,hi,rfl⟩
  exact S5.mpr ⟨P i,S5.mpr ⟨i,p5.mpr hi,rfl⟩,rfl⟩
theorem D2v {P:Nat->Nat} {n:Nat}:F5 ((T8 n).map P)=(plI P n).map PyData.int:=by
 simp only[F5,plI,j8]
 rfl
theorem B6r {P:Nat->Nat} {n:Nat}:(plI P n).length=n:=by unfold plI;rw[C6,C6,j7]
theorem D2w {P:Nat->Nat} {n:Nat} {x:Nat} (h:((x:Nat):Int)∈plI P n):(plI P n).idxOf ((x:Nat):Int) < n/\P ((plI P n).idxOf ((x:Nat):Int))=x:=by
 have h1:=B20.mpr h
 have h2:=C4i h1
 rw[B6r] at h1
 refine⟨h1,?_⟩
 have hx:∀i (h:i < (plI P n).length),(plI P n)[i]=((P i:Nat):Int):=λi h=>by simp [plI]
 rw[hx] at h2
 lia
section
variable {P:Program} {w:World} {K:A9} {mg:Str->Option Value} {base:Heap}
theorem D2x (T:Txt K mg):C1 P w K mg base CX0 1 T.aB.a T.aB.d ["land", "walk"] (spD [.sh,.sh] D2r):=by
 refine F8 T.aB.F A9t rfl (λC cdv A outer s H E hr=>⟨_,(@F2 _ _ _ _ _ _ (@F3 _ _ _ _ _ (@C0 _ _ 2 _ _ _ _ A9t.nd rfl (B3 rfl) (@K6 _ _ _ _ (@A9g _ _ _ _ _ _ _ (K6 (W9 (C3 (C2 (pv 1) (D6 (D0 (v:=V.int 0) rfl T.cM ⟨_,rfl⟩)) (λ_ _=>rfl)) E7 A6))) (@K6 _ _ _ _ (@A05 _ _ _ _ _ _ _ _ rfl (@W8 _ _ _ _ _ _ _ _ _ _ _ _ _ _ _ (Q0.new (N:=["land", "walk", "places", "end", "begin"]) (osc:=B1 B1q) KK) rfl (A9i (C2 (pv 1) (D6 (D0 (v:=V.int 1) rfl T.gC ⟨_,rfl⟩)) (λ_ _=>rfl))) (λ_=>y8) (λ_=>(P2 (P2 (C2 (pv 0) (D6 (D0 (v:=V.int 1) rfl T.bQ ⟨_,rfl⟩)) (λ_ _=>rfl)) (A2 (pv 5)) (λ_ _=>rfl)) (D6 (D0 (v:=V.int 1) rfl T.cq ⟨_,rfl⟩)) (λ_ _=>rfl))) (by rfl) (by rfl) (by intro _;rfl)))))) (by rfl) (by first | exact .inl rfl | exact .inr rfl | assumption))) (@F2 _ _ _ _ _ _ (F3 (C0 (i:=3) A9t.nd rfl (B3 rfl) C5)) (@F2 _ _ _ _ _ _ (B1d (A15 V5 (J5 C6i C8e (C2 (pv 2) (A2 (pv 3)) (λ_ _=>rfl)) (K6 (B90 (pv 2) B4c (A9f (A2 (pv 3))))) (by with_unfolding_all rfl))
   (C9 (F3 (C0 (i:=3) A9t.nd rfl (B3 rfl) (F6 K5 S6 (A2 (pv 3)) C5)))))) (@F2 _ _ _ _ _ _ (F3 (C0 (i:=4) A9t.nd rfl (B3 rfl) (C0f (r8 A1j C4h PySem.F.type_list_index B9h (pv 2) (A1 (C2 (pv 2) (A2 (pv 3)) (λ_ _=>rfl)) A5 A6))))) (C9 (D8 (U2 (C3 (K6 (B91 (C2 (pv 1) (D6 (D0 (v:=V.int 1) rfl T.gC ⟨_,rfl⟩)) (λ_ _=>rfl)) B4c (A9f (A2 (pv 4))))) (C3 (K6 (B91 (C2 (pv 1) (D6 (D0 (v:=V.int 1) rfl T.gC ⟨_,rfl⟩)) (λ_ _=>rfl)) (A9f (A2 (pv 4))) (A9f (A2 (pv 3))))) E7 A6) A6)))))))),λds Q hl h=>?_⟩)
 obtain⟨m,ws,st,b,N,PP,L,rfl,ok,hb,W,hN,q⟩:=h
 have m2:=ok.m2
 have hpl:∀k,k<=m->PP k < m:=λk hk=>W.pl ok hb k (OO)
 unfold A93
 array_mem_dec
 refine⟨DD,⟨rfl,by rw[A24];lia⟩,?_⟩
 unfold F5
 refine z4 (f:=λn=>.int (A1s ws n:Nat)) (λn hm Q' q'=>?_) ?_
 ·obtain⟨k,hk,rfl⟩:=A5q.mp hm
  obtain⟨w,hw,_,e,_⟩:=W.way k N[k] (M4 hk)
  right
  rw[A5b hw]
  right
  have e2:A1s ws N[k]=w.2.1:=by unfold A1s;rw[hw]
  rw[e2] at q'
  exact q'
 ·left
  refine⟨by rw[C6];lia,?_⟩
  have epl:PyData.int ((PP 0:Nat):Int)::N.map (λn=>PyData.int ((A1s ws n:Nat):Int))=(plI PP (m + 1)).map PyData.int:=by
   have:=W.places
   rw[hN] at this
   rw[<-D2v,<-this]
   unfold F5
   rw[R7,j8]
   rfl
  rw[epl]
  unfold A9l
  refine⟨fun μ ρ=>∃(k:Nat) (z:Sl),ρ=[Sl.sh (E8 m ws),Sl.sh (A93 (PP 0) N),Sl.sh (.list ((plI PP (m + 1)).map PyData.int)),Sl.sh (.int (k:Nat)),z]/\1<=k/\k<=m/\μ + k=m/\∀i j,i < j->j < k->PP i≠PP j,⟨m - 1,1,_,rfl,OO,ok.m1,by have:=ok.m1;lia,λi j h1 h2=>OO⟩,?_⟩
  rintro μ ρ ⟨k,z,rfl,k1,k2,hμ,hd⟩
  right
  have eat:atI ((plI PP (m + 1)).map PyData.int) ((k:Nat):Int)=some (.int ((PP k:Nat):Int)):=c9 (by
   unfold plI
   rw[j8,K3,K3,B21 (OO)]
   rfl)
  have ecut:m8 ((plI PP (m + 1)).map PyData.int) none (some ((k:Nat):Int))=(plI PP k).map PyData.int:=by
   rw[B4r,<-A1i]
   congr 1
   unfold plI
   rw[<-A1i,<-A1i,List.take_range,B23 (OO)]
  rw[eat]
  right
  rw[ecut,A9m]
  right
  by_cases c:((PP k:Nat):Int)∈plI PP k
  ·rw[show (!(plI PP k).contains ((PP k:Nat):Int))=false by simp [c]]
   right
   rw[A9m]
   right
   have hc2:((PP k:Nat):Int)∈plI PP (m + 1):=B6q.mpr ⟨k,OO,rfl⟩
   refine⟨⟨hc2,by rw[B6r];lia⟩,?_⟩
   obtain⟨i0,hi0,ei0⟩:=B6q.mp c
   obtain⟨hi1,hi2⟩:=D2w hc2
   have hik:(plI PP (m + 1)).idxOf ((PP k:Nat):Int) < k:=by
    by_cases h:(plI PP (m + 1)).idxOf ((PP k:Nat):Int) < k
    ·exact h
    ·exfalso
     have hmem:((PP k:Nat):Int)∈(plI PP (m + 1)).take k:=by
      have:(plI PP (m + 1)).take k=plI PP k:=by
       unfold plI
       rw[<-A1i,<-A1i,List.take_range,B23 (OO)]
      rw[this];exact c
     have h1:=B20.mpr hmem
     rw[j6,B6r] at h1
     have h2:(plI PP (m + 1)).idxOf ((PP k:Nat):Int)=((plI PP (m + 1)).take k).idxOf ((PP k:Nat):Int):=by
      conv=>lhs;rw[<-List.take_append_drop k (plI PP (m + 1))]
      rw[List.idxOf_append,if_pos hmem]
     lia
   unfold A93
   right
   generalize (plI PP (m + 1)).idxOf ((PP k:Nat):Int)=i at hi1 hi2 hik
   refine⟨DD,?_⟩
   have qq:=q i k hik k2 hi2
   have e1:m8 (F5 N) none (some ((i:Nat):Int))=F5 (seg N 0 i):=by
    rw[B4r]
    unfold F5 seg
    rw[<-A1i,List.drop_zero,Nat.sub_zero]
   have e2:m8 (F5 N) (some ((i:Nat):Int)) (some ((k:Nat):Int))=F5 (seg N i k):=by
    rw[C8h (by rw[A24];lia) (by rw[A24];lia)]
    unfold F5 seg
    rw[A1i,List.map_drop]
   rw[e1,e2]
   exact qq
  ·rw[show (!(plI PP k).contains ((PP k:Nat):Int))=true by simp [c]]
   decreasing_trivial_pre_omega
   have hd2:∀i j,i < j->j < k + 1->PP i≠PP j:=λi j h1 h2 e=>by
    by_cases hj:j < k
    ·exact hd i j h1 hj e
    ·have:j=k:=by lia
     subst this
     exact c (B6q.mpr ⟨i,h1,e⟩)
   have hkm:k + 1<=m:=by
    have:=B43 m ((T8 (k + 1)).map PP) (C2f (k + 1) hd2) λx hx=>by
     obtain⟨i,hi,rfl⟩:=S5.mp hx
     exact hpl i (by have:=p5.mp hi;lia)
    rw[C6,j7] at this
    exact this
   exact⟨μ - 1,OO,k + 1,_,rfl,OO,hkm,OO,hd2⟩
end
theorem Wk.nb {ws:List Wy} {st:Int} {b:Tb} {N:List Nat} {P:Nat->Nat} {L:Nat->Int} (W:Wk ws st b N P L):∀n∈N,n < ws.length:=λn hn=>by
 obtain⟨k,hk,rfl⟩:=A5q.mp hn
 obtain⟨w,hw,_⟩:=W.way k N[k] (M4 hk)
 exact (A1d.mp hw).1
theorem D2y {N:List Nat} {i j n:Nat} (h:n∈seg N i j):n∈N:=List.mem_of_mem_drop (List.mem_of_mem_take h)
theorem B6s {N:List Nat} {i j:Nat}:(seg N i j).length<=N.length:=by
 unfold seg
 rw[j6,List.length_drop]
 lia
theorem C2g {m:Nat} {ws:List Wy} (ok:J7 m ws) (n:Nat):S8 ws n<=1000000000000000000:=by
 unfold S8
 split
 ·rename_i w hw;exact ok.hi w (R6 hw)
 ·decide
theorem C2h {B:Int}:∀{cs:List Int},(∀c∈cs,c<=B)->cs.sum<=(cs.length:Int) * B
 | [],_=>by simp
 | c::cs,h=>by
  have:=C2h (cs:=cs) λd hd=>h d (D3 _ hd)
  have h1:=h c D9
  rw[B7i,J8,B25,A8y]
  lia
theorem D2z {x g:Int} (hx:0 < x) (hg:0 < g):1<=-(-x / g)/\-(-x / g)<=x:=by
 have e:=Int.mul_ediv_add_emod (-x) g
 have r0:=B26 (-x) (show g≠0 by lia)
 have r1:=B7k (-x) hg
 generalize -x / g=d at e
 constructor
 ·by_cases h:0<=d
  ·have:=B7j (Int.le_of_lt hg) h
   lia
  ·lia
 ·by_cases h:-x<=d
  ·lia
  ·exfalso
   have h1:g * d<=g * (-x - 1):=Int.mul_le_mul_of_nonneg_left OO (OO)
   have h2:g * (-x - 1)=-(g * x) - g:=by rw[Int.mul_sub,Int.mul_neg,Int.mul_one]
   have h3:1 * x<=g * x:=Int.mul_le_mul_of_nonneg_right OO (OO)
   lia
theorem D20 {x g:Int} (hg:0 < g):x<=-(-x / g) * g:=by
 have e:=Int.mul_ediv_add_emod (-x) g
 have r0:=B26 (-x) (show g≠0 by lia)
 rw[Int.neg_mul,Int.mul_comm]
 lia
def j2 (N:List Nat) (i j k:Nat) (tm:Int):List Pt:=(prt (seg N 0 i)++[(seg N i j,tm)])++prt (seg N i (i + k))
def D21:DSp:=λds Q=>∃(m:Nat) (ws:List Wy) (st:Int) (b:Tb) (N:List Nat) (P:Nat->Nat) (L:Nat->Int),ds=[E8 m ws,.int st,.int (L 0),A93 (P 0) N]/\J7 m ws/\0<=st/\st<=1000000000000000000000/\G1 m st b/\Wk ws st b N P L/\N.length=m/\
 ∀i j k le g tp tm,i < j->j<=m->P i=P j->le<=L i->Rnd st (chs ws (seg N i j)) (L i) le g tp k->1<=tm->tm<=1000000000000000000000000->tp<=L i + tm * g->Q (.list ((j2 N i j k tm).map G4))
theorem A8i {ns:List Nat}:(prt ns).length<=1:=by unfold prt;split <;> simp
section
variable {P:Program} {w:World} {K:A9} {mg:Str->Option Value} {base:Heap}
theorem D22 (T:Txt K mg):C1 P w K mg base CX0 6 T.aL.a T.aL.d ["land", "store", "level", "walk"] (spD [.sh,.sh,.sh,.sh] D21):=by
 have jg:=@D2x P w K mg base T
 have jh:=T.aB.b
 have mj:=@D11 P w K mg base T
 have ml:=T.bA.b
 have eO:=@D2c P w K mg base T
 have eP:=T.av.b
 have fU:=@D12 P w K mg base T
 have fV:=T.ay.b
 have dW:=@C19 P w K mg base T
 have dX:=T.aG.b
 refine F8 T.aL.F A21 rfl (λC cdv A outer s H E hr=>⟨_,(@G5 _ _ _ _ _ _ (F3 (C0 (i:=4) A21.nd rfl (B3 rfl) (E4 (B0 jg (hr.mono DD) rfl T.aB.m T.aB.F.kp jh .nil A7 (B4 (A2 (pv 0)) (B4 (A2 (pv 3)) E3 A0) A0) (he:=A0) (hpl:=(A4 A0 A3)))))) (@G5 _ _ _ _ _ _ (F3 (C0 (i:=5) A21.nd rfl (B3 rfl) (C2 (pv 4) C5 (λ_ _=>rfl)))) (@G5 _ _ _ _ _ _ (F3 (C0 (i:=6) A21.nd rfl (B3 rfl) (C2 (pv 4) C5 (λ_ _=>rfl)))) (@G5 _ _ _ _ _ _ (@F3 _ _ _ _ _ (@C0 _ _ 7 _ _ _ _ A21.nd rfl (B3 rfl) (@E4 _ _ _ _ _ _ _ (@B0 _ _ _ _ _ _ _ _ _ _ _ _ _ _ _ _ mj (hr.mono DD) rfl T.bA.m T.bA.F.kp ml .nil A7 (B4 (A2 (pv 1)) (B4 (E4 (B0 eO (hr.mono DD) rfl T.av.m T.av.F.kp eP .nil A7 (B4 (A2 (pv 0)) (B4 (A2 (pv 6)) E3 A0) A0) (he:=A0) (hpl:=(A4 A0 A3)))) E3 D4) A0) DD A0 ((A4 D4 A3)))) (by rfl) (by first | exact .inl rfl | exact .inr rfl | assumption))) (@G5 _ _ _ _ _ _ (@F3 _ _ _ _ _ (@C0 _ _ 8 _ _ _ _ A21.nd rfl (B3 rfl) (@F6 _ _ _ _ _ _ _ _ _ _ A0t A2e (C2 (pv 7) (D6 (D0 (v:=V.int 2) rfl T.fS ⟨_,rfl⟩)) (λ_ _=>rfl)) (@P2 _ _ _ _ _ _ _ (@E4 _ _ _ _ _ _ _ (@B0 _ _ _ _ _ _ _ _ _ _ _ _ _ _ _ _ fU (hr.mono DD) rfl T.ay.m T.ay.F.kp fV .nil A7 (B4 (A2 (pv 1)) (B4 (A2 (pv 2)) (B4 (E4 (B0 eO (hr.mono DD) rfl T.av.m T.av.F.kp eP .nil A7 (B4 (A2 (pv 0)) (B4 (A2 (pv 5)) E3 A0) A0) (he:=A0) (hpl:=(A4 A0 A3)))) E3 D4) A0) A0) DD A0 ((A4 A0 (A4 D4 A3))))) (w6 C5) (λ_ _=>rfl))) (by rfl) (by first | exact .inl rfl | exact .inr rfl | assumption))) (@G5 _ _ _ _ _ _ (F3 (C0 (i:=9) A21.nd rfl (B3 rfl) (w6 (F6 B3x B9p (w6 (A2 (pv 8))) (C2 (pv 7) (D6 (D0 (v:=V.int 1) rfl T.eB ⟨_,rfl⟩)) (λ_ _=>rfl)))))) (@G5 _ _ _ _ _ _ (@F3 _ _ _ _ _ (@C0 _ _ 10 _ _ _ _ A21.nd rfl (B3 rfl) (@E4 _ _ _ _ _ _ _ (@B0 _ _ _ _ _ _ _ _ _ _ _ _ _ _ _ _ fU (hr.mono DD) rfl T.ay.m T.ay.F.kp fV .nil A7 (B4 (A2 (pv 1)) (B4 (C2 (pv 7) (D6 (D0 (v:=V.int 2) rfl T.fS ⟨_,rfl⟩)) (λ_ _=>rfl)) (B4 (E4 (B0 eO (hr.mono DD) rfl T.av.m T.av.F.kp eP .nil A7 (B4 (A2 (pv 0)) (B4 (A2 (pv 6)) E3 A0) A0) (he:=A0) (hpl:=(A4 A0 A3)))) E3 D4) A6) A0) DD A0 ((A4 A6 (A4 D4 A3))))) (by rfl) (by first | exact .inl rfl | exact .inr rfl | assumption))) (@C9 _ _ _ _ (@D8 _ _ _ _ _ (@K6 _ _ _ _ (@A9g _ _ _ _ _ _ _ (K6 (A9g (E4 (B0 dW (hr.mono DD) rfl T.aG.m T.aG.F.kp dX .nil A7 (B4 (A2 (pv 5)) E3 A0) (he:=A0) (hpl:=A3))) (K6 (W9 (C3 (U2 (C3 (A2 (pv 6)) (C3 (A2 (pv 9)) E7 A0) A0)) E7 l7))))) (E4 (B0 dW (hr.mono DD) rfl T.aG.m T.aG.F.kp dX .nil A7 (B4 (K6 (B90 (pv 6) B4c (A9f (C0f (r8 A1j C4h PySem.F.type_list_index B9h (pv 10) (A1 (A2 (pv 1)) A5 A0)))))) E3 A6) (he:=A6) (hpl:=A3)))))))))))))),λds Q hl h=>?_⟩)
 obtain⟨m,ws,st,b,N,PP,L,rfl,ok,h0,hst,hb,W,hN,q⟩:=h
 have m2:=ok.m2
 left
 refine⟨m,ws,st,b,N,PP,L,rfl,ok,hb,W,hN,λi j hij hj hp=>?_⟩
 have nb:∀a c n,n∈seg N a c->n < ws.length:=λa c n hn=>W.nb n (D2y hn)
 have fw:∀a c,(seg N a c).length<=900:=λa c=>by have:=@B6s N a c;lia
 have fw2:∀a c,(chs ws (seg N a c)).length<=900:=λa c=>by unfold chs;rw[C6];exact fw a c
 obtain⟨b0,b1⟩:=W.bd h0 hb i (OO)
 obtain⟨le,g,tp,k,R,hle⟩:=C8y b0 b1 (W.seg (i:=i) (j:=j) OO OO) (W.strict i j hij OO hp)
 have kl:k<=j - i:=by
  have:=R.kl
  unfold chs at this
  rw[C6,A9n (OO)] at this
  exact this
 refine go ?_;left
 refine go ?_;left
 refine go ?_;left
 refine⟨m,ws,seg N i j,rfl,nb i j,fw i j,?_⟩
 left
 refine⟨st,_,rfl,?_⟩
 rw[R.fx]
 refine go ?_;right
 refine⟨m,ws,seg N 0 i,rfl,nb 0 i,fw 0 i,?_⟩
 left
 refine⟨st,L 0,_,rfl,fw2 0 i,?_⟩
 have w0:=W.seg (i:=0) (j:=i) (O7 _) (OO)
 have hlast:(P4 st (L 0) (chs ws (seg N 0 i))).getLast?=some (L i):=by
  obtain⟨z,z1,z2⟩:=B40 w0 (chs ws (seg N 0 i)).length (F9 _)
  rw[B22 (F9 _),w0] at z2
  cases z2
  rw[List.getLast?_eq_getElem?,B41 w0]
  exact z1
 left
 rw[show -(1:Int)=-1 from rfl,A91 (xs:=M7 _) (B2b hlast)]
 left
 refine go ?_;left
 have hg:g < 100000000000000000000000000000000000000000000000000000000000000:=by
  rw[R.gs]
  have h1:=C2h (B:=1000000000000000000) (cs:=chs ws (seg N i j)) λc hc=>by
   obtain⟨n,_,rfl⟩:=S5.mp hc
   exact C2g ok n
  have h2:=fw2 i j
  lia
 refine⟨⟨R.g0,hg⟩,?_⟩
 refine go ?_;left
 refine⟨m,ws,seg N i j,rfl,nb i j,fw i j,?_⟩
 left
 refine⟨st,tp,_,rfl,fw2 i j,?_⟩
 refine go ?_;left
 refine⟨seg N 0 i,rfl,?_⟩
 left
 have hp1:=@A8i (seg N 0 i)
 refine⟨DD,DD,by rw[C6];simp;lia,?_⟩
 unfold M7
 rw[A9m]
 left
 refine⟨⟨R.km,by rw[R.ll];have:=fw2 i j;lia⟩,?_⟩
 rw[R.ki]
 have ecut:m8 (F5 (seg N i j)) none (some ((k:Nat):Int))=F5 (seg N i (i + k)):=by
  rw[B4r]
  unfold F5
  rw[<-A1i,B42 kl]
 rw[ecut]
 refine⟨_,rfl,?_⟩
 left
 have hp2:=@A8i (seg N i (i + k))
 refine⟨by simp;lia,?_⟩
 obtain⟨t1,t2⟩:=D2z (x:=tp - L i) (g:=g) (by have:=R.xt;lia) R.g0
 have t3:=R.tst
 have qq:=q i j k le g tp (-(-(tp - L i) / g)) hij hj hp hle R t1 OO (by have:=@D20 (tp - L i) g R.g0;lia)
 unfold j2 at qq
 rw[R7,R7] at qq
 exact qq
end
theorem Rows.risen {m:Nat} {ws:List Wy} {st:Int} {b:Tb} (ok:J7 m ws) (h0:0<=st) (hb:G1 m st b) {r:Rw} {rs:List Rw} (h:Rows m ws st b (r::rs)) (hn:rs≠[]):∃p n,gt r.2 p=some n:=by
 cases h with
 | one=>exact absurd rfl hn
 | @more r0 rs0 h' c=>
  obtain⟨a1,_,_⟩:=h'.ok ok h0 hb
  have I:=A0a (st:=st) (t:=r0.1) ok a1.len
  by_cases z:∃p n,gt (P3 m ws st r0.1 r0.1).2 p=some n
  ·exact z
  ·refine absurd (C0l (by rw[I.l1,a1.len]) λp=>I.no p ?_) c
   cases e:gt (P3 m ws st r0.1 r0.1).2 p with
   | none=>rfl
   | some n=>exact absurd ⟨p,n,e⟩ z
theorem Rows.rok {m:Nat} {ws:List Wy} {st:Int} {b:Tb} (ok:J7 m ws) (h0:0<=st) (hb:G1 m st b):∀{rs:List Rw},Rows m ws st b rs->A5c m ws rs
 | _,.one=>λr hr=>by
  have:r=(b,E5 m none):=by simpa using hr
  subst this
  exact⟨by simp,λq n e=>by rw[A43] at e;cases e⟩
 | _,.more (r:=r0) h c=>λr hr=>by
  rcases N3.mp hr with e | hr
  ·subst e
   obtain⟨a1,_,_⟩:=h.ok ok h0 hb
   have I:=A0a (st:=st) (t:=r0.1) ok a1.len
   refine⟨I.l2,λq n e=>?_⟩
   obtain⟨w,hw,_⟩:=I.yes q n e
   exact (A1d.mp hw).1
  ·exact Rows.rok ok h0 hb h r hr
theorem D23 {m:Nat} {ws:List Wy} {st:Int} {b:Tb} (ok:J7 m ws) (h0:0<=st) (hb:G1 m st b):∃r rs,(T6 m ws st m (b,E5 m none)).reverse=r::rs/\(T6 m ws st m (b,E5 m none)).getLast?=some r/\(T6 m ws st m (b,E5 m none)).length=rs.length + 1/\rs.length<=m/\Rows m ws st b (r::rs)/\A5c m ws (T6 m ws st m (b,E5 m none))/\
  ((T6 m ws st m (b,E5 m none)).length<=m->N9 m ws st b r.1):=by
 obtain⟨r,rs,e,h,z⟩:=C0o (m:=m) (ws:=ws) (st:=st) (b:=b) m (b,E5 m none) [] .one
 rw[List.reverse_nil,X5] at e
 have hl:(T6 m ws st m (b,E5 m none)).length=rs.length + 1:=by
  rw[<-A0l,e];rfl
 have hbd:∀(k:Nat) (q:Rw),(T6 m ws st k q).length<=k + 1:=by
  intro k
  induction k with
  | zero=>intro q;exact F9 _
  | succ k ih=>
   intro q
   unfold T6
   split
   ·simp
   ·have:=ih (P3 m ws st q.1 q.1);simp;lia
 have hb2:=hbd m (b,E5 m none)
 refine⟨r,rs,e,?_,hl,OO,h,λq hq=>h.rok ok h0 hb q (by rw[<-e];exact List.mem_reverse.mpr hq),λhm=>?_⟩
 ·rw[<-List.head?_reverse,e];rfl
 ·rcases z with z | z
  ·exact h.least ok h0 hb z
  ·rw[J8] at z
   simp at z
   lia
abbrev Rd:=Nat×List Pt
def o8 (r:Rd):PyData:=.tuple [.int (r.1:Nat),.list (r.2.map G4)]
def itF (st:Int) (cs:List Int):Nat->Option Int->Option Int
 | 0,o=>o
 | n + 1,o=>itF st cs n (wkF st o cs)
def V4 (ws:List Wy) (st:Int):Option Int->List Pt->Option Int
 | o,[]=>o
 | o,p::ps=>V4 ws st (itF st (chs ws p.1) p.2.toNat o) ps
theorem A94 {ws:List Wy} {st:Int}:∀(xs:List Pt) (o:Option Int) (ys:List Pt),V4 ws st o (xs++ys)=V4 ws st (V4 ws st o xs) ys
 | [],_,_=>rfl
 | x::xs,o,ys=>A94 xs _ ys
theorem B6t {ws:List Wy} {st:Int} {o:Option Int} {ns:List Nat}:V4 ws st o (prt ns)=wkF st o (chs ws ns):=by
 cases ns with
 | nil=>rfl
 | cons n ns=>rfl
theorem C2i {st:Int} {cs:List Int} {le g tp:Int} (fx:fxF st cs=some (le,g,tp)) (g0:0 < g) (tst:tp<=st):∀(n:Nat) {x:Int},0<=x->le<=x->x<=tp->itF st cs n (some x)=some (if x + ((n:Nat):Int) * g < tp then x + ((n:Nat):Int) * g else tp)
 | 0,x,x0,h1,h2=>by
  show some x=_
  congr 1
  split <;> simp at * <;> lia
 | n + 1,x,x0,h1,h2=>by
  show itF st cs n (wkF st (some x) cs)=_
  have w:=A6z x0 (show x<=st by lia) cs
  rw[fx] at w
  unfold M6 at w
  dsimp only at w
  rw[if_neg (OO)] at w
  rw[<-w]
  have e:(((n + 1:Nat)):Int) * g=((n:Nat):Int) * g + g:=by rw[B25,A8y];simp
  have e0:0<=((n:Nat):Int) * g:=B7j OO (OO)
  rw[C2i fx g0 tst n (by split <;> lia) (by split <;> lia) (by split <;> lia),e]
  congr 1
  split <;> split <;> split <;> lia
theorem D24 {ws:List Wy} {st:Int} {b:Tb} {N:List Nat} {P:Nat->Nat} {L:Nat->Int} {m:Nat} (W:Wk ws st b N P L) (h0:0<=st) (hb:G1 m st b) {i j:Nat} (hij:i < j) (hj:j<=N.length) {le g tp tm:Int} {k:Nat} (hle:le<=L i) (R:Rnd st (chs ws (seg N i j)) (L i) le g tp k) (t1:1<=tm) (t3:tp<=L i + tm * g) :
  V4 ws st (some (L 0)) (j2 N i j k tm)=some st:=by
 have kl:k<=j - i:=by
  have:=R.kl
  unfold chs at this
  rw[C6,A9n hj] at this
  exact this
 unfold j2
 rw[A94,A94,B6t (o:=some (L 0)),W.seg (O7 _) (OO)]
 have hr:V4 ws st (some (L i)) [(seg N i j,tm)]=some tp:=by
  show itF st (chs ws (seg N i j)) tm.toNat (some (L i))=_
  rw[C2i R.fx R.g0 R.tst tm.toNat (W.bd h0 hb i OO).1 hle (Int.le_of_lt R.xt),if_neg (by rw[show ((tm.toNat:Nat):Int)=tm by lia];lia)]
 rw[hr,B6t]
 have kw:=R.kw
 unfold chs at kw ⊢
 rw[<-A1i,B42 kl] at kw
 exact kw
structure C2j (ws:List Wy) (st:Int) (b0:Tb) (r:Rd) (q:Nat) (y:Int):Prop where
 trp:Trp ws r.1 r.2 q
 arr:∃y0,gt b0 r.1=some y0/\V4 ws st (some y0) r.2=some y
structure A1y (m:Nat) (ws:List Wy) (st:Int) (b0 b:Tb) (rd:List Rd) (B:Nat):Prop where
 len:rd.length=m
 ok:∀q y r,gt b q=some y->rd[q]?=some r->C2j ws st b0 r q y
 few:∀r∈rd,r.2.length<=B/\∀pt∈r.2,pt.1.length<=m
theorem A1y.more {m:Nat} {ws:List Wy} {st:Int} {b0 b:Tb} {rd:List Rd} {B C:Nat} (h:A1y m ws st b0 b rd B) (l:B<=C):A1y m ws st b0 b rd C:=⟨h.len,h.ok,λr hr=>⟨b3 (h.few r hr).1 l,(h.few r hr).2⟩⟩
def B6u (st:Int) (b0 b:Tb):Prop:=∀p,gt b p=gt b0 p\/gt b p=some st
theorem D25 {N:List Nat} {i j k:Nat} {tm:Int}:∀pt∈j2 N i j k tm,pt.1.length<=N.length:=λpt h=>by
 have hp:∀{a c:Nat},pt∈prt (seg N a c)->pt.1.length<=N.length:=λ{a c} h=>by
  unfold prt at h
  split at h
  ·cases h
  ·have:pt=(seg N a c,1):=by simpa using h
   subst this
   exact B6s
 unfold j2 at h
 rcases A0g.mp h with h | h
 ·rcases A0g.mp h with h | h
  ·exact hp h
  ·have:pt=(seg N i j,tm):=by simpa using h
   subst this
   exact B6s
 ·exact hp h
theorem A1y.fill {m:Nat} {ws:List Wy} {st:Int} {b0 b:Tb} {rd:List Rd} {B:Nat} (h:A1y m ws st b0 b rd B) {p f:Nat} {x:Int} {r:Rd} {ps:List Pt} (hf:f < b.length) (hp:gt b p=some x) (hr:rd[p]?=some r) (ht:Trp ws p ps f) (ha:V4 ws st (some x) ps=some st) (h3:ps.length<=3) (hfe:∀pt∈ps,pt.1.length<=m):A1y m ws st b0 (b.set f (some st)) (rd.set f (r.1,r.2++ps)) (B + 3):=by
 refine⟨by rw[Y6];exact h.len,λq y r' hq hr'=>?_,λr' hr'=>?_⟩
 ·rw[A42 hf] at hq
  by_cases c:f=q
  ·subst c
   rw[if_pos rfl] at hq
   cases hq
   rw[A3f] at hr'
   simp only[if_true] at hr'
   split at hr'
   ·cases hr'
    obtain⟨t,y0,e0,e1⟩:=h.ok p x r hp hr
    exact⟨t.app ht,y0,e0,by rw[A94,e1];exact ha⟩
   ·cases hr'
  ·rw[if_neg c] at hq
   rw[A1e c] at hr'
   exact h.ok q y r' hq hr'
 ·rcases List.mem_or_eq_of_mem_set hr' with z | rfl
  ·exact⟨by have:=(h.few r' z).1;lia,(h.few r' z).2⟩
  ·have z:=h.few r (R6 hr)
   refine⟨by have:=z.1;rw[U6];lia,λpt hpt=>?_⟩
   rcases A0g.mp hpt with q | q
   ·exact z.2 pt q
   ·exact hfe pt q
theorem B2c {m:Nat} {ws:List Wy} {st:Int} {b:Tb} (ok:J7 m ws) (h0:0<=st) (hb:G1 m st b):∀{r:Rw} {rs:List Rw},Rows m ws st b (r::rs)->∀p x,gt r.1 p=some x->
  ∃q y N,wlk ws (r::rs) p=(q,N)/\gt b q=some y/\Pth ws q N p/\wkF st (some y) (chs ws N)=some x/\N.length<=rs.length
 | _,_,.one,p,x,e=>by
  refine⟨p,x,[],?_,e,.nil,rfl,O7 _⟩
  show (match gt (E5 m (none:Option Nat)) p with
   | none=>wlk ws [] p
   | some n=>((wlk ws [] (Q8 ws n)).1,(wlk ws [] (Q8 ws n)).2++[n]))=_
  rw[A43]
  rfl
 | _,_,.more (r:=r) (rs:=rs) h c,p,x,e=>by
  obtain⟨a1,_,a3⟩:=h.ok ok h0 hb
  have I:=A0a (st:=st) (t:=r.1) ok a1.len
  have ew:wlk ws (P3 m ws st r.1 r.1::r::rs) p=(match gt (P3 m ws st r.1 r.1).2 p with
   | none=>wlk ws (r::rs) p
   | some n=>((wlk ws (r::rs) (Q8 ws n)).1,(wlk ws (r::rs) (Q8 ws n)).2++[n])):=rfl
  cases hn:gt (P3 m ws st r.1 r.1).2 p with
  | none=>
   obtain⟨q,y,N,f1,f2,f3,f4,f5⟩:=B2c ok h0 hb h p x (by rw[<-I.no p hn];exact e)
   exact⟨q,y,N,by rw[ew,hn];exact f1,f2,f3,f4,by rw[J8];lia⟩
  | some n=>
   obtain⟨w,hw,e1,e2,e3⟩:=I.yes p n hn
   rw[e] at e2
   obtain⟨l',hl',hs⟩:∃l',gt r.1 w.1=some l'/\J6 st l' w.2.2=some x:=by
    have hl2:=e2.symm
    unfold O3 at hl2
    split at hl2
    ·cases hl2
    ·rename_i l' e;exact⟨l',e,hl2⟩
   obtain⟨q,y,N,f1,f2,f3,f4,f5⟩:=B2c ok h0 hb h w.1 l' hl'
   have ws1:Q8 ws n=w.1:=by unfold Q8;rw[hw]
   have wc:S8 ws n=w.2.2:=by unfold S8;rw[hw]
   refine⟨q,y,N++[n],by rw[ew,hn];show ((wlk ws (r::rs) (Q8 ws n)).1,(wlk ws (r::rs) (Q8 ws n)).2++[n])=_;rw[ws1,f1],f2,f3.app (by rw[<-e1];exact .cons hw .nil),?_,by simp only[U6,J8,A3g];lia⟩
   unfold chs
   rw[R7,B4z]
   show wkF st (wkF st (some y) (chs ws N)) [S8 ws n]=_
   rw[f4,wc]
   exact hs
def D26:DSp:=λds Q=>∃(m:Nat) (ws:List Wy) (st:Int) (b0:Tb),ds=[E8 m ws,.int st,.list (B7 b0)]/\J7 m ws/\0<=st/\st<=1000000000000000000000/\G1 m st b0/\
 ∀(rs qs:List Rw) (r:Rw) (b:Tb) (rd:List Rd),rs.getLast?=some r->rs.reverse=r::qs->N9 m ws st b0 r.1->Rows m ws st b (r::qs)->A5c m ws rs->rs.length<=m->G1 m st b->B6u st b0 b->A1y m ws st b0 b rd (3 * m)->Q (.tuple [.list (rs.map V3),.list (rd.map o8)])
def A8j (m:Nat) (ws:List Wy) (st:Int) (b0 t:Tb):Prop:=∀p x,gt t p=some x->∃q y N,(gt b0 q=some y\/y=st)/\gt t q≠none/\leO (some y) (gt t q)/\Pth ws q N p/\wkF st (some y) (chs ws N)=some x/\N.length + 1<=m
theorem C2k {m:Nat} {ws:List Wy} {st:Int} {b0 b:Tb} (ok:J7 m ws) (h0:0<=st) (hb:G1 m st b) (hf:B6u st b0 b) {r:Rw} {rs:List Rw} (h:Rows m ws st b (r::rs)) (hl:rs.length + 1<=m):A8j m ws st b0 r.1:=λp x e=>by
 obtain⟨q,y,N,_,f2,f3,f4,f5⟩:=B2c ok h0 hb h p x e
 have up:=(h.ok ok h0 hb).2.2 q
 rw[f2] at up
 refine⟨q,y,N,?_,λz=>by rw[z] at up;exact n6 up,up,f3,f4,OO⟩
 rcases hf q with z | z
 ·exact .inl (by rw[<-z];exact f2)
 ·rw[f2] at z;cases z;exact .inr rfl
def C2l:DSp:=λds Q=>∃(m:Nat) (ws:List Wy) (st:Int) (b0:Tb),ds=[E8 m ws,.int st,.list (B7 b0)]/\J7 m ws/\0<=st/\st<=1000000000000000000000/\G1 m st b0/\∀t,N9 m ws st b0 t->A8j m ws st b0 t->Q (.list (B7 t))
theorem D27 {st:Int} {b:Tb}:A46 st b<=b.length:=List.countP_le_length
theorem D28 {N:List Nat} {i j k:Nat} {tm:Int}:(j2 N i j k tm).length<=3:=by
 unfold j2
 have h1:=@A8i (seg N 0 i)
 have h2:=@A8i (seg N i (i + k))
 rw[U6,U6]
 simp
 lia
section
variable {P:Program} {w:World} {K:A9} {mg:Str->Option Value} {base:Heap}
theorem C2m (T:Txt K mg):C1 P w K mg base CX0 7 T.bh.a T.bh.d ["land", "store", "base"] (spD [.sh,.sh,.bo] D26):=by
 have js:=@D2s P w K mg base T
 have jt:=T.aQ.b
 have lj:=@D2t P w K mg base T
 have lm:=T.aY.b
 have lu:=@D2u P w K mg base T
 have lA:=T.aZ.b
 have jY:=@D22 P w K mg base T
 have jZ:=T.aL.b
 have qi:=@D2l P w K mg base T
 have qj:=T.cD.b
 refine F8 T.bh.F A1v rfl (λC cdv A outer s H E hr=>⟨_,(@G5 _ _ _ _ _ _ (A2q (C0 (i:=3) A1v.nd rfl (B3 rfl) (B4b (W6 Z3 rfl T.aD V0 (A1 (pv 2) A5 A0) (he:=A0) (hpl:=A3))))) (@G5 _ _ _ _ _ _ (@C77 _ _ _ _ _ _ _ _ _ rfl (@B03 _ _ _ _ _ _ _ _ _ _ _ _ _ 4 _ _ _ _ _ A1v.nd rfl (B3 rfl) (Q0.new (N:=["land", "store", "base", "table", "roads", "rows", "walk", "parts", "full", "road"]) (osc:=B1 B1r) KK) rfl (B1c (A16 rfl T.cj (C3 (C2 (pv 0) (D6 (D0 (v:=V.int 0) rfl T.bP ⟨_,rfl⟩)) (λ_ _=>rfl)) E7 A6))) (λ_=>y8) (λ_=>(U2 (C3 (A2 (pv 10)) (C3 (K6 (W9 E7)) E7 l6) A0))) (by rfl) (by first | exact .inl rfl | exact .inr rfl | assumption) (by rfl) (by rfl) (by intro _;rfl))) (@G5 _ _ _ _ _ _ (F3 (C0 (i:=5) A1v.nd rfl (B3 rfl) (E4 (B0 js (hr.mono DD) rfl T.aQ.m T.aQ.F.kp jt .nil A7 (B4 (A2 (pv 0)) (B4 (A2 (pv 1)) (Y2 (pv 3) E3 A0) A0) A0) (he:=A0) (hpl:=(A4 A0 (A4 A0 A3))))))) (@G5 _ _ _ _ _ _ (@B1d _ _ _ _ _ (@A15 _ _ _ _ _ _ V5 (l8 (E4 (B0 lj (hr.mono DD) rfl T.aY.m T.aY.F.kp lm .nil A7 (B4 (A2 (pv 0)) (B4 (A2 (pv 5)) E3 A0) A0) (he:=A0) (hpl:=(A4 A0 A3))))) (@G5 _ _ _ _ _ _ (F3 (C0 (i:=6) A1v.nd rfl (B3 rfl) (E4 (B0 lu (hr.mono DD) rfl T.aZ.m T.aZ.F.kp lA .nil A7 (B4 (A2 (pv 0)) (B4 (A2 (pv 5)) E3 A0) A0) (he:=A0) (hpl:=(A4 A0 A3)))))) (@G5 _ _ _ _ _ _ (@F3 _ _ _ _ _ (@C0 _ _ 7 _ _ _ _ A1v.nd rfl (B3 rfl) (@E4 _ _ _ _ _ _ _ (@B0 _ _ _ _ _ _ _ _ _ _ _ _ _ _ _ _ jY (hr.mono DD) rfl T.aL.m T.aL.F.kp jZ .nil A7 (B4 (A2 (pv 0)) (B4 (A2 (pv 1)) (B4 (C2 (pv 3) (C2 (pv 6) (D6 (D0 (v:=V.int 0) rfl T.cM ⟨_,rfl⟩)) (λ_ _=>rfl)) (λ_ _=>rfl)) (B4 (A2 (pv 6)) E3 A0) A6) A0) A0) DD A0 ((A4 A0 (A4 A6 (A4 A0 A3)))))) (by rfl) (by first | exact .inl rfl | exact .inr rfl | assumption))) (@G5 _ _ _ _ _ _ (F3 (C0 (i:=8) A1v.nd rfl (B3 rfl) (E4 (B0 qi (hr.mono DD) rfl T.cD.m T.cD.F.kp qj .nil A7 (B4 (A2 (pv 0)) (B4 (C2 (pv 6) (D6 (D0 (v:=V.int 0) rfl T.cM ⟨_,rfl⟩)) (λ_ _=>rfl)) (B4 (A2 (pv 7)) E3 A0) A6) A0) (he:=A0) (hpl:=(A4 A6 (A4 A0 A3))))))) (@G5 _ _ _ _ _ _ (F3 (C0 (i:=9) A1v.nd rfl (B3 rfl) (C2 (pv 4) (C2 (pv 6) (D6 (D0 (v:=V.int 0) rfl T.cM ⟨_,rfl⟩)) (λ_ _=>rfl)) (λ_ _=>rfl)))) (@G5 _ _ _ _ _ _ (A9k (V7 (U2 (C3 (C2 (pv 9) (D6 (D0 (v:=V.int 0) rfl T.cM ⟨_,rfl⟩)) (λ_ _=>rfl)) (C3 (K6 (A9g (C2 (pv 9) (D6 (D0 (v:=V.int 1) rfl T.gC ⟨_,rfl⟩)) (λ_ _=>rfl)) (A2 (pv 7)))) E7 F4) A6)) (b6 (pv 4) (A2 (pv 8)) X9))) (@G5 _ _ _ _ _ _ (A9k (V7 (A2 (pv 1)) (b6 (pv 3) (A2 (pv 8)) X9))) (C9 (F3 (C0 (i:=5) A1v.nd rfl (B3 rfl) (E4 (B0 js (hr.mono DD) rfl T.aQ.m T.aQ.F.kp jt .nil A7 (B4 (A2 (pv 0)) (B4 (A2 (pv 1)) (Y2 (pv 3) E3 A0) A0) A0) (he:=A0) (hpl:=(A4 A0 (A4 A0 A3)))))))))))))))) (C9 (D8 (U2 (C3 (A2 (pv 5)) (C3 (A2 (pv 4)) E7 A0) A0)))))))),λds Q hl h=>?_⟩)
 obtain⟨m,ws,st,b0,rfl,ok,h0,hst,hb0,q⟩:=h
 have m2:=ok.m2
 left
 refine go ?_;array_mem_dec
 refine⟨⟨OO,OO⟩,⟨rfl,by unfold U4;rw[C6,j7];lia⟩,?_⟩
 unfold U4
 rw[show ((m:Nat):Int).toNat=m by simp]
 refine z4 (f:=λi=>.tuple [.int (0 + ((i:Nat):Int)),.list []]) (λi hi Q' q'=>?_) ?_
 ·left
  exact⟨DD,DD,q'⟩
 left
 rw[show A5s (λi=>PyData.tuple [.int (0 + ((i:Nat):Int)),.list []]) (T8 m)=A5s o8 ((T8 m).map λi=>(i,([]:List Pt))) by
  rw[j8]
  refine A5t λi _=>?_
  show PyData.tuple [.int (0 + ((i:Nat):Int)),.list []]=.tuple [.int ((i:Nat):Int),.list []]
  rw[Int.zero_add]]
 refine go ?_;left
 refine⟨rfl,m,ws,st,b0,rfl,ok,hb0.len,?_⟩
 left
 refine go ?_
 unfold T4 A9l
 refine⟨fun μ ρ=>∃(b:Tb) (rd:List Rd) (z2 z6 z7 z8 z9:Sl),ρ=[Sl.sh (E8 m ws),Sl.sh (.int st),z2,Sl.ow (B7 b),Sl.ow (rd.map o8),Sl.sh (.list ((T6 m ws st m (b,E5 m none)).map V3)),z6,z7,z8,z9]/\G1 m st b/\A46 st b=μ/\(∀t,N9 m ws st b t->N9 m ws st b0 t)/\B6u st b0 b/\A1y m ws st b0 b rd (3 * (m - μ)),
  ⟨A46 st b0,b0,_,_,_,_,_,_,rfl,hb0,rfl,λt h=>h,λp=>.inl rfl,by simp,λq y r hq hr=>?_,λr hr=>?_⟩,?_⟩
 ·rw[K3] at hr
  cases e:(T8 m)[q]? with
  | none=>rw[e] at hr;cases hr
  | some i=>
   rw[e] at hr
   obtain⟨_,e2⟩:=A1d.mp e
   rw[List.getElem_range] at e2
   subst e2
   cases hr
   exact⟨.nil,y,hq,rfl⟩
 ·obtain⟨i,_,rfl⟩:=S5.mp hr
  exact⟨O7 _,λpt h=>nomatch h⟩
 rintro μ ρ ⟨b,rd,z2,z6,z7,z8,z9,rfl,hb,hμ,hle,hfl,hrd⟩
 obtain⟨r,rs,e1,e2,e3,e4,hR,hok,hfin⟩:=D23 ok h0 hb
 left
 refine⟨m,ws,_,rfl,?_⟩
 by_cases c:m < (T6 m ws st m (b,E5 m none)).length
 ·rw[decide_eq_true c]
  sizeOf_list_dec
  have hne:rs≠[]:=λz=>by rw[z] at e3;have:=ok.m1;simp at e3;lia
  refine⟨m,ws,_,r,rfl,ok,hok,OO,e2,hR.risen ok h0 hb hne,λp n hp hn=>?_⟩
  obtain⟨N,PP,L,f1,f2,f3,f4,W,f6⟩:=C0x ok h0 hb hR p (.inr ⟨n,hn⟩)
  have hN:N.length=m:=by lia
  rw[e1,f1]
  have hbeg:gt b (PP 0)=some (L 0):=W.beg
  have hP0:PP 0 < m:=W.pl ok hb 0 (O7 _)
  refine go ?_;left
  rw[A5a (by rw[hb.len];exact hP0),hbeg]
  right
  refine⟨m,ws,st,b,N,PP,L,rfl,ok,h0,hst,hb,W,hN,λi j k le g tp tm hij hj hpp hle2 R t1 t2 t3=>?_⟩
  have kl:k<=j - i:=by
   have:=R.kl
   unfold chs at this
   rw[C6,A9n (OO)] at this
   exact this
  have hfull:PP (i + k) < m:=W.pl ok hb (i + k) (OO)
  have htrp:Trp ws (PP 0) (j2 N i j k tm) (PP (i + k)):=by
   unfold j2
   refine ((B6p (W.pth (i:=0) (j:=i) (O7 _) OO)).app ?_).app (B6p (W.pth (i:=i) (j:=i + k) OO OO))
   have hs:=W.pth (i:=i) (j:=j) OO (OO)
   rw[<-hpp] at hs
   exact .cons hs (λz=>by have:=congrArg p7 z;rw[A9n (OO)] at this;simp at this;lia) t1 t2 (.inr rfl) .nil
  have harr:=D24 W h0 hb hij OO hle2 R t1 t3
  refine go ?_;left
  refine⟨m,ws,PP 0,PP (i + k),_,rfl,htrp,?_⟩
  obtain⟨r0,hr0⟩:∃d,rd[PP 0]?=some d:=⟨_,M4 (by rw[hrd.len];exact hP0)⟩
  have hps:=(hrd.few r0 (R6 hr0)).1
  refine go ?_;left
  rw[c9 (show (rd.map o8)[PP 0]?=some (.tuple [.int (r0.1:Nat),.list (r0.2.map G4)]) by rw[K3,hr0];rfl)]
  left
  refine go ?_;left
  have h3:=@D28 N i j k tm
  have hlk:=C0z st b (PP (i + k)) (by rw[hb.len];exact hfull) (C80 W h0 hb hij OO hpp OO)
  have hlm:=@D27 st b
  rw[hb.len] at hlm
  refine⟨by rw[C6,C6];lia,DD,?_⟩
  rw[A90 (by rw[C6,hrd.len];exact hfull)]
  left
  rw[show (rd.map o8).set (PP (i + k)) (.tuple [.int (r0.1:Nat),.list (r0.2.map G4++(j2 N i j k tm).map G4)])=(rd.set (PP (i + k)) (r0.1,r0.2++j2 N i j k tm)).map o8 by
   rw[List.map_set,<-R7];rfl]
  refine go ?_;left
  rw[A90 (by rw[Y5,hb.len];exact hfull)]
  left
  rw[show (B7 b).set (PP (i + k)) (PyData.int st)=B7 (b.set (PP (i + k)) (some st)) from B6o (x:=some st)]
  refine go ?_;left
  have hb':=C81 h0 hb hfull
  refine⟨rfl,m,ws,st,_,rfl,ok,hb'.len,?_⟩
  left
  refine⟨A46 st (b.set (PP (i + k)) (some st)),OO,b.set (PP (i + k)) (some st),rd.set (PP (i + k)) (r0.1,r0.2++j2 N i j k tm),_,_,_,_,_,rfl,hb',rfl,λt h=>hle t (h.fill hb hfull λT hT h1 h2=>C8z W hij OO hpp hle2 R hT h1 h2),λp=>?_,(hrd.fill (by rw[hb.len];exact hfull) hbeg hr0 htrp harr h3 λpt hpt=>by rw[<-hN];exact D25 pt hpt).more OO⟩
  rw[A42 (by rw[hb.len];exact hfull)]
  split
  ·exact .inr rfl
  ·exact hfl p
 ·rw[decide_eq_false c]
  left
  refine go ?_
  left
  refine⟨DD,?_⟩
  exact q _ rs r b rd e2 e1 (hle _ (hfin OO)) hR hok OO hb hfl (hrd.more OO)
theorem B2d (T:Txt K mg):C1 P w K mg base CX0 8 T.aw.a T.aw.d ["land", "store", "base"] (spD [.sh,.sh,.bo] C2l):=by
 have iy:=@C2m P w K mg base T
 have iz:=T.bh.b
 refine F8 T.aw.F D0g rfl (λC cdv A outer s H E hr=>⟨_,(@C9 _ _ _ _ (@D8 _ _ _ _ _ (@P2 _ _ _ _ _ _ _ (P2 (P2 (E4 (B0 iy (hr.mono DD) rfl T.bh.m T.bh.F.kp iz .nil A7 (B4 (A2 (pv 0)) (B4 (A2 (pv 1)) (Y2 (pv 2) E3 A0) A0) A0) (he:=A0) (hpl:=(A4 A0 (A4 A0 A3))))) C5 (λ_ _=>rfl)) (w6 C5) (λ_ _=>rfl)) (D6 (D0 (v:=V.int 0) rfl T.cy ⟨_,rfl⟩)) (λ_ _=>rfl)))),λds Q hl h=>?_⟩)
 obtain⟨m,ws,st,b0,rfl,ok,h0,hst,hb0,q⟩:=h
 left
 refine⟨rfl,m,ws,st,b0,rfl,ok,h0,hst,hb0,λrs qs r b rd hl he hL hR hok hlen hb hf hrd=>?_⟩
 left
 rw[show -(1:Int)=-1 from rfl,A91 (B2b hl)]
 right
 have hq:qs.length + 1<=m:=by
  have:=congrArg p7 he
  rw[A0l,J8] at this
  lia
 exact q _ hL (C2k ok h0 hb hf hR hq)
theorem D29 {sp:DSp} {vs:List V} {H:Hp} {Q:VK} {E:XK} (hl:∀ds Qd,sp ds Qd->∃a b xs,ds=[a,b,.list xs]) (h:spD [.sh,.sh,.sh] sp vs H Q E):spD [.sh,.sh,.bo] sp vs H Q E:=by
 obtain⟨F,hand,ds,Qd,h1,h2,h3,ar,h5,h6⟩:=h
 refine⟨F,hand,ds,Qd,h1,h2,h3,?_,h5,h6⟩
 obtain⟨a,b,xs,rfl⟩:=hl _ _ h5
 cases ar with
 | cons t1 ar=>
 cases ar with
 | cons t2 ar=>
 cases ar with
 | cons t3 ar=>
 cases ar
 have t3:ThV F H _ (.list xs):=t3
 cases t3 with
 | lst g e t=>exact .cons t1 (.cons t2 (.cons ⟨_,_,_,rfl,rfl,(λq hq z=>h2 q hq (by rw[<-z];exact g)),e,t⟩ .nil))
theorem D3a (T:Txt K mg):C1 P w K mg base CX0 8 T.aw.a T.aw.d ["land", "store", "base"] (spD [.sh,.sh,.sh] C2l):=(B2d T).imp λvs H Q E h=>D29 (λds Qd z=>by
 obtain⟨m,ws,st,b,rfl,_⟩:=z
 exact⟨_,_,_,rfl⟩) h
end
def trO:Option Rd->PyData
 | none=>.none
 | some r=>o8 r
def A5d (ws:List Wy) (rs:List Rw) (rd:List Rd) (p:Nat):Rd:=((rd.getD (wlk ws rs.reverse p).1 (0,[])).1,(rd.getD (wlk ws rs.reverse p).1 (0,[])).2++prt (wlk ws rs.reverse p).2)
def D3b:DSp:=λds Q=>∃(m:Nat) (ws:List Wy) (rs:List Rw) (rd:List Rd) (p:Nat),ds=[E8 m ws,.list (rs.map V3),.list (rd.map o8),.int (p:Nat)]/\p < m/\J7 m ws/\A5c m ws rs/\rs.length<=900/\(wlk ws rs.reverse p).1 < rd.length/\(∀r∈rd,r.2.length<=900)/\Q (o8 (A5d ws rs rd p))
structure C2n (m:Nat) (ws:List Wy) (st:Int) (b0:Tb) (r:Rd) (p:Nat) (x:Int):Prop extends C2j ws st b0 r p x where
 few:r.2.length<=40
 thin:∀pt∈r.2,pt.1.length<=12
structure A95 (m:Nat) (ws:List Wy) (st:Int) (b0 t:Tb) (trs:List (Option Rd)):Prop where
 len:trs.length=m
 no:∀p,p < m->gt t p=none->trs[p]?=some none
 yes:∀p x,gt t p=some x->∃r,trs[p]?=some (some r)/\C2n m ws st b0 r p x
def D3c:DSp:=λds Q=>∃(m:Nat) (ws:List Wy) (st:Int) (b0:Tb),ds=[E8 m ws,.int st,.list (B7 b0)]/\J7 m ws/\0<=st/\st<=1000000000000000000000/\G1 m st b0/\∀t trs,N9 m ws st b0 t->A8j m ws st b0 t->A95 m ws st b0 t trs->Q (.list (trs.map trO))
theorem D3d (n:Nat):U4 0 n=(T8 n).map λk=>PyData.int ((k:Nat):Int):=by
 unfold U4
 exact A5t λk _=>by rw[Int.zero_add]
theorem D3e {ns:List Nat} {pt:Pt} (h:pt∈prt ns):pt.1.length<=ns.length:=by
 unfold prt at h
 split at h
 ·cases h
 ·have:pt=(ns,1):=by simpa using h
  subst this
  exact F9 _
theorem C2o {m:Nat} {ws:List Wy} {st:Int} {b0 b:Tb} {rd:List Rd} {r:Rw} {qs rs:List Rw} (ok:J7 m ws) (h0:0<=st) (hb:G1 m st b) (he:rs.reverse=r::qs) (hR:Rows m ws st b (r::qs)) (hl:rs.length<=m) (hrd:A1y m ws st b0 b rd (3 * m)) {p:Nat} {x:Int} (e:gt r.1 p=some x):(wlk ws rs.reverse p).1 < m/\C2n m ws st b0 (A5d ws rs rd p) p x:=by
 obtain⟨q,y,N,f1,f2,f3,f4,f5⟩:=B2c ok h0 hb hR p x e
 have m2:=ok.m2
 have hq:q < m:=by
  by_cases h:q < m
  ·exact h
  ·rw[A40 (by rw[hb.len];lia)] at f2;cases f2
 have hqs:qs.length + 1<=m:=by
  have:=congrArg p7 he
  rw[A0l,J8] at this
  lia
 rw[he,f1]
 refine⟨hq,?_⟩
 unfold A5d
 rw[he,f1]
 obtain⟨d,hd⟩:∃d,rd[q]?=some d:=⟨_,M4 (by rw[hrd.len];exact hq)⟩
 rw[List.getD_eq_getElem?_getD,hd]
 obtain⟨t,y0,e0,e1⟩:=hrd.ok q y d f2 hd
 have hfe:=hrd.few d (R6 hd)
 refine⟨⟨t.app (B6p f3),y0,e0,?_⟩,?_,λpt hpt=>?_⟩
 ·show V4 ws st (some y0) (d.2++prt N)=_
  rw[A94,e1,B6t]
  exact f4
 ·show (d.2++prt N).length<=40
  have:=hfe.1
  have:=@A8i N
  rw[U6]
  lia
 ·rcases A0g.mp (show pt∈d.2++prt N from hpt) with z | z
  ·have:=hfe.2 pt z;lia
  ·have:=D3e z;lia
section
variable {P:Program} {w:World} {K:A9} {mg:Str->Option Value} {base:Heap}
theorem D3f (T:Txt K mg):C1 P w K mg base CX0 3 T.bZ.a T.bZ.d ["land", "rows", "roads", "place"] (spD [.sh,.sh,.sh,.sh] D3b):=by
 have iw:=@C18 P w K mg base T
 have ix:=T.bg.b
 have dW:=@C19 P w K mg base T
 have dX:=T.aG.b
 refine F8 T.bZ.F B18 rfl (λC cdv A outer s H E hr=>⟨_,(@G5 _ _ _ _ _ _ (F3 (C0 (i:=4) B18.nd rfl (B3 rfl) (E4 (B0 iw (hr.mono DD) rfl T.bg.m T.bg.F.kp ix .nil A7 (B4 (A2 (pv 0)) (B4 (A2 (pv 1)) (B4 (A2 (pv 3)) E3 A0) A0) A0) (he:=A0) (hpl:=(A4 A0 (A4 A0 A3))))))) (@G5 _ _ _ _ _ _ (F3 (C0 (i:=5) B18.nd rfl (B3 rfl) (C2 (pv 2) (C2 (pv 4) (D6 (D0 (v:=V.int 0) rfl T.cM ⟨_,rfl⟩)) (λ_ _=>rfl)) (λ_ _=>rfl)))) (@G5 _ _ _ _ _ _ (@C78 _ _ _ _ _ _ _ _ _ rfl (@B03 _ _ _ _ _ _ _ _ _ _ _ _ _ 6 _ _ _ _ _ B18.nd rfl (B3 rfl) (Q0.new (N:=["land", "rows", "roads", "place", "walk", "road", "trip"]) (osc:=B1 B1s) KK) rfl (A9i (C2 (pv 5) (D6 (D0 (v:=V.int 1) rfl T.gC ⟨_,rfl⟩)) (λ_ _=>rfl))) (λ_=>y8) (λ_=>(U2 (C3 (K6 (C7s (W6 Z3 rfl T.aD V0 (A1 (C2 (pv 7) (D6 (D0 (v:=V.int 0) rfl T.cQ ⟨_,rfl⟩)) (λ_ _=>rfl)) A5 A6) (he:=A6) (hpl:=A3)))) (C3 (C2 (pv 7) (D6 (D0 (v:=V.int 1) rfl T.eG ⟨_,rfl⟩)) (λ_ _=>rfl)) E7 A6) D4))) (by rfl) (by first | exact .inl rfl | exact .inr rfl | assumption) (by rfl) (by rfl) (by intro _;rfl))) (@C9 _ _ _ _ (@D8 _ _ _ _ _ (@U2 _ _ _ _ _ _ (@C3 _ _ _ _ _ _ (C2 (pv 5) (D6 (D0 (v:=V.int 0) rfl T.cM ⟨_,rfl⟩)) (λ_ _=>rfl)) (C3 (K6 (A9g (A2 (pv 6)) (E4 (B0 dW (hr.mono DD) rfl T.aG.m T.aG.F.kp dX .nil A7 (B4 (C2 (pv 4) (D6 (D0 (v:=V.int 1) rfl T.gC ⟨_,rfl⟩)) (λ_ _=>rfl)) E3 A6) (he:=A6) (hpl:=A3))))) E7 F4) A6))))))),λds Q hl h=>?_⟩)
 obtain⟨m,ws,rs,rd,p,rfl,hp,ok,hR,hn,hw,hfe,q⟩:=h
 left
 refine⟨m,ws,rs,p,rfl,hp,ok,hR,hn,?_⟩
 obtain⟨d,hd⟩:∃d,rd[(wlk ws rs.reverse p).1]?=some d:=⟨_,M4 hw⟩
 have hd2:=hfe d (R6 hd)
 unfold A5d at q
 rw[List.getD_eq_getElem?_getD,hd] at q
 refine go ?_;left
 rw[c9 (show (rd.map o8)[(wlk ws rs.reverse p).1]?=some (o8 d) by rw[K3,hd];rfl)]
 unfold o8
 left
 refine go ?_;array_mem_dec
 refine⟨⟨rfl,by rw[C6];lia⟩,?_⟩
 refine z4 (f:=G4) (λpt hpt Q' q'=>?_) ?_
 ·right
  exact⟨DD,q'⟩
 rw[X5]
 refine go ?_;array_mem_dec
 refine⟨_,rfl,?_⟩
 have h1:=@A8i (wlk ws rs.reverse p).2
 left
 rw[<-R7]
 refine⟨by rw[C6,C6];lia,DD,q⟩
theorem D3g (T:Txt K mg):C1 P w K mg base CX0 8 T.bI.a T.bI.d ["land", "store", "base"] (spD [.sh,.sh,.sh] D3c):=by
 have iy:=@C2m P w K mg base T
 have iz:=T.bh.b
 have pA:=@D3f P w K mg base T
 have pB:=T.bZ.b
 refine F8 T.bI.F B19 rfl (λC cdv A outer s H E hr=>⟨_,(@G5 _ _ _ _ _ _ (F3 (C0 (i:=3) B19.nd rfl (Or.inr rfl) (E4 (B0 iy (hr.mono DD) rfl T.bh.m T.bh.F.kp iz .nil A7 (B4 (A2 (pv 0)) (B4 (A2 (pv 1)) (Y2 (pv 2) E3 A0) A0) A0) (he:=A0) (hpl:=(A4 A0 (A4 A0 A3))))))) (@G5 _ _ _ _ _ _ (F3 (C0 (i:=4) B19.nd rfl (Or.inr rfl) (C2 (pv 3) C5 (λ_ _=>rfl)))) (@G5 _ _ _ _ _ _ (F3 (C0 (i:=5) B19.nd rfl (Or.inr rfl) (P2 (C2 (pv 4) (w6 C5) (λ_ _=>rfl)) (D6 (D0 (v:=V.int 0) rfl T.cy ⟨_,rfl⟩)) (λ_ _=>rfl)))) (@C9 _ _ _ _ (@D8 _ _ _ _ _ (@K6 _ _ _ _ (@A05 _ _ _ _ _ _ _ _ rfl (@W8 _ _ _ _ _ _ _ _ _ _ _ _ _ _ _ (Q0.new (N:=["land", "store", "base", "found", "rows", "table"]) (osc:=B1 B1t) KK) rfl (B1c (A16 rfl T.cj (C3 (C2 (pv 0) (D6 (D0 (v:=V.int 0) rfl T.bP ⟨_,rfl⟩)) (λ_ _=>rfl)) E7 A6))) (λ_=>y8) (λ_=>(@B36 _ _ _ _ _ _ _ _ _ (J5 V8 j0 (C2 (pv 5) (A2 (pv 6)) (λ_ _=>rfl)) J0 (C8 _)) J0 (E4 (B0 pA (hr.mono DD) rfl T.bZ.m T.bZ.F.kp pB .nil A7 (B4 (A2 (pv 0)) (B4 (A2 (pv 4)) (B4 (C2 (pv 3) C5 (λ_ _=>rfl)) (B4 (A2 (pv 6)) E3 A0) A6) A0) A0) (he:=A0) (hpl:=(A4 A0 (A4 A6 (A4 A0 A3)))))))) (by rfl) (by rfl) (by intro _;rfl))))))))),λds Q hl h=>?_⟩)
 obtain⟨m,ws,st,b0,rfl,ok,h0,hst,hb0,q⟩:=h
 have m2:=ok.m2
 left
 refine⟨rfl,m,ws,st,b0,rfl,ok,h0,hst,hb0,λrs qs r b rd hl he hL hR hok hlen hb hf hrd=>?_⟩
 have hq:qs.length + 1<=m:=by
  have:=congrArg p7 he
  rw[A0l,J8] at this
  lia
 refine go ?_;left
 refine go ?_;left
 rw[show -(1:Int)=-1 from rfl,A91 (B2b hl)]
 right
 refine go ?_;array_mem_dec
 rw[show ((m:Nat):Int).toNat=m by simp]
 refine⟨⟨OO,OO⟩,⟨rfl,by unfold U4;rw[C6,j7];lia⟩,?_⟩
 rw[D3d]
 refine z4 (f:=λi=>trO ((gt r.1 i).map λ_=>A5d ws rs rd i)) (λi hi Q' q'=>?_) ?_
 ·have him:=p5.mp hi
  left
  rw[A5a (by rw[hL.tab.len];exact him)]
  cases e:gt r.1 i with
  | none=>
   rw[e] at q'
   right
   exact q'
  | some x=>
   rw[e] at q'
   have:=C2o ok h0 hb he hR hlen hrd e
   right
   exact⟨m,ws,rs,rd,i,rfl,him,ok,hok,OO,by rw[hrd.len];exact this.1,λr hr=>by have:=(hrd.few r hr).1;lia,q'⟩
 rw[X5]
 have qq:=q r.1 ((T8 m).map λi=>(gt r.1 i).map λ_=>A5d ws rs rd i) hL (C2k ok h0 hb hf hR hq) ⟨by rw[C6,j7],λp hp e=>by rw[K3,B21 hp];show some ((gt r.1 p).map _)=_;rw[e];rfl,λp x e=>?_⟩
 ·rw[j8] at qq
  exact qq
 ·have hp:p < m:=by
   by_cases h:p < m
   ·exact h
   ·rw[A40 (by rw[hL.tab.len];lia)] at e;cases e
  exact⟨A5d ws rs rd p,by rw[K3,B21 hp];show some ((gt r.1 p).map _)=_;rw[e];rfl,(C2o ok h0 hb he hR hlen hrd e).2⟩
end
def lkF (st:Int) (t:Tb):Tb:=t.map λo=>o.map λx=>st - x
theorem B2e {st:Int} {t:Tb} {p:Nat}:gt (lkF st t) p=(gt t p).map λx=>st - x:=by
 unfold gt lkF
 rw[K3]
 cases t[p]? with
 | none=>rfl
 | some o=>rfl
theorem B2f {m:Nat} {st:Int} {t:Tb} (h:G1 m st t):G1 m st (lkF st t):=by
 refine⟨by unfold lkF;rw[C6];exact h.len,λp x e=>?_⟩
 rw[B2e] at e
 cases z:gt t p with
 | none=>rw[z] at e;cases e
 | some y=>
  rw[z] at e
  have:st - y=x:=Option.some.inj e
  have:=h.bd p y z
  lia
theorem C2p {m:Nat} {ws:List Wy} (ok:J7 m ws):J7 m (ws.map S2):=by
 refine⟨ok.m1,ok.m2,by rw[C6];exact ok.few,λw hw=>?_,λw hw=>?_,λw hw=>?_,λw hw=>?_⟩
 all_goals obtain⟨v,hv,rfl⟩:=S5.mp hw
 ·exact ok.en v hv
 ·exact ok.st v hv
 ·exact ok.lo v hv
 ·exact ok.hi v hv
def C2q:DSp:=λds Q=>∃(st:Int) (t:Tb),ds=[.int st,.list (B7 t)]/\t.length<=900/\Q (.list (B7 (lkF st t)))
def D3h:DSp:=λds Q=>∃(m:Nat) (ws:List Wy) (st:Int) (g:Tb),ds=[E8 m ws,.int st,.list (B7 g)]/\J7 m ws/\0<=st/\st<=1000000000000000000000/\G1 m st g/\∀t,N9 m (ws.map S2) st (lkF st g) t->Q (.list (B7 (lkF st t)))
theorem C2r {H H':Hp} (k:Kq none H H'):Same H H':=λb o e=>k b o e λq hq=>nomatch hq
abbrev TT0:Addr->Prop:=λ_=>True
theorem j3 {a R:TS} {D:j9} {σ:L2.St} {H:Hp} (h:∀W:TS,W=R->A83 a W D σ H):A83 a R D σ H:=h R rfl
theorem G8 {W a R:TS} {D:j9} {σ:L2.St} {H:Hp} (e:W=A83 a R) (h:∀W':TS,W'=R->A83 a W' D σ H):W D σ H:=by rw[e];exact h R rfl
abbrev O4 (H:Hp):Addr->Prop:=λb=>H b=none\/∃xs,H b=some (.tup xs)
theorem Z8 {ms:List Md} {sp:DSp} {vs:List V} {ds:List PyData} {H:Hp} {Q:VK} {E:XK} (Qd:PyData->Prop) (ar:Z5 TT0 none H ms vs ds) (h:sp ds Qd) (k:∀d v H',Qd d->ThV TT0 H' v d->Same H H'->Q v H'):spD ms sp vs H Q E:=
 ⟨TT0,none,ds,Qd,⟨λ_ _=>trivial,λ_ _ _=>trivial⟩,λq hq=>(nomatch hq),λq hq=>(nomatch hq),ar,h,λd v H' a b c _=>k d v H' a b (C2r c)⟩
theorem D3i {sp:DSp} {H:Hp} {Q:VK} {E:XK} {hd hl:Addr} (Qd:PyData->Prop) (d:Hd H hd hl) (h:sp [.none] Qd) (k:∀d v H',Qd d->ThV (λb=>b≠hd) H' v d->Kq (some (hd,hl)) H H'->Hd H' hd hl->Q v H'):spD [.hd] sp [.ref hd] H Q E:=by
 have d0:=d
 obtain⟨_,_,_,_,_,_,_,_,e⟩:=d
 exact⟨λb=>b≠hd,some (hd,hl),[.none],Qd,⟨(λb z y=>by rw[y,e] at z;cases z),(λb xs z y=>by rw[y,e] at z;cases z)⟩,λq hq=>by cases hq;exact λz=>z rfl,λq hq=>by cases hq;exact d0,.cons ⟨_,rfl,rfl⟩ .nil,h,λd v H' a b c z=>k d v H' a b c (z _ rfl)⟩
theorem G3 {F G:Addr->Prop} {H H':Hp}:∀{t:Tb} {us:List V},B2 F H us (B7 t)->B2 G H' us (B7 t)
 | [],_,h=>by cases h;exact .nil
 | o::t,_,h=>by
  cases h with
  | cons x r=>
   cases o with
   | none=>cases x;exact .cons .non (G3 r)
   | some i=>cases x;exact .cons (.int _) (G3 r)
theorem C2s {F G:Addr->Prop} {H H':Hp}:∀{ns:List Nat} {us:List V},B2 F H us (F5 ns)->W1 G H' us (F5 ns) []
 | [],_,h=>by cases h;exact .nil
 | n::ns,_,h=>by
  cases h with
  | cons x r=>cases x;exact W1.cons (fp:=[]) (fps:=[]) (.int _) (C2s r)
theorem D3j {F G:Addr->Prop} {H H':Hp} {ns:List Nat} {us:List V} (t:B2 F H us (F5 ns)):B2 G H' us (F5 ns):=(C2s (G:=G) (H':=H') t).th
theorem _root_.L2.Same.early {H H':Hp} (s:Same H H') {b:Addr} (h:H' b=none):H b=none:=by
 cases z:H b with
 | none=>rfl
 | some o=>rw[s _ _ z] at h;cases h
theorem C2t {H H':Hp} (s:Same H H') {b:Addr} (h:O4 H' b):O4 H b:=by
 rcases h with h | ⟨xs,h⟩
 ·exact .inl (s.early h)
 ·cases z:H b with
  | none=>exact .inl z
  | some o=>
   have:=s _ _ z
   rw[h] at this
   cases this
   exact .inr ⟨xs,z⟩
theorem A96 {H H':Hp} (s:Same H H') {b:Addr} {xs:List V} (h:O4 H b) (e:H' b=some (.lst xs)):H b=none:=by
 rcases h with h | ⟨ys,h⟩
 ·exact h
 ·rw[s _ _ h] at e;cases e
theorem j4 {ms:List Md} {sp:DSp} {vs:List V} {ds:List PyData} {H:Hp} {Q:VK} {E:XK} {hd hl:Addr} (Qd:PyData->Prop) (d:Hd H hd hl) (ar:Z5 (λb=>b≠hd) (some (hd,hl)) H ms vs ds) (h:sp (.none::ds) Qd) (k:∀d v H',Qd d->ThV (λb=>b≠hd) H' v d->Kq (some (hd,hl)) H H'->Hd H' hd hl->Q v H'):spD (.hd::ms) sp (.ref hd::vs) H Q E:=by
 have d0:=d
 obtain⟨_,_,_,_,_,_,_,_,e⟩:=d
 exact⟨λb=>b≠hd,some (hd,hl),.none::ds,Qd,⟨(λb z y=>by rw[y,e] at z;cases z),(λb xs z y=>by rw[y,e] at z;cases z)⟩,λq hq=>by cases hq;exact λz=>z rfl,λq hq=>by cases hq;exact d0,.cons ⟨_,rfl,rfl⟩ ar,h,λd v H' a b c z=>k d v H' a b c (z _ rfl)⟩
def spN (sp:DSp):Sp:=λvs H Q _=>∃ds Qd,B2 TT0 H vs ds/\sp ds Qd/\∀d v H',Qd d->ThV (O4 H) H' v d->Same H H'->Q v H'
theorem D3k {H:Hp} {p b:Addr} {o:HO} (h:upd H p o b=none):b≠p/\H b=none:=by
 by_cases e:b=p
 ·subst e;rw[B6] at h;cases h
 ·rw[B8 e] at h;exact⟨e,h⟩
theorem _root_.L2.Same.upd {H:Hp} {p:Addr} {o:HO} (h:H p=none):Same H (upd H p o):=λb o' e=>by rw[B8 (g6 e h)];exact e
theorem _root_.L2.Same.tr {H H1 H2:Hp} (a:Same H H1) (b:Same H1 H2):Same H H2:=λc o e=>b _ _ (a _ _ e)
theorem ThV.keep {F:Addr->Prop} {H H':Hp} {v:V} {d:PyData} (t:ThV F H v d) (s:Same H H'):ThV F H' v d:=t.mv λb o z e=>⟨z,s _ _ e⟩
theorem B2.keep {F:Addr->Prop} {H H':Hp} {v:List V} {d:List PyData} (t:B2 F H v d) (s:Same H H'):B2 F H' v d:=t.mv λb o z e=>⟨z,s _ _ e⟩
theorem ThV.any {F:Addr->Prop} {H:Hp} {v:V} {d:PyData} (t:ThV F H v d):ThV TT0 H v d:=t.mv λb o z e=>⟨trivial,e⟩
section
variable {P:Program} {w:World} {K:A9} {mg:Str->Option Value} {base:Heap}
inductive A97:List Md->Prop
 | nil:A97 []
 | cons {ms}:A97 ms->A97 (.sh::ms)
theorem D3l {F:Addr->Prop} {hand:Option (Addr×Addr)} {H:Hp} {ms:List Md} {vs:List V} {ds:List PyData} (a:Z5 F hand H ms vs ds) (h:A97 ms):B2 TT0 H vs ds:=by
 induction a with
 | nil=>exact .nil
 | cons x _ ih=>
  cases h with
  | cons h=>exact .cons (ThV.any (show ThV F H _ _ from x)) (ih h)
theorem D3m {a:Addr} {d:FuncData} {lev:Nat} {ps:List Str} {ms:List Md} {sp:DSp} (hm:A97 ms) (F0:C1 P w K mg base CX0 lev a d ps (spN sp)):C1 P w K mg base CX0 lev a d ps (spD ms sp):=by
 have key:∀vs H Q E,spD ms sp vs H Q E->spN sp vs H Q E:=λvs H Q E h=>by
  obtain⟨F,hand,ds,Qd,h1,h2,h3,h4,h5,h6⟩:=h
  refine⟨ds,Qd,D3l h4 hm,h5,λd v H' q t s=>h6 d v H' q (t.mv λb o g e=>⟨?_,e⟩) (Kq.same s) (h3.same s)⟩
  rcases g with g | ⟨xs,g⟩
  ·exact h1.1 b g
  ·exact h1.2 b xs g
 exact⟨λvs H Q E z=>F0.len vs H Q E (key vs H Q E z),λA outer s H args us vs Q E hr e0 hb r z=>F0.run A outer s H args us vs Q E hr e0 hb r (key vs H Q E z)⟩
end
theorem A5e {F:Addr->Prop} {H:Hp}:∀{vs:List V} {ds:List PyData} {i:Nat} {x:V},B2 F H vs ds->vs[i]?=some x->∃d,ds[i]?=some d/\ThV F H x d
 | _,_,_,_,.nil,e=>nomatch e
 | _,_,0,_,.cons x _,e=>by cases e;exact⟨_,rfl,x⟩
 | _,_,i + 1,_,.cons _ t,e=>A5e (i:=i) t e
abbrev D3n:Sp:=spN C2q
abbrev D3o:Sp:=spN D3h
def A98 (a b:Option Int):Bool:=match b,a with
 | none,_=>true
 | some _,none=>false
 | some y,some x=>decide (x<=y)
def D3p:DSp:=λds Q=>∃a b:Option Int,ds=[oD a,oD b]/\Q (.bool (A98 a b))
def A99 (t o:Tb):List Nat:=(T8 t.length).filter λp=>!A98 (gt o p) (gt t p)
def D3q:DSp:=λds Q=>∃t o:Tb,ds=[.list (B7 t),.list (B7 o)]/\t.length=o.length/\t.length<=900/\Q (.list (F5 (A99 t o)))
abbrev D3r:Sp:=spN D3q
theorem D3s {H:Hp} {v:V} {xs:List PyData} (t:ThV TT0 H v (.list xs)):B4h TT0 none H v (.list xs) .bo:=by
 obtain⟨a,us,rfl,_,e,tu⟩:=K9 t
 exact⟨a,us,xs,rfl,rfl,(λq hq=>nomatch hq),e,tu⟩
section
variable {P:Program} {w:World} {K:A9} {mg:Str->Option Value} {base:Heap}
theorem C2u (T:Txt K mg):C1 P w K mg base CX0 1 T.aC.a T.aC.d ["store", "table"] D3n:=by
 refine T.aC.F.ok D0h (λvs H Q E h=>?_) (λcdv A outer s H vs Q E hr h=>?_)
 ·obtain⟨ds,Qd,t,⟨st,t0,rfl,_⟩,_⟩:=h
  rw[t.len];rfl
 ·obtain⟨ds,Qd,tv,⟨st,t0,rfl,hl,q⟩,told⟩:=h
  obtain⟨v1,v2,rfl,t1,t2⟩:=Q7 tv
  cases t1
  obtain⟨at',ut,rfl,_,et,tut⟩:=K9 t2
  have lut:ut.length=t0.length:=by rw[tut.len,Y5]
  refine⟨_,(D7 (F7 (W8 (Q0.new (N:=["store", "table"]) (osc:=B1 B1u) KK) rfl (A0s (pv 1)) (λ_=>A2a) (λ_=>(B7r (J3 V8 (pv 2) A0p (C8 _)) A0p (J2 A0t (pv 0) (pv 2))))))),?_⟩
  refine⟨_,rfl,at',rfl,⟨ut,SqL.of et⟩,?_⟩
  refine A53 (xs:=ut) (λi ys Hn=>Hn=H/\B2 TT0 H ys (B7 (lkF st (t0.take i)))) ?_ ⟨rfl,.nil⟩ ?_ ?_ ?_
  ·rw[lut,sizeLine_eq];lia
  ·rintro i ys Hn hi ⟨rfl,h2⟩
   refine⟨?_,SqL.of et⟩
   rw[h2.len,Y5]
   unfold lkF
   rw[C6,j6]
   lia
  ·rintro i x ys Hn hx ⟨rfl,h2⟩ ca
   obtain⟨d,hd,tx⟩:=A5e tut hx
   unfold B7 at hd
   rw[K3] at hd
   obtain⟨o,ho,rfl⟩:=A3h.mp hd
   have stp:B7 (lkF st (t0.take (i + 1)))=B7 (lkF st (t0.take i))++[oD (o.map λx=>st - x)]:=by
    rw[A8w,ho]
    unfold lkF B7
    rw[R7,R7];rfl
   unfold A19
   refine G0 ⟨_,rfl,rfl,_,rfl,?_⟩
   rw[stp]
   cases o with
   | none=>
    cases tx
    exact G0 ⟨rfl,h2.append (.cons .non .nil)⟩
   | some y=>
    cases tx
    rw[show decide (V.int y=V.non)=false from decide_eq_false λz=>by cases z]
    exact C7 ⟨_,rfl,_,rfl,_,_,rfl,rfl,rfl,h2.append (.cons (.int _) .nil)⟩
  rintro ys Hn ⟨rfl,h2⟩ p hp
  rw[lut,B28] at h2
  exact told _ _ _ q (.lst (.inl hp) B6 (G3 h2)) (Same.upd hp)
theorem B2g (T:Txt K mg):C1 P w K mg base CX0 9 T.bj.a T.bj.d ["land", "store", "goal"] D3o:=by
 have fo:=@C2u P w K mg base T
 have fq:=T.aC.b
 have cf:=@B2d P w K mg base T
 have cg:=T.aw.b
 have dH:=@C17 P w K mg base T
 have dI:=T.ax.b
 refine T.bj.F.ok D0i (λvs H Q E h=>?_) (λcdv A outer s H vs Q E hr h=>?_)
 ·obtain⟨ds,Qd,t,⟨m,ws,st,g,rfl,_⟩,_⟩:=h
  rw[t.len];rfl
 ·obtain⟨ds,Qd,tv,⟨m,ws,st,g,rfl,ok,h0,hst,hg,q⟩,told⟩:=h
  cases tv with
  | @cons vl _ _ _ tl tv=>
  obtain⟨vst,vg,rfl,tst,tg⟩:=Q7 tv
  cases tst
  have m2:=ok.m2
  have few:=ok.few
  have hgl:=hg.len
  refine⟨_,(D7 (F7 (B0 fo (hr.mono DD) rfl T.aC.m T.aC.F.kp fq .nil A7 (A1 (pv 1) (A1 (B0 cf (hr.mono DD) rfl T.aT T.aw.F.kp cg .nil A7 (A1 (B0 dH (hr.mono DD) rfl T.ax.m T.ax.F.kp dI .nil A7 (A1 (pv 0) A5 A0) (he:=A0) (hpl:=A3)) (A1 (pv 1) (A1 (B0 fo (hr.mono DD) rfl T.aC.m T.aC.F.kp fq .nil A7 (A1 (pv 1) (A1 (pv 2) A5 A0) A0) (he:=A0) (hpl:=(A4 A0 A3))) A5 D4) A0) D4) (he:=D4) (hpl:=(A4 A0 (A4 D4 A3)))) A5 D4) A0) (he:=A0) (hpl:=(A4 D4 A3))))),?_⟩
  refine⟨_,rfl,_,rfl,Z8 (E:=E0) (λd=>d=E8 m (ws.map S2)) (.cons tl .nil) ⟨m,ws,rfl,OO,rfl⟩ λd v1 H1 hd t1 s1=>?_⟩
  subst hd
  refine⟨_,rfl,_,rfl,_,rfl,[.int st,.list (B7 g)],(λd=>d=.list (B7 (lkF st g))),.cons (.int _) (.cons (tg.keep s1) .nil),⟨st,g,rfl,OO,rfl⟩,λd v2 H2 hd t2 s2=>?_⟩
  subst hd
  refine Z8 (E:=E0) (λd=>∃t,N9 m (ws.map S2) st (lkF st g) t/\d=.list (B7 t)) (.cons (t1.keep s2) (.cons (.int _) (.cons (D3s t2.any) .nil))) ⟨m,_,st,_,rfl,C2p ok,h0,hst,B2f hg,λt ht _=>⟨t,ht,rfl⟩⟩ λd v3 H3 hd t3 s3=>?_
  obtain⟨t,ht,rfl⟩:=hd
  have htl:=ht.tab.len
  have s03:=(s1.tr s2).tr s3
  refine⟨[.int st,.list (B7 t)],(λd=>d=.list (B7 (lkF st t))),.cons (.int _) (.cons t3 .nil),⟨st,t,rfl,OO,rfl⟩,λd v4 H4 hd t4 s4=>?_⟩
  subst hd
  exact told _ _ _ (q t ht) (t4.mv λb o z e=>⟨C2t s03 z,e⟩) (s03.tr s4)
theorem D3t (T:Txt K mg):C1 P w K mg base CX0 1 T.bz.a T.bz.d ["level", "bound"] (spD [.sh,.sh] D3p):=by
 refine F8 T.bz.F C98 rfl (λC cdv A outer s H E hr=>⟨_,(C9 (D8 (B35 (w4 V8 j0 (A2 (pv 1)) J0 (C8 _)) (e7 (m5 (w4 A3m A9c (A2 (pv 0)) J0 (C8 _)) (e7 (w4 Z1 C7m (A2 (pv 0)) (A2 (pv 1)) (C8 _)))))))),λds Q hl h=>?_⟩)
 obtain⟨a,b,rfl,q⟩:=h
 cases b with
 | none=>
  right
  exact q
 | some y=>
  cases a with
  | none=>
   right
   exact q
  | some x=>
   right
   exact q
theorem D3u (T:Txt K mg):C1 P w K mg base CX0 2 T.az.a T.az.d ["table", "other"] D3r:=by
 have mm:=@D3t P w K mg base T
 have mn:=T.bz.b
 refine T.az.F.ok D0m (λvs H Q E h=>?_) (λcdv A outer s H vs Q E hr h=>?_)
 ·obtain⟨ds,Qd,t,⟨t0,o0,rfl,_⟩,_⟩:=h
  rw[t.len];rfl
 ·obtain⟨ds,Qd,tv,⟨t0,o0,rfl,hlen,hl,q⟩,told⟩:=h
  obtain⟨v1,v2,rfl,t1,t2⟩:=Q7 tv
  obtain⟨at',ut,rfl,_,et,tut⟩:=K9 t1
  obtain⟨ao,uo,rfl,_,eo,tuo⟩:=K9 t2
  have lut:ut.length=t0.length:=by rw[tut.len,Y5]
  refine⟨_,(D7 (F7 (W8 (Q0.new (N:=["table", "other"]) (osc:=B1 B1w) KK) rfl (A16 rfl T.cj (A1 (E9 U0 rfl T.aN T3 (A1 (pv 0) A5 A0) (he:=A0) (hpl:=A3)) A5 D4)) (λ_=>(B3u (b5 (b4 (B0 mm (hr.mono DD) rfl T.bz.m T.bz.F.kp mn .nil A7 (A1 (C4 D2 (pv 1) (pv 2) (λ_ _=>rfl)) (A1 (C4 D2 (pv 0) (pv 2) (λ_ _=>rfl)) A5 A6) A6) (he:=A6) (hpl:=(A4 A6 A3))))))) (λ_=>(pv 2))))),?_⟩
  refine⟨_,rfl,at',ut,rfl,.inl (SqL.of et),_,rfl,OO,OO,?_⟩
  refine B3v (n:=((ut.length:Nat):Int).toNat) (λi ys Hn=>Same H Hn/\B2 TT0 H ys (F5 ((T8 i).filter λp=>!A98 (gt o0 p) (gt t0 p)))) ?_ ⟨λ_ _ e=>e,.nil⟩ ?_ ?_ ?_
  ·rw[lut,sizeLine_eq];lia
  ·rintro i ys Hn hi ⟨h1,h2⟩
   rw[h2.len,A24]
   exact b3 (C4l _ _) (by rw[j7];exact F9 _)
  ·rintro i ys Hn hi ⟨h1,h2⟩ ca
   rw[lut,B0k] at hi
   rw[Int.zero_add]
   obtain⟨vo,hvo,tvo⟩:=B09 tuo (A5a (t:=o0) (p:=i) OO)
   obtain⟨vt,hvt,tvt⟩:=B09 tut (A5a (t:=t0) (p:=i) hi)
   refine⟨_,rfl,_,rfl,ao,uo,_,_,rfl,rfl,SqL.of (h1 _ _ eo),hvo,_,rfl,_,rfl,at',ut,_,_,rfl,rfl,SqL.of (h1 _ _ et),hvt,Z8 (E:=E0) (λd=>d=.bool (A98 (gt o0 i) (gt t0 i))) (.cons (tvo.any.keep h1) (.cons (tvt.any.keep h1) .nil)) ⟨_,_,rfl,rfl⟩ λd v H' hd tv s'=>?_⟩
   subst hd
   cases tv
   refine⟨_,rfl,?_⟩
   rw[List.range_succ,List.filter_append]
   cases e:A98 (gt o0 i) (gt t0 i) with
   | true=>
    refine C7 ⟨h1.tr s',?_⟩
    rw[B7h (by rw[e];decide),List.filter_nil,A1f]
    exact h2
   | false=>
    refine G0 ⟨_,rfl,h1.tr s',?_⟩
    rw[B7g (by rw[e];rfl),List.filter_nil]
    unfold F5
    rw[R7]
    exact h2.append (.cons (.int _) .nil)
  rintro ys Hn ⟨h1,h2⟩ p hp
  rw[lut,B0k] at h2
  exact told _ _ _ q (.lst (.inl (h1.early hp)) B6 (D3j h2)) (h1.tr (Same.upd hp))
end
abbrev Kw:=List (Int×Wy)
def G6 (kws:Kw) (k:Int):Option Wy:=(kws.find? λq=>decide (q.1=k)).map (·.2)
def X2 (kws:Kw) (k:Int) (w:Wy):Kw:=if (kws.any λq=>decide (q.1=k))=true then kws.map (λq=>if q.1=k then (q.1,w) else q) else kws++[(k,w)]
def A8k (kws:Kw) (k:Int):Kw:=kws.filter λq=>decide (q.1≠k)
def B5 (kws:Kw):List Int:=kws.map (·.1)
inductive O5 (H:Hp):List (Key×V)->Kw->Prop
 | nil:O5 H [] []
 | cons {k:Int} {v:V} {w:Wy} {kvs:List (Key×V)} {kws:Kw}:ThV TT0 H v (K7 w)->O5 H kvs kws->O5 H ((Sum.inl k,v)::kvs) ((k,w)::kws)
theorem A8l {F G:Addr->Prop} {H H':Hp}:∀{xs:List Int} {us:List V},B2 F H us (xs.map PyData.int)->B2 G H' us (xs.map PyData.int)
 | [],_,h=>by cases h;exact .nil
 | x::xs,_,h=>by
  cases h with
  | cons y r=>cases y;exact .cons (.int _) (A8l r)
theorem A5f {F G:Addr->Prop} {H H':Hp} {v:V} {w:Wy} (t:ThV F H v (K7 w)) (s:∀b xs,H b=some (.tup xs)->H' b=some (.tup xs)) (g:∀b xs,H b=some (.tup xs)->G b):ThV G H' v (K7 w):=by
 obtain⟨a,us,rfl,_,e,tu⟩:=W0 (show ThV F H v (.tuple ([((w.1:Nat):Int),((w.2.1:Nat):Int),w.2.2].map PyData.int)) from t)
 exact .tup (g _ _ e) (s _ _ e) (A8l tu)
section
variable {H H':Hp} {kvs:List (Key×V)} {kws:Kw}
theorem O5.mv (h:O5 H kvs kws) (s:∀b xs,H b=some (.tup xs)->H' b=some (.tup xs)):O5 H' kvs kws:=by
 induction h with
 | nil=>exact .nil
 | cons t _ ih=>exact .cons (A5f t s λ_ _ _=>trivial) ih
theorem O5.len (h:O5 H kvs kws):kvs.length=kws.length:=by
 induction h with
 | nil=>rfl
 | cons _ _ ih=>rw[J8,J8,ih]
theorem O5.keys (h:O5 H kvs kws):kvs.map (·.1)=(B5 kws).map Sum.inl:=by
 induction h with
 | nil=>rfl
 | cons _ _ ih=>
  unfold B5 at ih ⊢
  rw[Q9,Q9,Q9,ih]
theorem D3v {a b:Int}:((Sum.inl a:Key)=Sum.inl b)↔a=b:=⟨λh=>Sum.inl.inj h,λh=>by rw[h]⟩
theorem A25 (q:Int×Wy) (r:Kw) (k:Int):G6 (q::r) k=if q.1=k then some q.2 else G6 r k:=by
 unfold G6
 rw[A8x]
 by_cases e:q.1=k
 ·rw[decide_eq_true e,if_pos e];rfl
 ·rw[decide_eq_false e,if_neg e]
theorem O5.val (h:O5 H kvs kws) (k:Int):(X1 kvs (Sum.inl k:Key)=none/\G6 kws k=none)\/∃v w,X1 kvs (Sum.inl k:Key)=some v/\G6 kws k=some w/\ThV TT0 H v (K7 w):=by
 induction h with
 | nil=>exact .inl ⟨rfl,rfl⟩
 | @cons k' v w kvs kws t _ ih=>
  rw[A25]
  by_cases e:k'=k
  ·subst e
   rw[if_pos rfl,B1f (p:=((Sum.inl k':Key),v)) rfl]
   exact .inr ⟨v,w,rfl,rfl,t⟩
  ·rw[if_neg e,B1g (p:=((Sum.inl k':Key),v)) (λz=>e (Sum.inl.inj z))]
   exact ih
theorem O5.map (h:O5 H kvs kws) {k:Int} {v:V} {w:Wy} (t:ThV TT0 H v (K7 w)):O5 H (kvs.map λkv=>if kv.1=(Sum.inl k:Key) then (kv.1,v) else kv) (kws.map λq=>if q.1=k then (q.1,w) else q):=by
 induction h with
 | nil=>exact .nil
 | @cons k' v' w' kvs kws t' _ ih=>
  rw[Q9,Q9]
  by_cases e:k'=k
  ·rw[if_pos (show (Sum.inl k':Key)=Sum.inl k by rw[e]),if_pos (show k'=k from e)]
   exact .cons t ih
  ·rw[if_neg (show ¬ (Sum.inl k':Key)=Sum.inl k from λz=>e (Sum.inl.inj z)),if_neg (show ¬ k'=k from e)]
   exact .cons t' ih
theorem O5.snoc (h:O5 H kvs kws) {k:Int} {v:V} {w:Wy} (t:ThV TT0 H v (K7 w)):O5 H (kvs++[(Sum.inl k,v)]) (kws++[(k,w)]):=by
 induction h with
 | nil=>exact .cons t .nil
 | cons t' _ ih=>exact .cons t' ih
theorem O5.any (h:O5 H kvs kws) (k:Int):(kvs.any λkv=>decide (kv.1=(Sum.inl k:Key)))=(kws.any λq=>decide (q.1=k)):=by
 induction h with
 | nil=>rfl
 | cons _ _ ih=>
  rw[A5o,A5o,ih]
  congr 1
  exact decide_eq_decide.mpr D3v
theorem O5.put (h:O5 H kvs kws) {k:Int} {v:V} {w:Wy} (t:ThV TT0 H v (K7 w)):O5 H (Y4 kvs (Sum.inl k:Key) v) (X2 kws k w):=by
 unfold Y4 X2
 rw[h.any k]
 split
 ·exact h.map t
 ·exact h.snoc t
theorem O5.drop (h:O5 H kvs kws) (k:Int):O5 H (A1t kvs (Sum.inl k:Key)) (A8k kws k):=by
 unfold A1t A8k
 induction h with
 | nil=>exact .nil
 | @cons k' v w kvs kws t _ ih=>
  by_cases e:k'=k
  ·rw[B7h (by simp [e]),B7h (by simp [e])]
   exact ih
  ·rw[B7g (by simp [e]),B7g (by simp [e])]
   exact .cons t ih
end
def srt (ns:List Int):List Int:=ns.mergeSort (λa b=>decide (a<=b))
theorem Z9 (ns:List Int):(srt ns).Perm ns:=List.mergeSort_perm ns _
theorem C2v (ns:List Int):(srt ns).Pairwise (·<=·):=by
 have:=List.pairwise_mergeSort (le:=λa b:Int=>decide (a<=b)) (λa b c h1 h2=>by simp at *;lia) (λa b=>by simp;lia) ns
 exact this.imp λh=>by simpa using h
theorem A5g {ns ms:List Int} (p:ms.Perm ns) (h:ms.Pairwise (·<=·)):ms=srt ns:=(p.trans (Z9 ns).symm).eq_of_pairwise (λa b _ _ h1 h2=>OO) h (C2v ns)
theorem C2w {ns ms:List Int} (p:ms.Perm ns):srt ms=srt ns:=A5g ((Z9 ms).trans p) (C2v ms)
def wsF (kws:Kw):List Wy:=(srt (B5 kws)).map λk=>(G6 kws k).getD (0,0,0)
structure B2h (m:Nat) (w:Wy):Prop where
 st:w.1 < m
 en:w.2.1 < m
 lo:-1000000000000000000<=w.2.2
 hi:w.2.2<=1000000000000000000
structure KOk (m:Nat) (st:Int) (g:Tb) (kws:Kw):Prop where
 m1:1<=m
 m2:m<=12
 s0:0<=st
 s1:st<=100000000000000000000
 gt:G1 m st g
 nd:(B5 kws).Nodup
 few:kws.length<=40
 way:∀q∈kws,(1<=q.1/\q.1<=1000000000000000000)/\B2h m q.2
theorem A26 {kws:Kw} {k:Int} {w:Wy} (h:G6 kws k=some w):(k,w)∈kws:=by
 unfold G6 at h
 cases e:kws.find? λq=>decide (q.1=k) with
 | none=>rw[e] at h;cases h
 | some q=>
  rw[e] at h
  cases h
  have h1:=List.find?_some e
  have h2:=List.mem_of_find?_eq_some e
  have h3:q.1=k:=by simpa using h1
  rw[<-h3];exact h2
theorem A27 {kws:Kw} {k:Int} (h:k∈B5 kws):∃w,G6 kws k=some w:=by
 induction kws with
 | nil=>cases h
 | cons q r ih=>
  rw[A25]
  by_cases e:q.1=k
  ·rw[if_pos e];exact⟨_,rfl⟩
  ·rw[if_neg e]
   rcases N3.mp (show k∈q.1::B5 r from h) with z | z
   ·exact absurd z.symm e
   ·exact ih z
theorem KOk.land {m:Nat} {st:Int} {g:Tb} {kws:Kw} (o:KOk m st g kws):J7 m (wsF kws):=by
 have key:∀w∈wsF kws,B2h m w:=λw hw=>by
  unfold wsF at hw
  obtain⟨k,hk,rfl⟩:=S5.mp hw
  obtain⟨w',hw'⟩:=A27 ((Z9 _).mem_iff.mp hk)
  rw[hw']
  exact (o.way _ (A26 hw')).2
 refine⟨o.m1,o.m2,?_,λw hw=>(key w hw).st,λw hw=>(key w hw).en,λw hw=>(key w hw).lo,λw hw=>(key w hw).hi⟩
 unfold wsF
 rw[C6,(Z9 _).length_eq]
 unfold B5
 rw[C6]
 exact o.few
def X3 (m:Nat) (st:Int) (g:Tb) (kws:Kw) (low:Tb):Prop:=∃t,N9 m ((wsF kws).map S2) st (lkF st g) t/\low=lkF st t
theorem X3.uniq {m:Nat} {st:Int} {g:Tb} {kws:Kw} {a b:Tb} (h:X3 m st g kws a) (k:X3 m st g kws b):a=b:=by
 obtain⟨t,h1,rfl⟩:=h
 obtain⟨u,h2,rfl⟩:=k
 rw[h1.uniq h2]
theorem X3.tab {m:Nat} {st:Int} {g:Tb} {kws:Kw} {a:Tb} (h:X3 m st g kws a):G1 m st a:=by
 obtain⟨t,h1,rfl⟩:=h
 exact B2f h1.tab
structure Kst where
 m:Nat
 st:Int
 g:Tb
 kws:Kw
 low:Tb
def kfs (m:Nat) (st:Int) (g d l:Addr):List (Str×V):=[("many",.int ((m:Nat):Int)),("full",.int st),("wanted",.ref g),("laid",.ref d),("lowest",.ref l)]
theorem B2i {m:Nat} {st:Int} {g d l:Addr}:(kfs m st g d l).lookup ("many" : Str)=some (.int ((m:Nat):Int)):=by with_unfolding_all rfl
theorem B0a {m:Nat} {st:Int} {g d l:Addr}:(kfs m st g d l).lookup ("full" : Str)=some (.int st):=by with_unfolding_all rfl
theorem B2j {m:Nat} {st:Int} {g d l:Addr}:(kfs m st g d l).lookup ("wanted" : Str)=some (.ref g):=by with_unfolding_all rfl
theorem A0c {m:Nat} {st:Int} {g d l:Addr}:(kfs m st g d l).lookup ("laid" : Str)=some (.ref d):=by with_unfolding_all rfl
theorem B2k {m:Nat} {st:Int} {g d l:Addr}:(kfs m st g d l).lookup ("lowest" : Str)=some (.ref l):=by with_unfolding_all rfl
theorem P5 {m:Nat} {st:Int} {g d l:Addr} {f:Str} (h:(f == "many" ||f == "full" ||f == "wanted" ||f == "laid" ||f == "lowest")=false):(kfs m st g d l).lookup f=none:=by
 simp only[Bool.or_eq_false_iff] at h
 obtain⟨⟨⟨⟨h1,h2⟩,h3⟩,h4⟩,h5⟩:=h
 unfold kfs
 rw[A0k,h1,A0k,h2,A0k,h3,A0k,h4,A0k,h5]
 rfl
theorem D3w {m:Nat} {st:Int} {g d l l':Addr}:Q6 "lowest" (.ref l') (kfs m st g d l)=kfs m st g d l':=by with_unfolding_all rfl
theorem D3x {m:Nat} {st st':Int} {g d l:Addr}:Q6 "full" (.int st') (kfs m st g d l)=kfs m st' g d l:=by with_unfolding_all rfl
theorem D3y {m:Nat} {st:Int} {g g' d l:Addr}:Q6 "wanted" (.ref g') (kfs m st g d l)=kfs m st g' d l:=by with_unfolding_all rfl
structure E2 (F:Addr->Prop) (C:Addr) (H:Hp) (p d:Addr) (k:Kst):Prop where
 ob:∃dx g l ug ul,H p=some (.ins C dx (kfs k.m k.st g d l))/\F g/\H g=some (.lst ug)/\B2 TT0 H ug (B7 k.g)/\F l/\H l=some (.lst ul)/\B2 TT0 H ul (B7 k.low)
 dc:∃kvs,H d=some (.dK kvs)/\O5 H kvs k.kws
theorem E2.mv {F G:Addr->Prop} {C:Addr} {H H':Hp} {p d:Addr} {k:Kst} (h:E2 F C H p d k) (s:∀b o,H b=some o->(∀xs,o=.lst xs->F b)->H' b=some o) (hF:∀b,F b->G b):E2 G C H' p d k:=by
 obtain⟨⟨dx,g,l,ug,ul,e1,g1,e2,t2,g3,e3,t3⟩,kvs,e4,kv⟩:=h
 refine⟨⟨dx,g,l,ug,ul,s _ _ e1 (λxs z=>by cases z),hF _ g1,s _ _ e2 (λ_ _=>g1),G3 t2,hF _ g3,s _ _ e3 (λ_ _=>g3),G3 t3⟩,kvs,s _ _ e4 (λxs z=>by cases z),kv.mv λb xs e=>s _ _ e (λ_ z=>by cases z)⟩
theorem C2x {t u:DS} {D:O2} {ρ:List Sl} (M:List Sl->Prop) (h1:t { D with nx:=M } ρ) (h2:∀ρ',M ρ'->Go (u D) ρ'):T4 (e8 t) u D ρ:=⟨M,h1,h2⟩
def D3z:DSp:=λds Q=>∃x:Int,ds=[.int x]/\1<=x/\x<=1000000000000000000/\Q (.bool true)
def D30:DSp:=λds Q=>∃x:Int,ds=[.int x]/\-1000000000000000000<=x/\x<=1000000000000000000/\Q (.bool true)
def D31:DSp:=λds Q=>∃(m:Nat) (w:Wy),ds=[.int (m:Nat),K7 w]/\B2h m w/\Q (.bool true)
def D32:DSp:=λds Q=>∃x:Int,ds=[.int x]/\0<=x/\x<=100000000000000000000/\Q (.bool true)
def D33:DSp:=λds Q=>∃st x:Int,ds=[.int st,.int x]/\0<=x/\x<=st/\Q (.bool true)
def D34:DSp:=λds Q=>∃(t:Tb) (m:Nat) (st:Int),ds=[.int (m:Nat),.int st,.list (B7 t)]/\m<=900/\G1 m st t/\Q (.bool true)
theorem C2y {α:Type} (b:Bool):∀xs:List α,A4c (xs.map λ_=>PyData.bool b)=some (xs.map λ_=>b)
 | []=>rfl
 | x::xs=>by
  show (A4c (xs.map λ_=>PyData.bool b)).map (b::·)=_
  rw[C2y b xs];rfl
theorem C2z {α:Type}:∀xs:List α,(xs.map λ_=>true).all id=true
 | []=>rfl
 | x::xs=>by
  show (true&&(xs.map λ_=>true).all id)=true
  rw[C2z xs];rfl
theorem C20 {t:Tb} {o:Option Int} (h:o∈t):∃p,gt t p=o:=by
 obtain⟨p,hp,e⟩:=A5q.mp h
 exact⟨p,by unfold gt;rw[M4 hp,e];rfl⟩
section
variable {P:Program} {w:World} {K:A9} {mg:Str->Option Value} {base:Heap}
theorem C21 (T:Txt K mg):C1 P w K mg base CX0 2 T.aR.a T.aR.d ["thing"] (spD [.sh] D3z):=by
 have bc:=@A92 P w K mg base T
 have be:=T.ak.b
 refine F8 T.aR.F D0l rfl (λC cdv A outer s H E hr=>⟨_,(C9 (D8 (m5 (E4 (B0 bc (hr.mono DD) rfl T.ak.m T.ak.F.kp be .nil A7 (B4 (A2 (pv 0)) E3 A0) (he:=A0) (hpl:=A3))) (e7 (A9d Z1 Z1 C5 (A2 (pv 0)) (F6 Z0 m6 C5 C5)))))),λds Q hl h=>?_⟩)
 obtain⟨x,rfl,x0,x1,q⟩:=h
 left
 refine⟨_,rfl,?_⟩
 rw[show o7 (.int x)=true from rfl]
 left
 rw[decide_eq_true x0]
 left
 refine⟨⟨DD,DD,DD⟩,?_⟩
 rw[decide_eq_true (show x<=10 ^ (18:Int).toNat from B24 x1 DD)]
 exact q
theorem C22 (T:Txt K mg):C1 P w K mg base CX0 2 T.aJ.a T.aJ.d ["thing"] (spD [.sh] D30):=by
 have bc:=@A92 P w K mg base T
 have be:=T.ak.b
 refine F8 T.aJ.F C91 rfl (λC cdv A outer s H E hr=>⟨_,(C9 (D8 (m5 (E4 (B0 bc (hr.mono DD) rfl T.ak.m T.ak.F.kp be .nil A7 (B4 (A2 (pv 0)) E3 A0) (he:=A0) (hpl:=A3))) (e7 (A9d Z1 Z1 (w6 (F6 Z0 m6 C5 C5)) (A2 (pv 0)) (F6 Z0 m6 C5 C5)))))),λds Q hl h=>?_⟩)
 obtain⟨x,rfl,x0,x1,q⟩:=h
 left
 refine⟨_,rfl,?_⟩
 rw[show o7 (.int x)=true from rfl]
 left
 refine⟨⟨DD,DD,DD⟩,?_⟩
 rw[decide_eq_true (show -(10:Int) ^ (18:Int).toNat<=x from B24 DD x0)]
 left
 refine⟨⟨DD,DD,DD⟩,?_⟩
 rw[decide_eq_true (show x<=10 ^ (18:Int).toNat from B24 x1 DD)]
 exact q
theorem D35 (T:Txt K mg):C1 P w K mg base CX0 3 T.cA.a T.cA.d ["many", "thing"] (spD [.sh,.sh] D31):=by
 have dS:=@C15 P w K mg base T
 have dU:=T.aF.b
 have fM:=@C22 P w K mg base T
 have fN:=T.aJ.b
 refine F8 T.cA.F C92 rfl (λC cdv A outer s H E hr=>⟨_,(@G5 _ _ _ _ _ _ (@e9 _ _ _ _ (@N0 _ _ _ _ _ _ _ _ _ (PW.pt (@i9 _ _ _ _ _ _ _ _ (l9 (l8 (A2k B4f (E9 A1o rfl T.au A0x (A1 (pv 1) (A1 (A0q (v:=V.ty "tuple") rfl T.iZ B3z rfl) A5 A0) A0) (he:=A0) (hpl:=(A4 A0 A3)))))) (w5 (J5 (i8 (K2 hr)) m7 (A39 (E9 U0 rfl T.aN T3 (A1 (pv 1) A5 A0) (he:=A0) (hpl:=A3))) C5 (C8 _))))) (C9 (D8 B9n)) N8)) (@C9 _ _ _ _ (@D8 _ _ _ _ _ (@m5 _ _ _ _ _ _ _ _ (E4 (B0 dS (hr.mono DD) rfl T.aF.m T.aF.F.kp dU .nil A7 (B4 (A2 (pv 0)) (B4 (C2 (pv 1) (D6 (D0 (v:=V.int 0) rfl T.bW ⟨_,rfl⟩)) (λ_ _=>rfl)) E3 A6) A0) (he:=A0) (hpl:=(A4 A6 A3)))) (@m5 _ _ _ _ _ _ _ _ (E4 (B0 dS (hr.mono DD) rfl T.aF.m T.aF.F.kp dU .nil A7 (B4 (A2 (pv 0)) (B4 (C2 (pv 1) (D6 (D0 (v:=V.int 1) rfl T.cq ⟨_,rfl⟩)) (λ_ _=>rfl)) E3 A6) A0) (he:=A0) (hpl:=(A4 A6 A3)))) (e7 (E4 (B0 fM (hr.mono DD) rfl T.aJ.m T.aJ.F.kp fN .nil A7 (B4 (C2 (pv 1) (D6 (D0 (v:=V.int 2) rfl T.bX ⟨_,rfl⟩)) (λ_ _=>rfl)) E3 A6) (he:=A6) (hpl:=A3))))))))),λds Q hl h=>?_⟩)
 obtain⟨m,w,rfl,ow,q⟩:=h
 refine C2x (fun ρ'=>ρ'=[Sl.sh (.int ((m:Nat):Int)),Sl.sh (K7 w)]) ?_ ?_
 ·right
  refine⟨rfl,rfl,A09 _ _,?_⟩
  exact C7 rfl
 rintro ρ rfl
 refine go ?_
 right
 have h1:=ow.st
 have h2:=ow.en
 refine⟨_,_,rfl,?_⟩
 rw[decide_eq_true (show (0:Int)<=((w.1:Nat):Int)/\((w.1:Nat):Int) < ((m:Nat):Int) by lia)]
 right
 refine⟨_,_,rfl,?_⟩
 rw[decide_eq_true (show (0:Int)<=((w.2.1:Nat):Int)/\((w.2.1:Nat):Int) < ((m:Nat):Int) by lia)]
 right
 exact⟨w.2.2,rfl,ow.lo,ow.hi,q⟩
theorem D36 (T:Txt K mg):C1 P w K mg base CX0 2 T.bF.a T.bF.d ["thing"] (spD [.sh] D32):=by
 have bc:=@A92 P w K mg base T
 have be:=T.ak.b
 refine F8 T.bF.F C9y rfl (λC cdv A outer s H E hr=>⟨_,(C9 (D8 (m5 (E4 (B0 bc (hr.mono DD) rfl T.ak.m T.ak.F.kp be .nil A7 (B4 (A2 (pv 0)) E3 A0) (he:=A0) (hpl:=A3))) (e7 (A9d Z1 Z1 C5 (A2 (pv 0)) (F6 Z0 m6 C5 C5)))))),λds Q hl h=>?_⟩)
 obtain⟨x,rfl,x0,x1,q⟩:=h
 left
 refine⟨_,rfl,?_⟩
 rw[show o7 (.int x)=true from rfl]
 left
 rw[decide_eq_true x0]
 left
 refine⟨⟨DD,DD,DD⟩,?_⟩
 rw[decide_eq_true (show x<=10 ^ (20:Int).toNat from B24 x1 DD)]
 exact q
theorem D37 (T:Txt K mg):C1 P w K mg base CX0 2 T.bG.a T.bG.d ["store", "thing"] (spD [.sh,.sh] D33):=by
 have bc:=@A92 P w K mg base T
 have be:=T.ak.b
 refine F8 T.bG.F C9z rfl (λC cdv A outer s H E hr=>⟨_,(C9 (D8 (m5 (E4 (B0 bc (hr.mono DD) rfl T.ak.m T.ak.F.kp be .nil A7 (B4 (A2 (pv 1)) E3 A0) (he:=A0) (hpl:=A3))) (e7 (A9d Z1 Z1 C5 (A2 (pv 1)) (A2 (pv 0))))))),λds Q hl h=>?_⟩)
 obtain⟨st,x,rfl,x0,x1,q⟩:=h
 left
 refine⟨_,rfl,?_⟩
 rw[show o7 (.int x)=true from rfl]
 left
 rw[decide_eq_true x0]
 left
 rw[decide_eq_true x1]
 exact q
theorem C23 (T:Txt K mg):C1 P w K mg base CX0 3 T.aP.a T.aP.d ["many", "store", "thing"] (spD [.sh,.sh,.sh] D34):=by
 have nE:=@D37 P w K mg base T
 have nF:=T.bG.b
 refine F8 T.aP.F C96 rfl (λC cdv A outer s H E hr=>⟨_,(@G5 _ _ _ _ _ _ (@e9 _ _ _ _ (@N0 _ _ _ _ _ _ _ _ _ (PW.pt (@i9 _ _ _ _ _ _ _ _ (l9 (l8 (A2k B4e (E9 A1o rfl T.au A0x (A1 (pv 2) (A1 (A0q (v:=V.ty "list") rfl T.aD V0 rfl) A5 A0) A0) (he:=A0) (hpl:=(A4 A0 A3)))))) (w5 (J5 (i8 (K2 hr)) m7 (A39 (E9 U0 rfl T.aN T3 (A1 (pv 2) A5 A0) (he:=A0) (hpl:=A3))) (A2 (pv 0)) (C8 _))))) (C9 (D8 B9n)) N8)) (@C9 _ _ _ _ (@D8 _ _ _ _ _ (@S7 _ _ _ _ _ _ C7r (@E9 _ _ _ _ _ _ _ _ _ (B86 rfl) rfl T.nC B9a (@C3 _ _ _ _ _ _ (@K6 _ _ _ _ (@A05 _ _ _ _ _ _ _ _ rfl (@W8 _ _ _ _ _ _ _ _ _ _ _ _ _ _ _ (Q0.new (N:=["many", "store", "thing"]) (osc:=B1 B1n) KK) rfl (A2m (pv 2)) (λ_=>y8) (λ_=>(B35 (w4 V8 j0 (A2 (pv 3)) J0 (C8 _)) (e7 (E4 (B0 nE (hr.mono DD) rfl T.bG.m T.bG.F.kp nF .nil A7 (B4 (A2 (pv 1)) (B4 (A2 (pv 3)) E3 A0) A0) (he:=A0) (hpl:=(A4 A0 A3))))))) (by rfl) (by rfl) (by intro _;rfl)))) E7 A0y) DD DD A0y A3))))),λds Q hl h=>?_⟩)
 obtain⟨t,m,st,rfl,hm,ht,q⟩:=h
 have hl:=ht.len
 refine C2x (fun ρ'=>ρ'=[Sl.sh (.int ((m:Nat):Int)),Sl.sh (.int st),Sl.sh (.list (B7 t))]) ?_ ?_
 ·right
  refine⟨rfl,rfl,A09 _ _,?_⟩
  rw[A1x,Y5,hl,beq_self_eq_true]
  exact C7 rfl
 rintro ρ rfl
 refine go ?_
 array_mem_dec
 refine⟨⟨rfl,by rw[Y5];lia⟩,?_⟩
 unfold B7
 refine z4 (f:=λ_=>.bool true) (λo ho Q' q'=>?_) ?_
 ·cases o with
  | none=>
   right
   exact q'
  | some x=>
   obtain⟨p,hp⟩:=C20 ho
   obtain⟨b0,b1⟩:=ht.bd p x hp
   right
   exact⟨st,x,rfl,b0,b1,q'⟩
 ·rw[X5]
  unfold gBs
  left
  rw[C2y]
  left
  rw[C2z]
  exact q
end
theorem E2.same {F:Addr->Prop} {C:Addr} {H H':Hp} {p d:Addr} {k:Kst} (h:E2 F C H p d k) (s:Same H H'):E2 F C H' p d k:=h.mv (λb o e _=>s _ _ e) λ_ z=>z
def TL (H:Hp) (v:V) (b:Addr):Prop:=v=.ref b\/∃a xs,v=.ref a/\H a=some (.tup xs)/\V.ref b∈xs
def Apt (C:Addr) (H:Hp) (p d:Addr) (k:Kst) (v:V):Prop:=(∀a x y,v=.ref a->H a=some (.tup [.ref x,.ref y])->x≠y)/\E2 (λb=>¬ TL H v b) C H p d k
theorem E2.ex {F:Addr->Prop} {C:Addr} {H:Hp} {p d:Addr} {k:Kst} (h:E2 F C H p d k):E2 (λb=>∃xs,H b=some (.lst xs)) C H p d k:=by
 obtain⟨⟨dx,g,l,ug,ul,e1,g1,e2,t2,g3,e3,t3⟩,z⟩:=h
 exact⟨⟨dx,g,l,ug,ul,e1,⟨_,e2⟩,e2,t2,⟨_,e3⟩,e3,t3⟩,z⟩
theorem A1a {G G':Addr->Prop} {C:Addr} {H:Hp} {p d:Addr} {k:Kst} (h:E2 G C H p d k) (n:∀b xs,G b->H b=some (.lst xs)->G' b):E2 G' C H p d k:=by
 obtain⟨⟨dx,g,l,ug,ul,e1,g1,e2,t2,g3,e3,t3⟩,z⟩:=h
 exact⟨⟨dx,g,l,ug,ul,e1,n _ _ g1 e2,e2,t2,n _ _ g3 e3,e3,t3⟩,z⟩
section
variable {G:Addr->Prop} {C:Addr} {H H0:Hp} {p d:Addr} {k:Kst} {a:Addr}
theorem D38 {i:Int} (h:E2 G C H p d k):Apt C H p d k (.int i):=⟨(λa x y e _=>by cases e),A1a h λb xs _ _ z=>by
 rcases z with z | ⟨_,_,z,_⟩ <;> cases z⟩
theorem B6v {xs:List V} (h:E2 (λb=>∃xs,H0 b=some (.lst xs)) C H p d k) (n:H0 a=none) (e:H a=some (.lst xs)):Apt C H p d k (.ref a):=⟨(λb x y e1 e2=>by
 cases e1
 rw[e] at e2;cases e2),A1a h λb xs g _ z=>by
 obtain⟨ys,g⟩:=g
 rcases z with z | ⟨_,_,z,z2,_⟩
 ·cases z
  rw[n] at g;cases g
 ·cases z
  rw[e] at z2;cases z2⟩
theorem D39 {i:Int} {l:Addr} (h:E2 (λb=>∃xs,H0 b=some (.lst xs)) C H p d k) (n:H0 a=none) (n2:H0 l=none) (e:H a=some (.tup [.int i,.ref l])):Apt C H p d k (.ref a):=⟨(λb x y e1 e2=>by
 cases e1
 rw[e] at e2;cases e2),A1a h λb xs g _ z=>by
 obtain⟨ys,g⟩:=g
 rcases z with z | ⟨_,_,z,z2,z3⟩
 ·cases z
  rw[n] at g;cases g
 ·cases z
  rw[e] at z2;cases z2
  rcases N3.mp z3 with z | z
  ·cases z
  ·cases A1h.mp z
   rw[n2] at g;cases g⟩
theorem D4a {F:Addr->Prop} {v:V} {w:Wy} (h:E2 G C H p d k) (t:ThV F H v (K7 w)):Apt C H p d k v:=by
 obtain⟨a,us,rfl,_,e,tu⟩:=W0 (show ThV F H v (.tuple ([((w.1:Nat):Int),((w.2.1:Nat):Int),w.2.2].map PyData.int)) from t)
 have hu:∀{xs:List Int} {us:List V},B2 F H us (xs.map PyData.int)->∀b,V.ref b∉us:=λ{xs}=>by
  induction xs with
  | nil=>intro us t b z;cases t;cases z
  | cons x xs ih=>
   intro us t b z
   cases t with
   | cons y r=>
    cases y
    rcases N3.mp z with z | z
    ·cases z
    ·exact ih r b z
 refine⟨λb x y e1 e2=>?_,A1a h λb xs _ eb z=>?_⟩
 ·cases e1
  rw[e] at e2
  cases e2
  exact absurd D9 (hu tu x)
 ·rcases z with z | ⟨_,_,z,z2,z3⟩
  ·cases z
   rw[e] at eb;cases eb
  ·cases z
   rw[e] at z2;cases z2
   exact hu tu b z3
end
def j5 (C:Addr) (pre:Kst->List PyData->Prop) (post:Kst->List PyData->PyData->Kst->Prop):Sp:=λvs H Q _=>∃(F:Addr->Prop) (p d:Addr) (k:Kst) (us:List V) (ds:List PyData),vs=.ref p::us/\(∀b,H b=none->F b)/\E2 F C H p d k/\B2 TT0 H us ds/\pre k ds/\
 ∀r v k' H',post k ds r k'->E2 F C H' p d k'->ThV (O4 H) H' v r->(∀b o,H b=some o->b≠p->b≠d->H' b=some o)->Apt C H' p d k' v->Q v H'
def D4b (k:Kst) (ds:List PyData):Prop:=ds=[]/\(B5 k.kws).length < 64
def D4c (k:Kst) (_:List PyData) (r:PyData) (k':Kst):Prop:=r=E8 k.m (wsF k.kws)/\k'=k
def B6w (k:Kst) (ds:List PyData):Prop:=ds=[]
def D4d (k:Kst) (_:List PyData) (r:PyData) (k':Kst):Prop:=r=.list (B7 k.low)/\k'=k
def D4e (a b:Tb):PyData:=.tuple [.list (F5 (A99 b a)),.list (F5 (A99 a b))]
def B6x (k:Kst) (low:Tb) (r:PyData) (k':Kst):Prop:=∃b,X3 k.m k.st k.g k.kws b/\r=D4e low b/\k'={ k with low:=b }
def D4f (k:Kst) (ds:List PyData):Prop:=ds=[]/\KOk k.m k.st k.g k.kws/\k.low.length=k.m
def D4g (k:Kst) (_:List PyData) (r:PyData) (k':Kst):Prop:=B6x k k.low r k'
section
variable {P:Program} {w:World} {K:A9} {mg:Str->Option Value} {base:Heap}
theorem B0b (T:Txt K mg):C1 P w K mg base CX0 1 T.gA T.gB ["self"] (j5 T.ac D4b D4c):=by
 refine T.jF.ok D0v (λvs H Q E h=>?_) (λcdv A outer s H vs Q E hr h=>?_)
 ·obtain⟨F,p,d,k,us,ds,rfl,_,_,tus,⟨rfl,_⟩,_⟩:=h
  cases tus;rfl
 ·obtain⟨F,p,d,k,us,ds,rfl,hF,kp,tus,⟨rfl,hk⟩,told⟩:=h
  cases tus
  have kp0:=kp
  obtain⟨⟨dx,g,l,ug,ul,e1,g1,e2,t2,g3,e3,t3⟩,kvs,e4,kv⟩:=kp
  refine⟨_,(D7 (F7 (R8 (A1 (O9 (pv 0) rfl) (A1 (W8 (Q0.new (N:=["self"]) (osc:=B1 A48) KK) rfl (A0s (E9 (A66 rfl) rfl T.cx A54 (A1 (O9 (pv 0) rfl) A5 M3) (he:=M3) (hpl:=A3))) (λ_=>A2a) (λ_=>(A07 (u1 (K2 hr)) (O9 (pv 0) rfl) (pv 1) (λ_ _=>rfl)))) A5 A0y) M3)))),?_⟩
  refine⟨_,rfl,p,_,dx,_,_,rfl,e1,T.ae,T.eA,B2i,?_⟩
  refine⟨_,rfl,p,_,dx,_,_,rfl,e1,T.ae,T.bi,A0c,d,kvs,_,rfl,e4,kv.keys,hk,λl1 ms hl1 hp hs=>?_⟩
  have ems:=A5g hp hs
  subst ems
  obtain⟨H1,hH1⟩:∃H1,H1=upd H l1 (.lst ((srt (B5 k.kws)).map V.int)):=⟨_,rfl⟩
  rw[<-hH1]
  have s1:Same H H1:=by rw[hH1];exact Same.upd hl1
  have el1:H1 l1=some (.lst ((srt (B5 k.kws)).map V.int)):=by rw[hH1];exact B6
  have lsr:(srt (B5 k.kws)).length < 64:=by rw[(Z9 _).length_eq];exact hk
  refine⟨l1,rfl,⟨_,SqL.of el1⟩,?_⟩
  refine A53 (xs:=(srt (B5 k.kws)).map V.int) (λi ys Hn=>Hn=H1/\B2 (O4 H) H1 ys (((wsF k.kws).take i).map K7)) ?_ ⟨rfl,.nil⟩ ?_ ?_ ?_
  ·rw[C6,sizeLine_eq];lia
  ·rintro i ys Hn hi ⟨rfl,h2⟩
   refine⟨?_,SqL.of el1⟩
   rw[h2.len,C6,j6]
   lia
  ·rintro i x ys Hn hx ⟨rfl,h2⟩ ca
   rw[K3] at hx
   obtain⟨n,hn,rfl⟩:=A3h.mp hx
   obtain⟨w0,hw0⟩:=A27 ((Z9 _).mem_iff.mp (R6 hn))
   have hwi:(wsF k.kws)[i]?=some w0:=by
    unfold wsF
    rw[K3,hn,A12,hw0];rfl
   rcases kv.val n with ⟨_,z⟩ | ⟨v0,w1,hv,hw1,tv⟩
   ·rw[hw0] at z;cases z
   rw[hw0] at hw1
   cases hw1
   unfold A19
   refine G0 ⟨_,rfl,p,_,dx,_,_,rfl,s1 _ _ e1,T.ae,T.bi,A0c,_,rfl,d,v0,rfl,by rw[<-hv];exact U5.k (k:=Sum.inl n) (s1 _ _ e4),rfl,?_⟩
   rw[A8w,hwi,R7]
   exact h2.append (.cons (A5f tv (λb xs e=>s1 _ _ e) λb xs e=>.inr ⟨xs,e⟩) .nil)
  rintro ys Hn ⟨rfl,h2⟩ l2 hl2
  have lw:(wsF k.kws).length=(srt (B5 k.kws)).length:=by unfold wsF;rw[C6]
  rw[C6,<-lw,B28] at h2
  refine⟨by show 2<=sizeLine;decide,λr hr'=>?_⟩
  have s2:Same Hn (upd Hn l2 (.lst ys)):=Same.upd hl2
  have s3:Same (upd Hn l2 (.lst ys)) _:=Same.upd (o:=.tup [.int ((k.m:Nat):Int),.ref l2]) hr'
  have s13:=(s1.tr s2).tr s3
  refine told _ _ k _ ⟨rfl,rfl⟩ (kp0.same s13) (.tup (.inl ((s1.tr s2).early hr')) B6 (.cons (.int _) (.cons (.lst (.inl (s1.early hl2)) (s3 _ _ B6) ((h2.keep s2).keep s3)) .nil))) (λb o e _ _=>s13 _ _ e) (D39 (kp0.ex.same s13) ((s1.tr s2).early hr') (s1.early hl2) B6)
theorem D4h (T:Txt K mg):C1 P w K mg base CX0 1 T.fj T.fm ["self"] (j5 T.ac B6w D4d):=by
 refine T.ii.ok D0w (λvs H Q E h=>?_) (λcdv A outer s H vs Q E hr h=>?_)
 ·obtain⟨F,p,d,k,us,ds,rfl,_,_,tus,rfl,_⟩:=h
  cases tus;rfl
 ·obtain⟨F,p,d,k,us,ds,rfl,hF,kp,tus,rfl,told⟩:=h
  cases tus
  have kp0:=kp
  obtain⟨⟨dx,g,l,ug,ul,e1,g1,e2,t2,g3,e3,t3⟩,kvs,e4,kv⟩:=kp
  refine⟨_,(D7 (F7 (W6 Z3 rfl T.aD V0 (A1 (O9 (pv 0) rfl) A5 M3) (he:=M3) (hpl:=A3)))),?_⟩
  refine⟨_,rfl,p,_,dx,_,_,rfl,e1,T.ae,T.bV,B2k,l,ul,rfl,.inl (SqL.of e3),λl2 hl2=>?_⟩
  exact told _ _ k _ ⟨rfl,rfl⟩ (kp0.same (Same.upd hl2)) (.lst (.inl hl2) B6 (G3 t3)) (λb o e _ _=>Same.upd hl2 _ _ e) (B6v (kp0.ex.same (Same.upd hl2)) hl2 B6)
end
theorem N2 {F:Addr->Prop} {C:Addr} {H:Hp} {p d:Addr} {k:Kst} (h:E2 F C H p d k) {b:Addr} {xs:List V} (e:H b=some (.lst xs)):b≠p/\b≠d:=by
 obtain⟨⟨dx,g,l,ug,ul,e1,_⟩,kvs,e4,_⟩:=h
 exact⟨(λz=>by rw[z,e1] at e;cases e),λz=>by rw[z,e4] at e;cases e⟩
theorem S3 {F:Addr->Prop} {C:Addr} {H:Hp} {p d:Addr} {k:Kst} (h:E2 F C H p d k) {b:Addr} {xs:List V} (e:H b=some (.tup xs)):b≠p/\b≠d:=by
 obtain⟨⟨dx,g,l,ug,ul,e1,_⟩,kvs,e4,_⟩:=h
 exact⟨(λz=>by rw[z,e1] at e;cases e),λz=>by rw[z,e4] at e;cases e⟩
theorem A1z {F:Addr->Prop} {C:Addr} {H:Hp} {p d:Addr} {k:Kst} (h:E2 F C H p d k):p≠d/\H p≠none/\H d≠none:=by
 obtain⟨⟨dx,g,l,ug,ul,e1,_⟩,kvs,e4,_⟩:=h
 exact⟨(λz=>by rw[z,e4] at e1;cases e1),(λz=>by rw[z] at e1;cases e1),λz=>by rw[z] at e4;cases e4⟩
section
variable {P:Program} {w:World} {K:A9} {mg:Str->Option Value} {base:Heap}
theorem B0c (T:Txt K mg):C1 P w K mg base CX0 10 T.fc T.ff ["self"] (j5 T.ac D4f D4g):=by
 have bK:=@B0b P w K mg base T
 have bL:=A9y T
 have dj:=@B2g P w K mg base T
 have dk:=T.bj.b
 have fW:=@D3u P w K mg base T
 have fX:=T.az.b
 refine T.ie.ok C1t (λvs H Q E h=>?_) (λcdv A outer s H vs Q E hr h=>?_)
 ·obtain⟨F,p,d,k,us,ds,rfl,_,_,tus,⟨rfl,_⟩,_⟩:=h
  cases tus;rfl
 ·obtain⟨F,p,d,k,us,ds,rfl,hF,kp,tus,⟨rfl,ok,hll⟩,told⟩:=h
  cases tus
  have kp0:=kp
  obtain⟨⟨dx,g,l,ug,ul,e1,g1,e2,t2,g3,e3,t3⟩,kvs,e4,kv⟩:=kp
  have fk:=ok.few
  have m2:=ok.m2
  have s1k:=ok.s1
  have lk:(B5 k.kws).length < 64:=by unfold B5;rw[C6];lia
  refine⟨_,(B9 (C0 (i:=1) C1t.nd rfl (B3 rfl) (O9 (pv 0) rfl))
   (B9 (A18 (pv 0) (B0 dj (hr.mono DD) rfl T.bC T.bj.F.kp dk .nil A7 (A1 (b9 (pv 0) T.ae T.cL bK (hr.mono DD) bL .nil A7) (A1 (O9 (pv 0) rfl) (A1 (O9 (pv 0) rfl) A5 M3) M3) D4) (he:=D4) (hpl:=(A4 M3 (A4 M3 A3)))) rfl)
   (D7 (F7 (R8 (A1 (B0 fW (hr.mono DD) rfl T.az.m T.az.F.kp fX .nil A7 (A1 (O9 (pv 0) rfl) (A1 (pv 1) A5 A0) M3) (he:=M3) (hpl:=(A4 A0 A3))) (A1 (B0 fW (hr.mono DD) rfl T.az.m T.az.F.kp fX .nil A7 (A1 (pv 1) (A1 (O9 (pv 0) rfl) A5 M3) A0) (he:=A0) (hpl:=(A4 M3 A3))) A5 D4) D4)))))),?_⟩
  try dsimp only[N6,Cx.nox]
  refine j3 λW hW=>?_
  refine⟨_,rfl,p,_,dx,_,_,rfl,e1,T.ae,T.bV,B2k,?_⟩
  refine @G8 W _ _ _ _ _ hW λW hW=>?_
  refine⟨_,rfl,p,dx,_,rfl,e1,P5 KK,F,p,d,k,[],[],rfl,hF,kp0,.nil,⟨rfl,lk⟩,λr v k' H1 po kp1 tv fr _=>?_⟩
  obtain⟨rfl,rfl⟩:=po
  have kp1':=kp1
  obtain⟨⟨dx1,g',l',ug',ul',f1,gg1,f2,tt2,gg3,f3,tt3⟩,kvs',f4,kv'⟩:=kp1
  have n3:=N2 kp0 e3
  have e3':=fr _ _ e3 n3.1 n3.2
  refine⟨_,rfl,p,_,dx1,_,_,rfl,f1,T.ae,T.cK,B0a,_,rfl,p,_,dx1,_,_,rfl,f1,T.ae,T.bU,B2j,?_⟩
  refine⟨[E8 k'.m (wsF k'.kws),.int k'.st,.list (B7 k'.g)],(λd=>∃t,N9 k'.m ((wsF k'.kws).map S2) k'.st (lkF k'.st k'.g) t/\d=.list (B7 (lkF k'.st t))),.cons tv.any (.cons (.int _) (.cons (.lst trivial f2 tt2) .nil)),⟨k'.m,wsF k'.kws,k'.st,k'.g,rfl,ok.land,ok.s0,OO,ok.gt,λt ht=>⟨t,ht,rfl⟩⟩,λd' v2 H2 hd' t2' s2=>?_⟩
  obtain⟨t,ht,rfl⟩:=hd'
  obtain⟨ln,un,rfl,gn,en,tn⟩:=K9 t2'
  have lnn:H1 ln=none:=A96 s2 gn en
  refine⟨_,rfl,p,_,dx1,_,rfl,s2 _ _ f1,T.ae,T.bV,by show 5 < 1000;decide,?_⟩
  rw[D3w]
  obtain⟨H3,hH3⟩:∃H3,H3=upd H2 p (.ins T.ac dx1 (kfs k'.m k'.st g' d ln)):=⟨_,rfl⟩
  rw[<-hH3]
  have f3':∀b o,H2 b=some o->b≠p->H3 b=some o:=λb o e n=>by rw[hH3,B8 n];exact e
  have pd:=A1z kp1'
  have np:∀{b:Addr} {xs:List V},H2 b=some (.lst xs)->H3 b=some (.lst xs):=λ{b xs} e=>f3' _ _ e λz=>by rw[z,s2 _ _ f1] at e;cases e
  have lb:X3 k'.m k'.st k'.g k'.kws (lkF k'.st t):=⟨t,ht,rfl⟩
  have kpF:E2 F T.ac H3 p d { k' with low:=lkF k'.st t }:=by
   refine⟨⟨dx1,g',ln,ug',un,by rw[hH3];exact B6,gg1,np (s2 _ _ f2),G3 tt2,hF _ ?_,np en,G3 tn⟩,kvs',f3' _ _ (s2 _ _ f4) pd.1.symm,kv'.mv λb xs e=>f3' _ _ (s2 _ _ e) (S3 kp1' e).1⟩
   cases z:H ln with
   | none=>rfl
   | some o=>
    by_cases c1:ln=p
    ·rw[c1,s2 _ _ f1] at en;cases en
    ·by_cases c2:ln=d
     ·rw[c2,s2 _ _ f4] at en;cases en
     ·rw[fr _ _ z c1 c2] at lnn;cases lnn
  have eH3p:H3 p=some (.ins T.ac dx1 (kfs k'.m k'.st g' d ln)):=by rw[hH3];exact B6
  have lt:=lb.tab.len
  subst hW
  refine⟨_,rfl,p,_,dx1,_,_,rfl,eH3p,T.ae,T.bV,B2k,_,rfl,[.list (B7 (lkF k'.st t)),.list (B7 k'.low)],(λd=>d=.list (F5 (A99 (lkF k'.st t) k'.low))),.cons (.lst trivial (np en) (G3 tn)) (.cons (.lst trivial (np (s2 _ _ e3')) (G3 t3)) .nil),⟨_,_,rfl,by rw[lt,hll],OO,rfl⟩,λd' v4 H4 hd' t4 s4=>?_⟩
  subst hd'
  refine⟨_,rfl,_,rfl,p,_,dx1,_,_,rfl,s4 _ _ eH3p,T.ae,T.bV,B2k,[.list (B7 k'.low),.list (B7 (lkF k'.st t))],(λd=>d=.list (F5 (A99 k'.low (lkF k'.st t)))),.cons (.lst trivial (s4 _ _ (np (s2 _ _ e3'))) (G3 t3)) (.cons (.lst trivial (s4 _ _ (np en)) (G3 tn)) .nil),⟨_,_,rfl,by rw[lt,hll],OO,rfl⟩,λd' v5 H5 hd' t5 s5=>?_⟩
  subst hd'
  refine⟨by show 2<=sizeLine;decide,λrr hrr=>?_⟩
  have s6:Same H5 (upd H5 rr (.tup [v4,v5])):=Same.upd hrr
  have s36:=(s4.tr s5).tr s6
  have fr3:∀b o,H b=some o->b≠p->b≠d->H3 b=some o:=λb o e n1 n2=>f3' _ _ (s2 _ _ (fr _ _ e n1 n2)) n1
  have new3:∀b,O4 H3 b->O4 H b:=λb hb=>by
   rcases hb with hb | ⟨xs,hb⟩
   ·cases z:H b with
    | none=>exact .inl z
    | some o=>
     by_cases c1:b=p
     ·rw[c1,eH3p] at hb;cases hb
     ·by_cases c2:b=d
      ·rw[c2,f3' _ _ (s2 _ _ f4) pd.1.symm] at hb;cases hb
      ·rw[fr3 _ _ z c1 c2] at hb;cases hb
   ·cases z:H b with
    | none=>exact .inl z
    | some o=>
     by_cases c1:b=p
     ·rw[c1,eH3p] at hb;cases hb
     ·by_cases c2:b=d
      ·rw[c2,f3' _ _ (s2 _ _ f4) pd.1.symm] at hb;cases hb
      ·have:=fr3 _ _ z c1 c2
       rw[hb] at this
       cases this
       exact .inr ⟨xs,z⟩
  refine told _ _ _ _ ⟨lkF k'.st t,lb,rfl,rfl⟩ (kpF.same s36) (.tup (new3 _ (.inl ((s4.tr s5).early hrr))) B6 (.cons (((t4.mv λb o z e=>⟨new3 _ z,e⟩).keep s5).keep s6) (.cons ((t5.mv λb o z e=>⟨new3 _ (C2t s4 z),e⟩).keep s6) .nil))) (λb o e n1 n2=>s36 _ _ (fr3 _ _ e n1 n2)) ⟨λa x y z1 z2=>?_,A1a (kpF.ex.same s36) λb xs g _ z=>?_⟩
  ·cases z1
   rw[B6] at z2
   cases z2
   obtain⟨_,_,ex,_,ex1,_⟩:=K9 t4
   cases ex
   obtain⟨_,_,ey,gy,ey1,_⟩:=K9 t5
   cases ey
   have:=A96 s5 gy ey1
   intro z
   rw[<-z,ex1] at this
   cases this
  ·obtain⟨ys,g⟩:=g
   rcases z with z | ⟨_,_,z,z2,z3⟩
   ·cases z
    rw[(s4.tr s5).early hrr] at g;cases g
   ·cases z
    rw[B6] at z2
    cases z2
    rcases N3.mp z3 with z | z
    ·obtain⟨_,_,ex,gx,ex1,_⟩:=K9 t4
     rw[<-z] at ex
     cases ex
     rw[A96 s4 gx ex1] at g;cases g
    ·have z:=A1h.mp z
     obtain⟨_,_,ey,gy,ey1,_⟩:=K9 t5
     rw[<-z] at ey
     cases ey
     have:=A96 s5 gy ey1
     rw[s4 _ _ g] at this;cases this
end
inductive S4
 | lay (x:Int) (w:Wy)
 | lift (x:Int)
 | turn (x c:Int)
 | refill (s:Int)
 | aim (g:Tb)
def S4.args:S4->List PyData
 | .lay x w=>[.int x,.int ((w.1:Nat):Int),.int ((w.2.1:Nat):Int),.int w.2.2]
 | .lift x=>[.int x]
 | .turn x c=>[.int x,.int c]
 | .refill s=>[.int s]
 | .aim g=>[.list (B7 g)]
def A1b (kws:Kw) (x c:Int):Wy:=(((G6 kws x).getD (0,0,0)).1,((G6 kws x).getD (0,0,0)).2.1,c)
def K8 (k:Kst):S4->Kst
 | .lay x w=>{ k with kws:=X2 k.kws x w }
 | .lift x=>{ k with kws:=A8k k.kws x }
 | .turn x c=>{ k with kws:=X2 k.kws x (A1b k.kws x c) }
 | .refill s=>{ k with st:=s }
 | .aim g=>{ k with g:=g }
def a8 (x:Int):Prop:=1<=x/\x<=1000000000000000000
def A0d (k:Kst):S4->Prop
 | .lay x w=>a8 x/\G6 k.kws x=none/\B2h k.m w/\k.kws.length < 40
 | .lift x=>a8 x/\∃w,G6 k.kws x=some w
 | .turn x c=>(a8 x/\∃w,G6 k.kws x=some w)/\-1000000000000000000<=c/\c<=1000000000000000000
 | .refill s=>(0<=s/\s<=100000000000000000000)/\G1 k.m s k.g
 | .aim g=>G1 k.m k.st g
theorem B2l {kws:Kw} {x:Int} {w:Wy} (h:G6 kws x=none):X2 kws x w=kws++[(x,w)]:=by
 unfold X2
 rw[if_neg]
 intro z
 rw[List.any_eq_true] at z
 obtain⟨q,hq,e⟩:=z
 have e:q.1=x:=by simpa using e
 obtain⟨w',hw'⟩:=A27 (kws:=kws) (k:=x) (by unfold B5;exact S5.mpr ⟨q,hq,e⟩)
 rw[h] at hw';cases hw'
theorem B2m {kws:Kw} {x:Int} {w w0:Wy} (h:G6 kws x=some w0):X2 kws x w=kws.map λq=>if q.1=x then (q.1,w) else q:=by
 unfold X2
 rw[if_pos]
 rw[List.any_eq_true]
 exact⟨_,A26 h,by simp⟩
theorem D4i {kws:Kw} {x:Int} {w w0:Wy} (h:G6 kws x=some w0):B5 (X2 kws x w)=B5 kws:=by
 rw[B2m h]
 unfold B5
 rw[j8]
 refine A5t λq _=>?_
 show (if q.1=x then (q.1,w) else q).1=q.1
 split <;> rfl
theorem A5h {k:Kst} (o:KOk k.m k.st k.g k.kws):∀{dd:S4},A0d k dd->KOk (K8 k dd).m (K8 k dd).st (K8 k dd).g (K8 k dd).kws
 | .lay x w,⟨lx,hn,hw,hl⟩=>by
  show KOk k.m k.st k.g (X2 k.kws x w)
  rw[B2l hn]
  refine { o with nd:=?_,few:=by rw[U6,B2y];lia,way:=λq hq=>?_ }
  ·unfold B5
   rw[R7]
   refine List.nodup_append.mpr ⟨o.nd,by simp,λa ha b hb z=>?_⟩
   rw[A1h.mp (show b∈[x] from hb)] at z
   obtain⟨w',hw'⟩:=A27 (kws:=k.kws) (k:=x) (z▸ha)
   rw[hn] at hw';cases hw'
  ·rcases A0g.mp hq with h | h
   ·exact o.way q h
   ·rw[A1h.mp h];exact⟨lx,hw⟩
 | .lift x,_=>by
  show KOk k.m k.st k.g (A8k k.kws x)
  unfold A8k
  refine { o with nd:=?_,few:=b3 (C4l _ _) o.few,way:=λq hq=>o.way q (B2v.mp hq).1 }
  exact List.Nodup.sublist (List.Sublist.map _ List.filter_sublist) o.nd
 | .turn x c,⟨⟨lx,w0,hw0⟩,c0,c1⟩=>by
  show KOk k.m k.st k.g (X2 k.kws x (A1b k.kws x c))
  have wo:=(o.way _ (A26 hw0)).2
  have ht:A1b k.kws x c=(w0.1,w0.2.1,c):=by unfold A1b;rw[hw0];rfl
  refine { o with nd:=by rw[D4i hw0];exact o.nd,few:=?_,way:=λq hq=>?_ }
  ·rw[B2m hw0,C6];exact o.few
  ·rw[B2m hw0] at hq
   obtain⟨q',hq',rfl⟩:=S5.mp hq
   split
   ·rename_i e
    refine⟨(o.way q' hq').1,?_⟩
    rw[ht]
    exact⟨wo.st,wo.en,c0,c1⟩
   ·exact o.way q' hq'
 | .refill s,⟨⟨s0,s1⟩,ht⟩=>{ o with s0:=s0,s1:=s1,gt:=ht }
 | .aim g,ht=>{ o with gt:=ht }
def B0d (D:S4->Prop) (k:Kst) (ds:List PyData):Prop:=∃dd,D dd/\ds=dd.args/\KOk k.m k.st k.g k.kws/\k.low.length=k.m/\A0d k dd
def B0e (D:S4->Prop) (k:Kst) (ds:List PyData) (r:PyData) (k':Kst):Prop:=∃dd,D dd/\ds=dd.args/\B6x (K8 k dd) k.low r k'
abbrev B2n (dd:S4):Prop:=∃x w,dd=.lay x w
abbrev C24 (dd:S4):Prop:=∃x,dd=.lift x
abbrev C25 (dd:S4):Prop:=∃x c,dd=.turn x c
abbrev C26 (dd:S4):Prop:=∃s,dd=.refill s
abbrev C27 (dd:S4):Prop:=∃g,dd=.aim g
def D4j (k:Kst) (ds:List PyData):Prop:=∃x w,ds=[.int x]/\a8 x/\G6 k.kws x=some w
def D4k (k:Kst) (ds:List PyData) (r:PyData) (k':Kst):Prop:=(∃x w,ds=[.int x]/\G6 k.kws x=some w/\r=K7 w)/\k'=k
theorem a9 {F:Addr->Prop} {H:Hp} {vs:List V} {d:PyData} (t:B2 F H vs [d]):∃v,vs=[v]/\ThV F H v d:=by
 cases t with
 | cons x t=>cases t;exact⟨_,rfl,x⟩
theorem D4l {F:Addr->Prop} {H:Hp} {vs:List V} {d1 d2 d3 d4:PyData} (t:B2 F H vs [d1,d2,d3,d4]):∃v1 v2 v3 v4,vs=[v1,v2,v3,v4]/\ThV F H v1 d1/\ThV F H v2 d2/\ThV F H v3 d3/\ThV F H v4 d4:=by
 cases t with
 | cons x1 t=>
 cases t with
 | cons x2 t=>
 obtain⟨v3,v4,rfl,t3,t4⟩:=Q7 t
 exact⟨_,_,v3,v4,rfl,x1,x2,t3,t4⟩
section
variable {P:Program} {w:World} {K:A9} {mg:Str->Option Value} {base:Heap}
theorem C28 (T:Txt K mg):C1 P w K mg base CX0 3 T.eZ T.fb ["self", "label"] (j5 T.ac D4j D4k):=by
 have gD:=@C21 P w K mg base T
 have gE:=T.aR.b
 refine T.ic.ok D0s (λvs H Q E h=>?_) (λcdv A outer s H vs Q E hr h=>?_)
 ·obtain⟨F,p,d,k,us,ds,rfl,_,_,tus,⟨x,w,rfl,_⟩,_⟩:=h
  obtain⟨v,rfl,_⟩:=a9 tus
  rfl
 ·obtain⟨F,p,d,k,us,ds,rfl,hF,kp,tus,⟨x,w0,rfl,lx,hw⟩,told⟩:=h
  obtain⟨v,rfl,tx⟩:=a9 tus
  cases tx
  have kp0:=kp
  obtain⟨⟨dx,g,l,ug,ul,e1,g1,e2,t2,g3,e3,t3⟩,kvs,e4,kv⟩:=kp
  rcases kv.val x with ⟨_,z⟩ | ⟨v0,w1,hv,hw1,tv⟩
  ·rw[hw] at z;cases z
  rw[hw] at hw1
  cases hw1
  refine⟨_,(B9 (M5 (K1 (PW.pt (A0r (b5 (b4 (B0 gD (hr.mono DD) rfl T.aR.m T.aR.F.kp gE .nil A7 (A1 (pv 1) A5 A0) (he:=A0) (hpl:=A3)))) (A14 (B3b (C9l (u1 (K2 hr)) (pv 1) (O9 (pv 0) rfl))))))
   (D7 A1n)
   K4))
   (D7 (F7 (A07 (u1 (K2 hr)) (O9 (pv 0) rfl) (pv 1) (λ_ _=>rfl))))),?_⟩
  refine⟨fun σ' H'=>σ'=[some (.ref p),some (.int x)]/\Same H H',?_,?_⟩
  ·refine⟨_,rfl,Z8 (E:=E0) (λd=>d=.bool true) (.cons (.int _) .nil) ⟨x,rfl,lx.1,lx.2,rfl⟩ λd' v1 H1 hd t1 s1=>?_⟩
   subst hd
   cases t1
   refine⟨_,rfl,C7 ⟨_,rfl,_,rfl,p,_,dx,_,_,rfl,s1 _ _ e1,T.ae,T.bi,A0c,d,_,rfl,U5.k (k:=Sum.inl x) (s1 _ _ e4),_,rfl,?_⟩⟩
   rw[hv]
   exact C7 ⟨rfl,s1⟩
  rintro σ' H1 ⟨rfl,s1⟩
  refine⟨_,rfl,p,_,dx,_,_,rfl,s1 _ _ e1,T.ae,T.bi,A0c,_,rfl,d,v0,rfl,by rw[<-hv];exact U5.k (k:=Sum.inl x) (s1 _ _ e4),?_⟩
  exact told _ _ k _ ⟨⟨x,w0,rfl,hw,rfl⟩,rfl⟩ (kp0.same s1) (A5f tv (λb xs e=>s1 _ _ e) λb xs e=>.inr ⟨xs,e⟩) (λb o e _ _=>s1 _ _ e) (D4a (kp0.same s1) (A5f (G:=TT0) tv (λb xs e=>s1 _ _ e) λ_ _ _=>trivial))
theorem C29 (T:Txt K mg):C1 P w K mg base CX0 11 T.ja T.jb ["self", "label", "start", "end", "change"] (j5 T.ac (B0d B2n) (B0e B2n)):=by
 have gD:=@C21 P w K mg base T
 have gE:=T.aR.b
 have qk:=@D35 P w K mg base T
 have qm:=T.cA.b
 have bw:=@B0c P w K mg base T
 have bx:=A9x T
 refine T.kG.ok D0o (λvs H Q E h=>?_) (λcdv A outer s H vs Q E hr h=>?_)
 ·obtain⟨F,p,d,k,us,ds,rfl,_,_,tus,⟨dd,⟨x,w,rfl⟩,rfl,_⟩,_⟩:=h
  rw[J8,tus.len];rfl
 ·obtain⟨F,p,d,k,us,ds,rfl,hF,kp,tus,⟨dd,⟨x,w0,rfl⟩,rfl,ok,hll,dok⟩,told⟩:=h
  obtain⟨lx,hn,ow,hlen⟩:=id dok
  obtain⟨v1,v2,v3,v4,rfl,t1,t2',t3',t4⟩:=D4l tus
  cases t1
  cases t2'
  cases t3'
  cases t4
  have kp0:=kp
  obtain⟨⟨dx,g,l,ug,ul,e1,g1,e2,t2,g3,e3,t3⟩,kvs,e4,kv⟩:=kp
  have pd:=A1z kp0
  rcases kv.val x with ⟨hv,_⟩ | ⟨v0,w1,hv,hw1,tv⟩
  rotate_left
  ·rw[hn] at hw1;cases hw1
  refine⟨_,(B9 (M5 (K1 (b5 (b4 (B0 gD (hr.mono DD) rfl T.aR.m T.aR.F.kp gE .nil A7 (A1 (pv 1) A5 A0) (he:=A0) (hpl:=A3))))
   (D7 A1n)
   K4))
   (B9 (M5 (K1 (B3b (C07 (u1 (K2 hr)) (pv 1) (O9 (pv 0) rfl)))
   (D7 A1n)
   K4))
   (B9 (M5 (K1 (b5 (b4 (B0 qk (hr.mono DD) rfl T.cA.m T.cA.F.kp qm .nil A7 (A1 (O9 (pv 0) rfl) (A1 (R8 (A1 (pv 2) (A1 (pv 3) (A1 (pv 4) A5 A0) A0) A0)) A5 l7) M3) (he:=M3) (hpl:=(A4 l7 A3)))))
   (D7 A1n)
   K4))
   (B9 (M5 (K1 (J3 A86 (E9 C9v rfl T.aN T3 (A1 (O9 (pv 0) rfl) A5 M3) (he:=M3) (hpl:=A3)) (D0 (v:=V.int 40) rfl T.im ⟨_,rfl⟩) (C8 _))
   (D7 A1n)
   K4))
   (B9 (B1i (u1 (K2 hr)) (O9 (pv 0) rfl) (pv 1) (R8 (A1 (pv 2) (A1 (pv 3) (A1 (pv 4) A5 A0) A0) A0)) rfl)
   (D7 (F7 (b9 (pv 0) T.ae T.ck bw (hr.mono DD) bx .nil A7)))))))),?_⟩
  try dsimp only[N6,Cx.nox]
  refine j3 λW hW=>?_
  refine⟨fun σ' H'=>σ'=[some (.ref p),some (.int x),some (.int ((w0.1:Nat):Int)),some (.int ((w0.2.1:Nat):Int)),some (.int w0.2.2)]/\Same H H',?_,?_⟩
  ·refine⟨_,rfl,Z8 (E:=E0) (λd=>d=.bool true) (.cons (.int _) .nil) ⟨x,rfl,lx.1,lx.2,rfl⟩ λd' v1 H1 hd t1 s1=>?_⟩
   subst hd
   cases t1
   exact⟨_,rfl,C7 ⟨rfl,s1⟩⟩
  rintro σ' H1 ⟨rfl,s1⟩
  refine @G8 W _ _ _ _ _ hW λW hW=>?_
  refine⟨fun σ' H'=>σ'=[some (.ref p),some (.int x),some (.int ((w0.1:Nat):Int)),some (.int ((w0.2.1:Nat):Int)),some (.int w0.2.2)]/\Same H H',?_,?_⟩
  ·refine⟨_,rfl,_,rfl,p,_,dx,_,_,rfl,s1 _ _ e1,T.ae,T.bi,A0c,d,_,rfl,U5.k (k:=Sum.inl x) (s1 _ _ e4),_,rfl,?_⟩
   rw[hv]
   exact C7 ⟨rfl,s1⟩
  clear s1
  rintro σ' H1 ⟨rfl,s1⟩
  refine @G8 W _ _ _ _ _ hW λW hW=>?_
  refine⟨fun σ' H'=>σ'=[some (.ref p),some (.int x),some (.int ((w0.1:Nat):Int)),some (.int ((w0.2.1:Nat):Int)),some (.int w0.2.2)]/\Same H H',?_,?_⟩
  ·refine⟨_,rfl,p,_,dx,_,_,rfl,s1 _ _ e1,T.ae,T.eA,B2i,_,rfl,_,rfl,_,rfl,by show 3<=sizeLine;decide,λt ht=>?_⟩
   have s2:=s1.tr (Same.upd (o:=.tup [.int ((w0.1:Nat):Int),.int ((w0.2.1:Nat):Int),.int w0.2.2]) ht)
   refine Z8 (E:=E0) (λd=>d=.bool true) (.cons (.int _) (.cons (.tup trivial B6 (.cons (.int _) (.cons (.int _) (.cons (.int _) .nil)))) .nil)) ⟨k.m,w0,rfl,ow,rfl⟩ λd' v1 H3 hd t3 s3=>?_
   subst hd
   cases t3
   exact⟨_,rfl,C7 ⟨rfl,s2.tr s3⟩⟩
  clear s1
  rintro σ' H1 ⟨rfl,s1⟩
  refine @G8 W _ _ _ _ _ hW λW hW=>?_
  refine⟨fun σ' H'=>σ'=[some (.ref p),some (.int x),some (.int ((w0.1:Nat):Int)),some (.int ((w0.2.1:Nat):Int)),some (.int w0.2.2)]/\Same H H',?_,?_⟩
  ·refine⟨_,rfl,p,_,dx,_,_,rfl,s1 _ _ e1,T.ae,T.bi,A0c,d,kvs,rfl,s1 _ _ e4,_,_,rfl,rfl,_,rfl,?_⟩
   rw[kv.len,decide_eq_false (show ¬ (40:Int)<=((k.kws.length:Nat):Int) by lia)]
   exact C7 ⟨rfl,s1⟩
  clear s1
  rintro σ' H1 ⟨rfl,s1⟩
  refine @G8 W _ _ _ _ _ hW λW hW=>?_
  refine⟨_,rfl,_,rfl,_,rfl,by show 3<=sizeLine;decide,λt ht=>?_⟩
  obtain⟨H2,hH2⟩:∃H2,H2=upd H1 t (.tup [.int ((w0.1:Nat):Int),.int ((w0.2.1:Nat):Int),.int w0.2.2]):=⟨_,rfl⟩
  rw[<-hH2]
  have s12:Same H1 H2:=by rw[hH2];exact Same.upd ht
  have s2:=s1.tr s12
  have tw:ThV TT0 H2 (.ref t) (K7 w0):=.tup trivial (by rw[hH2];exact B6) (.cons (.int _) (.cons (.int _) (.cons (.int _) .nil)))
  clear hH2
  refine⟨_,rfl,p,_,dx,_,_,rfl,s2 _ _ e1,T.ae,T.bi,A0c,_,rfl,d,_,rfl,A2x.k (k:=Sum.inl x) (s2 _ _ e4) (by rw[kv.len,sizeLine_eq];lia),?_⟩
  obtain⟨H3,hH3⟩:∃H3,H3=upd H2 d (.dK (Y4 kvs (Sum.inl x:Key) (.ref t))):=⟨_,rfl⟩
  rw[<-hH3]
  have f3:∀b o,H2 b=some o->b≠d->H3 b=some o:=λb o e n=>by rw[hH3,B8 n];exact e
  have kp2:=kp0.same s2
  have kp3:E2 F T.ac H3 p d (K8 k (.lay x w0)):=by
   have nl:∀{b:Addr} {xs:List V},H2 b=some (.lst xs)->H3 b=some (.lst xs):=λe=>f3 _ _ e (N2 kp2 e).2
   exact⟨⟨dx,g,l,ug,ul,f3 _ _ (s2 _ _ e1) pd.1,g1,nl (s2 _ _ e2),G3 t2,g3,nl (s2 _ _ e3),G3 t3⟩,_,by rw[hH3];exact B6,((kv.mv λb xs e=>s2 _ _ e).put tw).mv λb xs e=>f3 _ _ e (S3 kp2 e).2⟩
  have e1':=f3 _ _ (s2 _ _ e1) pd.1
  have bk:∀b,H3 b=none->H b=none:=λb hb=>by
   cases z:H b with
   | none=>rfl
   | some o=>
    by_cases c:b=d
    ·rw[c,hH3,B6] at hb;cases hb
    ·rw[f3 _ _ (s2 _ _ z) c] at hb;cases hb
  subst hW
  refine⟨_,rfl,p,dx,_,rfl,e1',P5 KK,F,p,d,K8 k (.lay x w0),[],[],rfl,λb hb=>hF _ (bk b hb),kp3,.nil,⟨rfl,A5h ok dok,hll⟩,λr v k' H4 po kp4 tv fr ap=>?_⟩
  refine told r v k' H4 ⟨_,⟨x,w0,rfl⟩,rfl,po⟩ kp4 (tv.mv λb o z e=>⟨?_,e⟩) (λb o e n1 n2=>fr _ _ (f3 _ _ (s2 _ _ e) n2) n1 n2) ap
  rcases z with z | ⟨xs,z⟩
  ·exact .inl (bk b z)
  ·cases y:H b with
   | none=>exact .inl y
   | some o'=>
    by_cases c:b=d
    ·rw[c,hH3,B6] at z;cases z
    ·have:=f3 _ _ (s2 _ _ y) c
     rw[z] at this
     cases this
     exact .inr ⟨xs,y⟩
end
theorem B0f {H H3:Hp} {p d:Addr} {op od:HO} (hp:H3 p=some op) (hd:H3 d=some od) (f:∀b o,H b=some o->b≠p->b≠d->H3 b=some o) {b:Addr} (z:H3 b=none):H b=none:=by
 cases y:H b with
 | none=>rfl
 | some o=>
  by_cases c1:b=p
  ·rw[c1,hp] at z;cases z
  ·by_cases c2:b=d
   ·rw[c2,hd] at z;cases z
   ·rw[f _ _ y c1 c2] at z;cases z
theorem B2o {H H3:Hp} {C dx p d:Addr} {fs:List (Str×V)} {kvs:List (Key×V)} (hp:H3 p=some (.ins C dx fs)) (hd:H3 d=some (.dK kvs)) (f:∀b o,H b=some o->b≠p->b≠d->H3 b=some o) {b:Addr} (z:O4 H3 b):O4 H b:=by
 rcases z with z | ⟨xs,z⟩
 ·exact .inl (B0f hp hd f z)
 ·cases y:H b with
  | none=>exact .inl y
  | some o=>
   by_cases c1:b=p
   ·rw[c1,hp] at z;cases z
   ·by_cases c2:b=d
    ·rw[c2,hd] at z;cases z
    ·have:=f _ _ y c1 c2
     rw[z] at this
     cases this
     exact .inr ⟨xs,y⟩
section
variable {P:Program} {w:World} {K:A9} {mg:Str->Option Value} {base:Heap}
theorem D4m (T:Txt K mg):C1 P w K mg base CX0 11 T.gh T.gi ["self", "label"] (j5 T.ac (B0d C24) (B0e C24)):=by
 have bw:=@B0c P w K mg base T
 have bx:=A9x T
 have iA:=@C28 P w K mg base T
 have iB:=C10 T
 refine T.jA.ok D0p (λvs H Q E h=>?_) (λcdv A outer s H vs Q E hr h=>?_)
 ·obtain⟨F,p,d,k,us,ds,rfl,_,_,tus,⟨dd,⟨x,rfl⟩,rfl,_⟩,_⟩:=h
  rw[J8,tus.len];rfl
 ·obtain⟨F,p,d,k,us,ds,rfl,hF,kp,tus,⟨dd,⟨x,rfl⟩,rfl,ok,hll,dok⟩,told⟩:=h
  obtain⟨lx,w0,hw⟩:=id dok
  obtain⟨v1,rfl,t1⟩:=a9 tus
  cases t1
  have kp0:=kp
  obtain⟨⟨dx,g,l,ug,ul,e1,g1,e2,t2,g3,e3,t3⟩,kvs,e4,kv⟩:=kp
  have pd:=A1z kp0
  refine⟨_,(B9 (V6 (g9 (pv 0) T.ae T.gp iA (hr.mono DD) iB .nil A7 (A1 (pv 1) A5 A0) (hst:=A0) (hpl:=A3)))
   (B9 (V6 (C09 (O9 (pv 0) rfl) (pv 1) ⟨rfl,rfl,rfl,rfl⟩))
   (D7 (F7 (b9 (pv 0) T.ae T.ck bw (hr.mono DD) bx .nil A7))))),?_⟩
  try dsimp only[N6,Cx.nox]
  refine j3 λW hW=>?_
  refine⟨_,rfl,p,dx,_,rfl,e1,P5 KK,_,rfl,F,p,d,k,[.int x],[.int x],rfl,hF,kp0,.cons (.int _) .nil,⟨x,w0,rfl,lx,hw⟩,λr v k' H1 po kp1 tv fr _=>?_⟩
  obtain⟨_,rfl⟩:=po
  have kp1':=kp1
  obtain⟨⟨dx1,g',l',ug',ul',f1,gg1,f2,tt2,gg3,f3,tt3⟩,kvs',f4,kv'⟩:=kp1
  rcases kv'.val x with ⟨_,z⟩ | ⟨v0,w1,hv,hw1,tv'⟩
  ·rw[hw] at z;cases z
  refine @G8 W _ _ _ _ _ hW λW hW=>?_
  refine⟨_,rfl,p,_,dx1,_,_,rfl,f1,T.ae,T.bi,A0c,d,rfl,.inl ⟨kvs',.inl f4⟩,_,rfl,kvs',Sum.inl x,v0,f4,rfl,hv,?_⟩
  obtain⟨H3,hH3⟩:∃H3,H3=upd H1 d (.dK (A1t kvs' (Sum.inl x:Key))):=⟨_,rfl⟩
  rw[<-hH3]
  have h3:∀b o,H1 b=some o->b≠d->H3 b=some o:=λb o e n=>by rw[hH3,B8 n];exact e
  have ed:H3 d=some (.dK (A1t kvs' (Sum.inl x:Key))):=by rw[hH3];exact B6
  have kp3:E2 F T.ac H3 p d (K8 k' (.lift x)):=by
   have nl:∀{b:Addr} {xs:List V},H1 b=some (.lst xs)->H3 b=some (.lst xs):=λe=>h3 _ _ e (N2 kp1' e).2
   exact⟨⟨dx1,g',l',ug',ul',h3 _ _ f1 pd.1,gg1,nl f2,G3 tt2,gg3,nl f3,G3 tt3⟩,_,ed,(kv'.drop x).mv λb xs e=>h3 _ _ e (S3 kp1' e).2⟩
  have fH:∀b o,H b=some o->b≠p->b≠d->H3 b=some o:=λb o e n1 n2=>h3 _ _ (fr _ _ e n1 n2) n2
  have pH3:=h3 _ _ f1 pd.1
  have newF:∀b,O4 H3 b->O4 H b:=λb z=>B2o pH3 ed fH z
  have noF:∀b,H3 b=none->H b=none:=λb z=>B0f pH3 ed fH z
  subst hW
  refine⟨_,rfl,p,dx1,_,rfl,pH3,P5 KK,F,p,d,K8 k' (.lift x),[],[],rfl,λb hb=>hF _ (noF b hb),kp3,.nil,⟨rfl,A5h ok dok,hll⟩,λr v k2 H4 po kp4 tv fr4 ap=>?_⟩
  exact told r v k2 H4 ⟨_,⟨x,rfl⟩,rfl,po⟩ kp4 (tv.mv λb o z e=>⟨newF b z,e⟩) (λb o e n1 n2=>fr4 _ _ (fH _ _ e n1 n2) n1 n2) ap
theorem D4n (T:Txt K mg):C1 P w K mg base CX0 11 T.gj T.gk ["self", "label", "change"] (j5 T.ac (B0d C25) (B0e C25)):=by
 have fM:=@C22 P w K mg base T
 have fN:=T.aJ.b
 have bw:=@B0c P w K mg base T
 have bx:=A9x T
 have iA:=@C28 P w K mg base T
 have iB:=C10 T
 refine T.jB.ok C1s (λvs H Q E h=>?_) (λcdv A outer s H vs Q E hr h=>?_)
 ·obtain⟨F,p,d,k,us,ds,rfl,_,_,tus,⟨dd,⟨x,c,rfl⟩,rfl,_⟩,_⟩:=h
  rw[J8,tus.len];rfl
 ·obtain⟨F,p,d,k,us,ds,rfl,hF,kp,tus,⟨dd,⟨x,c,rfl⟩,rfl,ok,hll,dok⟩,told⟩:=h
  obtain⟨⟨lx,w0,hw⟩,c0,c1⟩:=id dok
  obtain⟨v1,v2,rfl,t1,t2'⟩:=Q7 tus
  cases t1
  cases t2'
  have kp0:=kp
  obtain⟨⟨dx,g,l,ug,ul,e1,g1,e2,t2,g3,e3,t3⟩,kvs,e4,kv⟩:=kp
  have pd:=A1z kp0
  refine⟨_,(B9 (C0 (i:=3) C1s.nd rfl (B3 rfl) (g9 (pv 0) T.ae T.gp iA (hr.mono DD) iB .nil A7 (A1 (pv 1) A5 A0) (hst:=A0) (hpl:=A3)))
   (B9 (M5 (K1 (b5 (b4 (B0 fM (hr.mono DD) rfl T.aJ.m T.aJ.F.kp fN .nil A7 (A1 (pv 2) A5 A0) (he:=A0) (hpl:=A3))))
   (D7 A1n)
   K4))
   (B9 (B1i (u1 (K2 hr)) (O9 (pv 0) rfl) (pv 1) (R8 (A1 (C4 X8 (pv 3) (D0 (v:=V.int 0) rfl T.bW ⟨_,rfl⟩) (λ_ _=>rfl)) (A1 (C4 X8 (pv 3) (D0 (v:=V.int 1) rfl T.cq ⟨_,rfl⟩) (λ_ _=>rfl)) (A1 (pv 2) A5 A0) A6) A6)) rfl)
   (D7 (F7 (b9 (pv 0) T.ae T.ck bw (hr.mono DD) bx .nil A7)))))),?_⟩
  try dsimp only[N6,Cx.nox]
  refine j3 λW hW=>?_
  refine⟨_,rfl,p,dx,_,rfl,e1,P5 KK,_,rfl,F,p,d,k,[.int x],[.int x],rfl,hF,kp0,.cons (.int _) .nil,⟨x,w0,rfl,lx,hw⟩,λr v k' H1 po kp1 tv fr _=>?_⟩
  obtain⟨⟨x',w0',ex,hw',rfl⟩,rfl⟩:=po
  cases ex
  rw[hw] at hw'
  cases hw'
  obtain⟨tw,utw,rfl,gtw,etw,ttw⟩:=W0 (show ThV (O4 H) H1 v (.tuple ([((w0.1:Nat):Int),((w0.2.1:Nat):Int),w0.2.2].map PyData.int)) from tv)
  cases ttw with
  | @cons y1 _ _ _ ty1 ttw=>
  cases ttw with
  | @cons y2 _ _ _ ty2 ttw=>
  cases ttw with
  | @cons y3 _ _ _ ty3 ttw=>
  cases ttw
  cases ty1
  cases ty2
  cases ty3
  have kp1':=kp1
  obtain⟨⟨dx1,g',l',ug',ul',f1,gg1,f2,tt2,gg3,f3,tt3⟩,kvs',f4,kv'⟩:=kp1
  refine @G8 W _ _ _ _ _ hW λW hW=>?_
  refine⟨fun σ' H'=>σ'=[some (.ref p),some (.int x),some (.int c),some (.ref tw)]/\Same H1 H',?_,?_⟩
  ·refine⟨_,rfl,Z8 (E:=E0) (λd=>d=.bool true) (.cons (.int _) .nil) ⟨c,rfl,c0,c1,rfl⟩ λd' v1 H2 hd t1 s1=>?_⟩
   subst hd
   cases t1
   exact⟨_,rfl,C7 ⟨rfl,s1⟩⟩
  rintro σ' H2 ⟨rfl,s2⟩
  refine @G8 W _ _ _ _ _ hW λW hW=>?_
  refine⟨_,rfl,.inr (.inl ⟨tw,_,0,_,rfl,rfl,SqT.of (s2 _ _ etw),rfl,_,rfl,.inr (.inl ⟨tw,_,1,_,rfl,rfl,SqT.of (s2 _ _ etw),rfl,_,rfl,by show 3<=sizeLine;decide,λt ht=>?_⟩)⟩)⟩
  obtain⟨H2',hH2⟩:∃H2',H2'=upd H2 t (.tup [.int ((w0.1:Nat):Int),.int ((w0.2.1:Nat):Int),.int c]):=⟨_,rfl⟩
  rw[<-hH2]
  have s12:Same H1 H2':=s2.tr (by rw[hH2];exact Same.upd ht)
  have etr:A1b k'.kws x c=(w0.1,w0.2.1,c):=by unfold A1b;rw[hw];rfl
  have twD:ThV TT0 H2' (.ref t) (K7 (A1b k'.kws x c)):=by
   rw[etr]
   exact .tup trivial (by rw[hH2];exact B6) (.cons (.int _) (.cons (.int _) (.cons (.int _) .nil)))
  clear hH2
  refine⟨_,rfl,p,_,dx1,_,_,rfl,s12 _ _ f1,T.ae,T.bi,A0c,_,rfl,d,_,rfl,A2x.k (k:=Sum.inl x) (s12 _ _ f4) (by rw[kv'.len,sizeLine_eq];have:=ok.few;lia),?_⟩
  obtain⟨H3,hH3⟩:∃H3,H3=upd H2' d (.dK (Y4 kvs' (Sum.inl x:Key) (.ref t))):=⟨_,rfl⟩
  rw[<-hH3]
  have h3:∀b o,H2' b=some o->b≠d->H3 b=some o:=λb o e n=>by rw[hH3,B8 n];exact e
  have ed:H3 d=some (.dK (Y4 kvs' (Sum.inl x:Key) (.ref t))):=by rw[hH3];exact B6
  have kp2:=kp1'.same s12
  have kp3:E2 F T.ac H3 p d (K8 k' (.turn x c)):=by
   have nl:∀{b:Addr} {xs:List V},H2' b=some (.lst xs)->H3 b=some (.lst xs):=λe=>h3 _ _ e (N2 kp2 e).2
   exact⟨⟨dx1,g',l',ug',ul',h3 _ _ (s12 _ _ f1) pd.1,gg1,nl (s12 _ _ f2),G3 tt2,gg3,nl (s12 _ _ f3),G3 tt3⟩,_,ed,((kv'.mv λb xs e=>s12 _ _ e).put twD).mv λb xs e=>h3 _ _ e (S3 kp2 e).2⟩
  have fH:∀b o,H b=some o->b≠p->b≠d->H3 b=some o:=λb o e n1 n2=>h3 _ _ (s12 _ _ (fr _ _ e n1 n2)) n2
  have pH3:=h3 _ _ (s12 _ _ f1) pd.1
  have newF:∀b,O4 H3 b->O4 H b:=λb z=>B2o pH3 ed fH z
  have noF:∀b,H3 b=none->H b=none:=λb z=>B0f pH3 ed fH z
  subst hW
  refine⟨_,rfl,p,dx1,_,rfl,pH3,P5 KK,F,p,d,K8 k' (.turn x c),[],[],rfl,λb hb=>hF _ (noF b hb),kp3,.nil,⟨rfl,A5h ok dok,hll⟩,λr v k2 H4 po kp4 tv fr4 ap=>?_⟩
  exact told r v k2 H4 ⟨_,⟨x,c,rfl⟩,rfl,po⟩ kp4 (tv.mv λb o z e=>⟨newF b z,e⟩) (λb o e n1 n2=>fr4 _ _ (fH _ _ e n1 n2) n1 n2) ap
theorem D4o (T:Txt K mg):C1 P w K mg base CX0 11 T.dQ T.dR ["self", "store"] (j5 T.ac (B0d C26) (B0e C26)):=by
 have nG:=@D36 P w K mg base T
 have nH:=T.bF.b
 have gF:=@C23 P w K mg base T
 have gG:=T.aP.b
 have bw:=@B0c P w K mg base T
 have bx:=A9x T
 refine T.gm.ok D0q (λvs H Q E h=>?_) (λcdv A outer s H vs Q E hr h=>?_)
 ·obtain⟨F,p,d,k,us,ds,rfl,_,_,tus,⟨dd,⟨x,rfl⟩,rfl,_⟩,_⟩:=h
  rw[J8,tus.len];rfl
 ·obtain⟨F,p,d,k,us,ds,rfl,hF,kp,tus,⟨dd,⟨x,rfl⟩,rfl,ok,hll,dok⟩,told⟩:=h
  obtain⟨⟨x0,x1⟩,htab⟩:=id dok
  obtain⟨v1,rfl,t1⟩:=a9 tus
  cases t1
  have m2:=ok.m2
  have kp0:=kp
  obtain⟨⟨dx,g,l,ug,ul,e1,g1,e2,t2,g3,e3,t3⟩,kvs,e4,kv⟩:=kp
  have pd:=A1z kp0
  refine⟨_,(B9 (M5 (K1 (PW.pt (A0r (b5 (b4 (B0 nG (hr.mono DD) rfl T.bF.m T.bF.F.kp nH .nil A7 (A1 (pv 1) A5 A0) (he:=A0) (hpl:=A3)))) (A14 (b5 (b4 (B0 gF (hr.mono DD) rfl T.aP.m T.aP.F.kp gG .nil A7 (A1 (O9 (pv 0) rfl) (A1 (pv 1) (A1 (O9 (pv 0) rfl) A5 M3) A0) M3) (he:=M3) (hpl:=(A4 A0 (A4 M3 A3)))))))))
   (D7 A1n)
   K4))
   (B9 (A18 (pv 0) (pv 1) rfl)
   (D7 (F7 (b9 (pv 0) T.ae T.ck bw (hr.mono DD) bx .nil A7))))),?_⟩
  try dsimp only[N6,Cx.nox]
  refine j3 λW hW=>?_
  refine⟨fun σ' H'=>σ'=[some (.ref p),some (.int x)]/\Same H H',?_,?_⟩
  ·refine⟨_,rfl,Z8 (E:=E0) (λd=>d=.bool true) (.cons (.int _) .nil) ⟨x,rfl,x0,x1,rfl⟩ λd' v1 H1 hd t1 s1=>?_⟩
   subst hd
   cases t1
   refine⟨_,rfl,C7 ⟨_,rfl,p,_,dx,_,_,rfl,s1 _ _ e1,T.ae,T.eA,B2i,_,rfl,_,rfl,p,_,dx,_,_,rfl,s1 _ _ e1,T.ae,T.bU,B2j,Z8 (E:=E0) (λd=>d=.bool true) (.cons (.int _) (.cons (.int _) (.cons (.lst trivial (s1 _ _ e2) (G3 t2)) .nil))) ⟨k.g,k.m,x,rfl,OO,htab,rfl⟩ λd' v1 H2 hd t1 s2=>?_⟩⟩
   subst hd
   cases t1
   exact⟨_,rfl,C7 ⟨rfl,s1.tr s2⟩⟩
  rintro σ' H1 ⟨rfl,s1⟩
  refine @G8 W _ _ _ _ _ hW λW hW=>?_
  refine⟨_,rfl,_,rfl,p,_,dx,_,rfl,s1 _ _ e1,T.ae,T.cK,by show 5 < 1000;decide,?_⟩
  rw[D3x]
  obtain⟨H3,hH3⟩:∃H3,H3=upd H1 p (.ins T.ac dx (kfs k.m x g d l)):=⟨_,rfl⟩
  rw[<-hH3]
  have h3:∀b o,H1 b=some o->b≠p->H3 b=some o:=λb o e n=>by rw[hH3,B8 n];exact e
  have pH3:H3 p=some (.ins T.ac dx (kfs k.m x g d l)):=by rw[hH3];exact B6
  have kp1:=kp0.same s1
  have ed:=h3 _ _ (s1 _ _ e4) pd.1.symm
  have kp3:E2 F T.ac H3 p d (K8 k (.refill x)):=by
   have nl:∀{b:Addr} {xs:List V},H1 b=some (.lst xs)->H3 b=some (.lst xs):=λe=>h3 _ _ e (N2 kp1 e).1
   exact⟨⟨dx,g,l,ug,ul,pH3,g1,nl (s1 _ _ e2),G3 t2,g3,nl (s1 _ _ e3),G3 t3⟩,_,ed,kv.mv λb xs e=>h3 _ _ (s1 _ _ e) (S3 kp1 (s1 _ _ e)).1⟩
  have fH:∀b o,H b=some o->b≠p->b≠d->H3 b=some o:=λb o e n1 n2=>h3 _ _ (s1 _ _ e) n1
  have newF:∀b,O4 H3 b->O4 H b:=λb z=>B2o pH3 ed fH z
  have noF:∀b,H3 b=none->H b=none:=λb z=>B0f pH3 ed fH z
  subst hW
  refine⟨_,rfl,p,dx,_,rfl,pH3,P5 KK,F,p,d,K8 k (.refill x),[],[],rfl,λb hb=>hF _ (noF b hb),kp3,.nil,⟨rfl,A5h ok dok,hll⟩,λr v k2 H4 po kp4 tv fr4 ap=>?_⟩
  exact told r v k2 H4 ⟨_,⟨x,rfl⟩,rfl,po⟩ kp4 (tv.mv λb o z e=>⟨newF b z,e⟩) (λb o e n1 n2=>fr4 _ _ (fH _ _ e n1 n2) n1 n2) ap
theorem C3a (T:Txt K mg):C1 P w K mg base CX0 11 T.jc T.jd ["self", "goal"] (j5 T.ac (B0d C27) (B0e C27)):=by
 have gF:=@C23 P w K mg base T
 have gG:=T.aP.b
 have bw:=@B0c P w K mg base T
 have bx:=A9x T
 refine T.kI.ok D0r (λvs H Q E h=>?_) (λcdv A outer s H vs Q E hr h=>?_)
 ·obtain⟨F,p,d,k,us,ds,rfl,_,_,tus,⟨dd,⟨x,rfl⟩,rfl,_⟩,_⟩:=h
  rw[J8,tus.len];rfl
 ·obtain⟨F,p,d,k,us,ds,rfl,hF,kp,tus,⟨dd,⟨x,rfl⟩,rfl,ok,hll,dok⟩,told⟩:=h
  have htab:G1 k.m k.st x:=dok
  obtain⟨v1,rfl,t1⟩:=a9 tus
  obtain⟨ag,uag,rfl,_,eag,tag⟩:=K9 t1
  have m2:=ok.m2
  have kp0:=kp
  obtain⟨⟨dx,g,l,ug,ul,e1,g1,e2,t2,g3,e3,t3⟩,kvs,e4,kv⟩:=kp
  have pd:=A1z kp0
  refine⟨_,(B9 (M5 (K1 (b5 (b4 (B0 gF (hr.mono DD) rfl T.aP.m T.aP.F.kp gG .nil A7 (A1 (O9 (pv 0) rfl) (A1 (O9 (pv 0) rfl) (A1 (pv 1) A5 A0) M3) M3) (he:=M3) (hpl:=(A4 M3 (A4 A0 A3))))))
   (D7 A1n)
   K4))
   (B9 (A18 (pv 0) (W6 Z3 rfl T.aD V0 (A1 (pv 1) A5 A0) (he:=A0) (hpl:=A3)) rfl)
   (D7 (F7 (b9 (pv 0) T.ae T.ck bw (hr.mono DD) bx .nil A7))))),?_⟩
  try dsimp only[N6,Cx.nox]
  refine j3 λW hW=>?_
  refine⟨fun σ' H'=>σ'=[some (.ref p),some (.ref ag)]/\Same H H',?_,?_⟩
  ·refine⟨_,rfl,p,_,dx,_,_,rfl,e1,T.ae,T.eA,B2i,_,rfl,p,_,dx,_,_,rfl,e1,T.ae,T.cK,B0a,_,rfl,Z8 (E:=E0) (λd=>d=.bool true) (.cons (.int _) (.cons (.int _) (.cons (.lst trivial eag tag) .nil))) ⟨x,k.m,k.st,rfl,OO,htab,rfl⟩ λd' v1 H2 hd t1 s2=>?_⟩
   subst hd
   cases t1
   exact⟨_,rfl,C7 ⟨rfl,s2⟩⟩
  rintro σ' H1 ⟨rfl,s1⟩
  refine @G8 W _ _ _ _ _ hW λW hW=>?_
  refine⟨_,rfl,ag,uag,rfl,.inl (SqL.of (s1 _ _ eag)),λln hln=>?_⟩
  obtain⟨H2,hH2⟩:∃H2,H2=upd H1 ln (.lst uag):=⟨_,rfl⟩
  rw[<-hH2]
  have s2:Same H H2:=s1.tr (by rw[hH2];exact Same.upd hln)
  have eln:H2 ln=some (.lst uag):=by rw[hH2];exact B6
  clear hH2
  refine⟨_,rfl,p,_,dx,_,rfl,s2 _ _ e1,T.ae,T.bU,by show 5 < 1000;decide,?_⟩
  rw[D3y]
  obtain⟨H3,hH3⟩:∃H3,H3=upd H2 p (.ins T.ac dx (kfs k.m k.st ln d l)):=⟨_,rfl⟩
  rw[<-hH3]
  have h3:∀b o,H2 b=some o->b≠p->H3 b=some o:=λb o e n=>by rw[hH3,B8 n];exact e
  have pH3:H3 p=some (.ins T.ac dx (kfs k.m k.st ln d l)):=by rw[hH3];exact B6
  have kp2:=kp0.same s2
  have ed:=h3 _ _ (s2 _ _ e4) pd.1.symm
  have kp3:E2 F T.ac H3 p d (K8 k (.aim x)):=by
   have nl:∀{b:Addr} {xs:List V},H2 b=some (.lst xs)->H3 b=some (.lst xs):=λe=>h3 _ _ e (N2 kp2 e).1
   exact⟨⟨dx,ln,l,uag,ul,pH3,hF _ (s1.early hln),nl eln,G3 tag,g3,nl (s2 _ _ e3),G3 t3⟩,_,ed,kv.mv λb xs e=>h3 _ _ (s2 _ _ e) (S3 kp2 (s2 _ _ e)).1⟩
  have fH:∀b o,H b=some o->b≠p->b≠d->H3 b=some o:=λb o e n1 n2=>h3 _ _ (s2 _ _ e) n1
  have newF:∀b,O4 H3 b->O4 H b:=λb z=>B2o pH3 ed fH z
  have noF:∀b,H3 b=none->H b=none:=λb z=>B0f pH3 ed fH z
  subst hW
  refine⟨_,rfl,p,dx,_,rfl,pH3,P5 KK,F,p,d,K8 k (.aim x),[],[],rfl,λb hb=>hF _ (noF b hb),kp3,.nil,⟨rfl,A5h ok dok,hll⟩,λr v k2 H4 po kp4 tv fr4 ap=>?_⟩
  exact told r v k2 H4 ⟨_,⟨x,rfl⟩,rfl,po⟩ kp4 (tv.mv λb o z e=>⟨newF b z,e⟩) (λb o e n1 n2=>fr4 _ _ (fH _ _ e n1 n2) n1 n2) ap
end
def D4p (C:Addr):Sp:=λvs H Q _=>∃(p dx:Addr) (m:Nat) (st:Int) (g:Tb) (vg:V),vs=[.ref p,.int ((m:Nat):Int),.int st,vg]/\H p=some (.ins C dx [])/\ThV TT0 H vg (.list (B7 g))/\KOk m st g []/\
 ∀d low H',X3 m st g [] low->H d=none->E2 (λb=>H b=none) C H' p d ⟨m,st,g,[],low⟩->(∀b o,H b=some o->b≠p->H' b=some o)->Q .non H'
def kf1 (m:Nat):List (Str×V):=[("many",.int ((m:Nat):Int))]
def kf2 (m:Nat) (st:Int):List (Str×V):=[("many",.int ((m:Nat):Int)),("full",.int st)]
def kf3 (m:Nat) (st:Int) (g:Addr):List (Str×V):=[("many",.int ((m:Nat):Int)),("full",.int st),("wanted",.ref g)]
def kf4 (m:Nat) (st:Int) (g d:Addr):List (Str×V):=[("many",.int ((m:Nat):Int)),("full",.int st),("wanted",.ref g),("laid",.ref d)]
theorem D4q {m:Nat}:Q6 "many" (.int ((m:Nat):Int)) []=kf1 m:=rfl
theorem D4r {m:Nat} {st:Int}:Q6 "full" (.int st) (kf1 m)=kf2 m st:=by with_unfolding_all rfl
theorem D4s {m:Nat} {st:Int} {g:Addr}:Q6 "wanted" (.ref g) (kf2 m st)=kf3 m st g:=by with_unfolding_all rfl
theorem D4t {m:Nat} {st:Int} {g d:Addr}:Q6 "laid" (.ref d) (kf3 m st g)=kf4 m st g d:=by with_unfolding_all rfl
theorem D4u {m:Nat} {st:Int} {g d l:Addr}:Q6 "lowest" (.ref l) (kf4 m st g d)=kfs m st g d l:=by with_unfolding_all rfl
theorem D4v:wsF []=[]:=by unfold wsF srt B5;rw[A8s,List.mergeSort_nil];rfl
section
variable {P:Program} {w:World} {K:A9} {mg:Str->Option Value} {base:Heap}
theorem C3b (T:Txt K mg):C1 P w K mg base CX0 10 T.eC T.gc ["self", "many", "store", "goal"] (D4p T.ac):=by
 have dj:=@B2g P w K mg base T
 have dk:=T.bj.b
 refine T.jy.ok D0n (λvs H Q E h=>?_) (λcdv A outer s H vs Q E hr h=>?_)
 ·obtain⟨p,dx,m,st,g,vg,rfl,_⟩:=h
  rfl
 ·obtain⟨p,dx,m,st,g,vg,rfl,ep,tg,ok,told⟩:=h
  obtain⟨ag,ug,rfl,_,eg,tug⟩:=K9 tg
  have m2:=ok.m2
  have s1k:=ok.s1
  refine⟨_,(B9 (A18 (pv 0) (pv 1) rfl)
   (B9 (A18 (pv 0) (pv 2) rfl)
   (B9 (A18 (pv 0) (W6 Z3 rfl T.aD V0 (A1 (pv 3) A5 A0) (he:=A0) (hpl:=A3)) rfl)
   (B9 (A18 (pv 0) C08 rfl)
   (D7 (A18 (pv 0) (B0 dj (hr.mono DD) rfl T.bC T.bj.F.kp dk .nil A7 (A1 (R8 (A1 (pv 1) (A1 (U9 A5) A5 l6) A0)) (A1 (pv 2) (A1 (pv 3) A5 A0) A0) l7) (he:=l7) (hpl:=(A4 A0 (A4 A0 A3)))) rfl)))))),?_⟩
  try dsimp only[N6,Cx.nox]
  refine j3 λW hW=>?_
  refine⟨_,rfl,_,rfl,p,_,dx,_,rfl,ep,T.ae,T.eA,by show 0 < 1000;decide,?_⟩
  rw[D4q]
  obtain⟨H1,hH1⟩:∃H1,H1=upd H p (.ins T.ac dx (kf1 m)):=⟨_,rfl⟩
  rw[<-hH1]
  have p1:H1 p=some (.ins T.ac dx (kf1 m)):=by rw[hH1];exact B6
  have f1:∀b o,H b=some o->b≠p->H1 b=some o:=λb o e n=>by rw[hH1,B8 n];exact e
  clear hH1
  refine @G8 W _ _ _ _ _ hW λW hW=>?_
  refine⟨_,rfl,_,rfl,p,_,dx,_,rfl,p1,T.ae,T.cK,by show 1 < 1000;decide,?_⟩
  rw[D4r]
  obtain⟨H2,hH2⟩:∃H2,H2=upd H1 p (.ins T.ac dx (kf2 m st)):=⟨_,rfl⟩
  rw[<-hH2]
  have p2:H2 p=some (.ins T.ac dx (kf2 m st)):=by rw[hH2];exact B6
  have f2:∀b o,H b=some o->b≠p->H2 b=some o:=λb o e n=>by rw[hH2,B8 n];exact f1 _ _ e n
  clear hH2
  have npg:ag≠p:=λz=>by rw[z,ep] at eg;cases eg
  refine @G8 W _ _ _ _ _ hW λW hW=>?_
  refine⟨_,rfl,ag,ug,rfl,.inl (SqL.of (f2 _ _ eg npg)),λl2 hl2=>?_⟩
  have n2:l2≠p:=λz=>by rw[z,p2] at hl2;cases hl2
  refine⟨_,rfl,p,_,dx,_,rfl,by rw[B8 n2.symm];exact p2,T.ae,T.bU,by show 2 < 1000;decide,?_⟩
  rw[D4s]
  obtain⟨H3,hH3⟩:∃H3,H3=upd (upd H2 l2 (.lst ug)) p (.ins T.ac dx (kf3 m st l2)):=⟨_,rfl⟩
  rw[<-hH3]
  have p3:H3 p=some (.ins T.ac dx (kf3 m st l2)):=by rw[hH3];exact B6
  have g3:H3 l2=some (.lst ug):=by rw[hH3,B8 n2];exact B6
  have f3:∀b o,H b=some o->b≠p->H3 b=some o:=λb o e n=>by rw[hH3,B8 n];exact Same.upd hl2 _ _ (f2 _ _ e n)
  have l2n:H l2=none:=by
   cases z:H l2 with
   | none=>rfl
   | some o=>rw[f2 _ _ z n2] at hl2;cases hl2
  clear hH3
  refine @G8 W _ _ _ _ _ hW λW hW=>?_
  intro d hd
  have nd:d≠p:=λz=>by rw[z,p3] at hd;cases hd
  refine⟨_,rfl,p,_,dx,_,rfl,by rw[B8 nd.symm];exact p3,T.ae,T.bi,by show 3 < 1000;decide,?_⟩
  rw[D4t]
  obtain⟨H4,hH4⟩:∃H4,H4=upd (upd H3 d (.dK [])) p (.ins T.ac dx (kf4 m st l2 d)):=⟨_,rfl⟩
  rw[<-hH4]
  have p4:H4 p=some (.ins T.ac dx (kf4 m st l2 d)):=by rw[hH4];exact B6
  have d4:H4 d=some (.dK []):=by rw[hH4,B8 nd];exact B6
  have f34:∀b o,H3 b=some o->b≠p->H4 b=some o:=λb o e n=>by rw[hH4,B8 n];exact Same.upd hd _ _ e
  have f4:∀b o,H b=some o->b≠p->H4 b=some o:=λb o e n=>f34 _ _ (f3 _ _ e n) n
  have dn:H d=none:=by
   cases z:H d with
   | none=>rfl
   | some o=>rw[f3 _ _ z nd] at hd;cases hd
  clear hH4
  subst hW
  refine⟨_,rfl,by show 0<=sizeLine;decide,λl5 hl5=>⟨by show 2<=sizeLine;decide,λt6 ht6=>?_⟩⟩
  have s5:Same H4 (upd H4 l5 (.lst [])):=Same.upd hl5
  have s6:=s5.tr (Same.upd (o:=.tup [.int ((m:Nat):Int),.ref l5]) ht6)
  obtain⟨H6,hH6⟩:∃H6,H6=upd (upd H4 l5 (.lst [])) t6 (.tup [.int ((m:Nat):Int),.ref l5]):=⟨_,rfl⟩
  rw[<-hH6] at s6 ⊢
  have tl:ThV TT0 H6 (.ref t6) (E8 m (wsF [])):=by
   have e5:H6 l5=some (.lst []):=by rw[hH6];exact Same.upd ht6 _ _ B6
   rw[D4v]
   exact .tup trivial (by rw[hH6];exact B6) (.cons (.int _) (.cons (.lst trivial e5 .nil) .nil))
  clear hH6
  refine⟨_,rfl,_,rfl,[E8 m (wsF []),.int st,.list (B7 g)],(λd=>∃t,N9 m ((wsF []).map S2) st (lkF st g) t/\d=.list (B7 (lkF st t))),.cons tl (.cons (.int _) (.cons (.lst trivial (s6 _ _ (f4 _ _ eg npg)) (G3 tug)) .nil)),⟨m,wsF [],st,g,rfl,ok.land,ok.s0,OO,ok.gt,λt ht=>⟨t,ht,rfl⟩⟩,λd' v7 H7 hd' t7 s7=>?_⟩
  obtain⟨t,ht,rfl⟩:=hd'
  obtain⟨ln,un,rfl,gn,en,tn⟩:=K9 t7
  have lnn:H6 ln=none:=A96 s7 gn en
  have s67:=s6.tr s7
  refine⟨_,rfl,p,_,dx,_,rfl,s67 _ _ p4,T.ae,T.bV,by show 4 < 1000;decide,?_⟩
  rw[D4u]
  have nln:ln≠p:=λz=>by rw[z,s6 _ _ p4] at lnn;cases lnn
  have hln:H ln=none:=by
   cases z:H ln with
   | none=>rfl
   | some o=>rw[s6 _ _ (f4 _ _ z nln)] at lnn;cases lnn
  have f8:∀b o,H7 b=some o->b≠p->upd H7 p (.ins T.ac dx (kfs m st l2 d ln)) b=some o:=λb o e n=>by rw[B8 n];exact e
  exact told d (lkF st t) _ ⟨t,ht,rfl⟩ dn ⟨⟨dx,l2,ln,ug,un,B6,l2n,f8 _ _ (s67 _ _ (f34 _ _ g3 n2)) n2,G3 tug,hln,f8 _ _ en nln,G3 tn⟩,[],f8 _ _ (s67 _ _ d4) nd,.nil⟩ λb o e n=>f8 _ _ (s67 _ _ (f4 _ _ e n)) n
end
def D4w:DSp:=λds Q=>∃d,ds=[d]/\∀r:Int,1<=r->r<=1000000000000000000->Q (.int r)
def B6y:DSp:=λds Q=>∃(d:PyData) (sc:Int),ds=[d,.int sc]/\0<=sc/\sc<=1000000000000000000/\∀r:Int,-sc<=r->r<=sc->Q (.int r)
def D4x:DSp:=λds Q=>∃(d:PyData) (sc:Int),ds=[d,.int sc]/\0<=sc/\sc<=1000000000000000000/\∀r:Int,0<=r->r<=100000000000000000000->Q (.int r)
def D4y:DSp:=λds Q=>∃(d:PyData) (m:Nat) (st:Int),ds=[d,.int (m:Nat),.int st]/\m<=12/\0<=st/\st<=1000000000000000000000/\∀t,G1 m st t->Q (.list (B7 t))
def ODs (st:Int) (d:PyData):Prop:=∃o:Option Int,d=oD o/\∀x,o=some x->0<=x/\x<=st
theorem C3c {st:Int}:∀{ds:List PyData},(∀d∈ds,ODs st d)->∃t:Tb,ds=B7 t/\G1 ds.length st t
 | [],_=>⟨[],rfl,rfl,λp x e=>by rw[A40 (O7 _)] at e;cases e⟩
 | d::ds,h=>by
  obtain⟨t,rfl,ht⟩:=C3c (ds:=ds) λe he=>h e (D3 _ he)
  obtain⟨o,rfl,ho⟩:=h d D9
  refine⟨o::t,rfl,⟨by rw[J8,J8,Y5],λp x e=>?_⟩⟩
  cases p with
  | zero=>exact ho x e
  | succ p=>exact ht.bd p x e
theorem lt2 {r:Int} (h0:0<=r) (h1:r < 2):r=0\/r=1:=by lia
section
variable {P:Program} {w:World} {K:A9} {mg:Str->Option Value} {base:Heap}
theorem D4z (T:Txt K mg):C1 P w K mg base CX0 4 T.cY.a T.cY.d ["_law_hand_here"] (spD [.hd] D4w):=by
 have ai:=@A1w P w K mg base T
 have aj:=T.ah.b
 refine F8 T.cY.F D02 rfl (λC cdv A outer s H E hr=>⟨_,(@C9 _ _ _ _ (@D8 _ _ _ _ _ (@P2 _ _ _ _ _ _ _ (K6 (W9 (C3 C5 (C3 C5 (C3 C5 (C3 C5 (C3 (F6 Z0 m6 C5 C5) (C3 (F6 Z0 m6 C5 C5) E7 F4) F4) E6) E6) E6) E6))) (E4 (B0 ai (hr.mono DD) rfl T.ah.m T.ah.F.kp aj .nil A7 (Y2 (pv 0) (B4 C5 E3 E6) A0) (he:=A0) (hpl:=(A4 E6 A3)))) (λ_ _=>rfl)))),λds Q hl h=>?_⟩)
 obtain⟨d,rfl,q⟩:=h
 left
 refine⟨⟨DD,DD,DD⟩,⟨DD,DD,DD⟩,DD,rfl,6,rfl,DD,DD,λr r0 r1=>?_⟩
 left
 have hr':r=0\/r=1\/r=2\/r=3\/r=4\/r=5:=by lia
 rcases hr' with rfl | rfl | rfl | rfl | rfl | rfl
 all_goals exact q _ DD (DD)
theorem C3d (T:Txt K mg):C1 P w K mg base CX0 4 T.ba.a T.ba.d ["_law_hand_here", "_law_scale_here"] (spD [.hd,.sh] B6y):=by
 have ai:=@A1w P w K mg base T
 have aj:=T.ah.b
 refine F8 T.ba.F D03 rfl (λC cdv A outer s H E hr=>⟨_,(C9 (D8 (F6 A0t A2e (E4 (B0 ai (hr.mono DD) rfl T.ah.m T.ah.F.kp aj .nil A7 (Y2 (pv 0) (B4 (F6 K5 S6 (F6 W5 A0z C5 (A2 (pv 1))) C5) E3 F4) A0) (he:=A0) (hpl:=(A4 F4 A3)))) (A2 (pv 1))))),λds Q hl h=>?_⟩)
 obtain⟨d,sc,rfl,s0,s1,q⟩:=h
 left
 refine⟨rfl,.inl ⟨DD,DD⟩,2 * sc + 1,rfl,OO,OO,λr r0 r1=>?_⟩
 left
 exact q _ OO (OO)
theorem D40 (T:Txt K mg):C1 P w K mg base CX0 4 T.cZ.a T.cZ.d ["_law_hand_here", "_law_scale_here"] (spD [.hd,.sh] D4x):=by
 have ai:=@A1w P w K mg base T
 have aj:=T.ah.b
 refine F8 T.cZ.F C1u rfl (λC cdv A outer s H E hr=>⟨_,(@F2 _ _ _ _ _ _ (F3 (C0 (i:=2) C1u.nd rfl (B3 rfl) (E4 (B0 ai (hr.mono DD) rfl T.ah.m T.ah.F.kp aj .nil A7 (Y2 (pv 0) (B4 C5 E3 E6) A0) (he:=A0) (hpl:=(A4 E6 A3)))))) (@F2 _ _ _ _ _ _ (N0 (J5 (A2b (K2 hr)) m7 (A2 (pv 2)) C5 (C8 _))
   (C9 (D8 (E4 (B0 ai (hr.mono DD) rfl T.ah.m T.ah.F.kp aj .nil A7 (Y2 (pv 0) (B4 C5 E3 E6) A0) (he:=A0) (hpl:=(A4 E6 A3))))))
   N8) (@F2 _ _ _ _ _ _ (@N0 _ _ _ _ _ _ _ _ _ (J5 (A2b (K2 hr)) m7 (A2 (pv 2)) C5 (C8 _)) (C9 (D8 (P2 (K6 (W9 (C3 (F6 Z0 m6 C5 C5) (C3 (F6 Z0 m6 C5 C5) E7 F4) F4))) (E4 (B0 ai (hr.mono DD) rfl T.ah.m T.ah.F.kp aj .nil A7 (Y2 (pv 0) (B4 C5 E3 E6) A0) (he:=A0) (hpl:=(A4 E6 A3)))) (λ_ _=>rfl)))) N8) (@C9 _ _ _ _ (@D8 _ _ _ _ _ (@S7 _ _ _ _ _ _ A02 (@E9 _ _ _ _ _ _ _ _ _ (A0v rfl) rfl T.cN A0w (C3 (F6 Z0 m6 C5 C5) (C3 (E4 (B0 ai (hr.mono DD) rfl T.ah.m T.ah.F.kp aj .nil A7 (Y2 (pv 0) (B4 (F6 K5 S6 (F6 W5 A0z C5 (A2 (pv 1))) C5) E3 F4) A0) (he:=A0) (hpl:=(A4 F4 A3)))) E7 D4) F4) DD DD F4 ((A4 D4 A3))))))))),λds Q hl h=>?_⟩)
 obtain⟨d,sc,rfl,s0,s1,q⟩:=h
 left
 refine⟨rfl,6,rfl,DD,DD,λr r0 r1=>?_⟩
 left
 refine⟨rfl,rfl,A09 _ _,?_⟩
 rw[A1x]
 by_cases c0:r=0
 ·rw[c0,show ((0:Int) == 0)=true from rfl]
  left
  refine⟨rfl,4,rfl,DD,DD,λr r0 r1=>?_⟩
  exact q _ r0 (OO)
 ·rw[beq_eq_false_iff_ne.mpr c0]
  left
  refine⟨rfl,rfl,A09 _ _,?_⟩
  rw[A1x]
  by_cases c1:r=1
  ·rw[c1,show ((1:Int) == 1)=true from rfl]
   left
   refine⟨⟨DD,DD,DD⟩,⟨DD,DD,DD⟩,DD,rfl,2,rfl,DD,DD,λr r0 r1=>?_⟩
   left
   rcases lt2 r0 r1 with rfl | rfl
   all_goals exact q _ DD (DD)
  ·rw[beq_eq_false_iff_ne.mpr c1]
   left
   refine⟨⟨DD,DD,DD⟩,rfl,.inl ⟨DD,DD⟩,4 * sc + 1,rfl,OO,OO,λr r0 r1=>?_⟩
   left
   refine q _ ?_ ?_
   ·split
    ·exact r0
    ·decide
   ·split
    ·lia
    ·decide
end
theorem D41 {r:Int} {m:Nat} (h0:0<=r) (h1:r < ((m:Nat):Int)):∃n:Nat,r=((n:Nat):Int)/\n < m:=⟨r.toNat,OO,OO⟩
section
variable {P:Program} {w:World} {K:A9} {mg:Str->Option Value} {base:Heap}
theorem C3e (T:Txt K mg):C1 P w K mg base CX0 4 T.bu.a T.bu.d ["_law_hand_here", "_law_many_here", "_law_store_here"] (spD [.hd,.sh,.sh] D4y):=by
 have ai:=@A1w P w K mg base T
 have aj:=T.ah.b
 refine F8 T.bu.F C1v rfl (λC cdv A outer s H E hr=>⟨_,(@F2 _ _ _ _ _ _ (F3 (C0 (i:=3) C1v.nd rfl (Or.inr rfl) (F6 K5 S6 C5 (F6 W5 A0z C5 (E4 (B0 ai (hr.mono DD) rfl T.ah.m T.ah.F.kp aj .nil A7 (Y2 (pv 0) (B4 C5 E3 E6) A0) (he:=A0) (hpl:=(A4 E6 A3)))))))) (@C9 _ _ _ _ (@D8 _ _ _ _ _ (@K6 _ _ _ _ (@A05 _ _ _ _ _ _ _ _ rfl (@W8 _ _ _ _ _ _ _ _ _ _ _ _ _ _ _ (Q0.new (N:=["_law_hand_here", "_law_many_here", "_law_store_here", "_law_rare"]) (osc:=B1 B1x) KK) rfl (B1c (A16 rfl T.cj (C3 (A2 (pv 1)) E7 A0))) (λ_=>y8) (λ_=>(@P2 _ _ _ _ _ _ _ (K6 (W9 (C3 (E4 (B0 ai (hr.mono DD) rfl T.ah.m T.ah.F.kp aj .nil A7 (Y2 (pv 0) (B4 (F6 K5 S6 (A2 (pv 2)) C5) E3 F4) A0) (he:=A0) (hpl:=(A4 F4 A3)))) (C3 J0 E7 E6) D4))) (S7 C7o (W6 C5p rfl T.lJ B3y (C3 (w4 p8 A2f (E4 (B0 ai (hr.mono DD) rfl T.ah.m T.ah.F.kp aj .nil A7 (Y2 (pv 0) (B4 (A2 (pv 3)) E3 A0) A0) (he:=A0) (hpl:=(A4 A0 A3)))) C5 (C8 _)) E7 B9c) (he:=B9c) (hpl:=A3))) (λ_ _=>rfl))) (by rfl) (by rfl) (by intro _;rfl))))))),λds Q hl h=>?_⟩)
 obtain⟨d,m,st,rfl,m2,s0,s1,q⟩:=h
 left
 refine⟨rfl,_,rfl,DD,DD,λr r0 r1=>?_⟩
 array_mem_dec
 refine⟨.inl ⟨DD,DD⟩,⟨OO,OO⟩,⟨rfl,by unfold U4;rw[C6,j7];lia⟩,?_⟩
 refine C0i (R:=ODs st) (λx hx Q' q'=>?_) λds hl2 hR=>?_
 ·left
  refine⟨rfl,_,rfl,OO,OO,λu u0 u1=>?_⟩
  left
  refine⟨DD,rfl,_,rfl,OO,OO,λv v0 v1=>?_⟩
  left
  cases decide (0 < v) with
  | true=>
   exact q' _ ⟨none,rfl,λx e=>nomatch e⟩
  | false=>
   exact q' _ ⟨some u,rfl,λx e=>by cases e;exact⟨u0,OO⟩⟩
 ·obtain⟨t,e,ht⟩:=C3c hR
  rw[X5,e]
  have hlen:ds.length=m:=by rw[hl2];unfold U4;rw[C6,j7];simp
  rw[hlen] at ht
  exact q t ht
end
def S4.word:S4->Str
 | .lay _ _=> "lay"
 | .lift _=> "lift"
 | .turn _ _=> "turn"
 | .refill _=> "refill"
 | .aim _=> "aim"
def B2p (dd:S4):PyData:=.tuple [.str dd.word,.list dd.args]
def D42 (C:Addr):Sp:=λvs H Q _=>∃(F:Addr->Prop) (p d:Addr) (k:Kst) (vd:V) (dd:S4),vs=[.ref p,vd]/\(∀b,H b=none->F b)/\E2 F C H p d k/\ThV TT0 H vd (B2p dd)/\KOk k.m k.st k.g k.kws/\k.low.length=k.m/\A0d k dd/\
 ∀r v k' H',B6x (K8 k dd) k.low r k'->E2 F C H' p d k'->ThV (O4 H) H' v r->(∀b o,H b=some o->b≠p->b≠d->H' b=some o)->Apt C H' p d k' v->Q v H'
theorem C3f {F:Addr->Prop} {H:Hp} {vs:List V} {d1 d2 d3 d4:PyData} (t:B2 F H vs [d1,d2,d3,d4]):∃v1 v2 v3 v4,vs=[v1,v2,v3,v4]/\ThV F H v1 d1/\ThV F H v2 d2/\ThV F H v3 d3/\ThV F H v4 d4:=by
 cases t with
 | cons x1 t=>
 cases t with
 | cons x2 t=>
 obtain⟨v3,v4,rfl,t3,t4⟩:=Q7 t
 exact⟨_,_,v3,v4,rfl,x1,x2,t3,t4⟩
theorem B2q:∀{a b:Tb},B7 a=B7 b->a=b
 | [],[],_=>rfl
 | [],_::_,h=>by cases h
 | _::_,[],h=>by cases h
 | x::a,y::b,h=>by
  injection h with h1 h2
  have e:x=y:=by
   cases x with
   | none=>cases y with
    | none=>rfl
    | some _=>cases h1
   | some u=>cases y with
    | none=>cases h1
    | some v=>cases h1;rfl
  rw[e,B2q h2]
theorem C3g {x x':Int} {w w':Wy} (h:S4.args (.lay x w)=S4.args (.lay x' w')):x=x'/\w=w':=by
 obtain⟨a,b,c⟩:=w
 obtain⟨a',b',c'⟩:=w'
 injection h with h1 h
 injection h with h2 h
 injection h with h3 h
 injection h with h4 h
 have h1:=PyData.int.inj h1
 have h2:((a:Nat):Int)=((a':Nat):Int):=PyData.int.inj h2
 have h3:((b:Nat):Int)=((b':Nat):Int):=PyData.int.inj h3
 have h4:c=c':=PyData.int.inj h4
 have h2:a=a':=by lia
 have h3:b=b':=by lia
 exact⟨h1,by rw[h2,h3,h4]⟩
section
variable {P:Program} {w:World} {K:A9} {mg:Str->Option Value} {base:Heap}
theorem C3h (T:Txt K mg):C1 P w K mg base CX0 12 T.fL.a T.fL.d ["_law_keeper", "_law_deed_here"] (D42 T.ac):=by
 have kJ:=@C29 P w K mg base T
 have kK:=C1y T
 have qo:=@D4m P w K mg base T
 have qp:=D08 T
 have qr:=@D4n P w K mg base T
 have qt:=D09 T
 have nI:=@D4o P w K mg base T
 have nJ:=D1a T
 have kL:=@C3a P w K mg base T
 have kM:=C1z T
 refine T.fL.F.ok B6k (λvs H Q E h=>?_) (λcdv A outer s H vs Q E hr h=>?_)
 ·obtain⟨F,p,d,k,vd,dd,rfl,_⟩:=h
  rfl
 ·obtain⟨F,p,d,k,vd,dd,rfl,hF,kp,tvd,ok,hll,dok,told⟩:=h
  obtain⟨ad,ud,rfl,_,ed,tud⟩:=W0 tvd
  obtain⟨v1,v2,rfl,t1,t2⟩:=Q7 tud
  obtain⟨al,ul,rfl,_,el,tul⟩:=K9 t2
  have kp0:=kp
  obtain⟨⟨dx,g,l,ug,ul0,e1,g1,e2,t2',g3,e3,t3⟩,kvs,e4,kv⟩:=kp
  refine⟨_,(B9 (V7 (pv 1) (A3l (n:=2) rfl (X7 (Q3 (i:=2) B6k.nd rfl (B3 rfl)) (X7 (Q3 (i:=3) B6k.nd rfl (B3 rfl)) A3k))))
   (B9 (M5 (K1 (J3 b7 (pv 2) Y7 (C8 _))
   (D7 (F7 (g9 (pv 0) T.ae T.jz kJ (hr.mono DD) kK .nil A7 (A1 (C4 D2 (pv 3) A8 (λ_ _=>rfl)) (A1 (C4 D2 (pv 3) A8 (λ_ _=>rfl)) (A1 (C4 D2 (pv 3) A8 (λ_ _=>rfl)) (A1 (C4 D2 (pv 3) A8 (λ_ _=>rfl)) A5 A6) A6) A6) A6) (hst:=A6) (hpl:=(A4 A6 (A4 A6 (A4 A6 A3)))))))
   K4))
   (B9 (M5 (K1 (J3 b7 (pv 2) Y7 (C8 _))
   (D7 (F7 (g9 (pv 0) T.ae T.kR qo (hr.mono DD) qp .nil A7 (A1 (C4 D2 (pv 3) A8 (λ_ _=>rfl)) A5 A6) (hst:=A6) (hpl:=A3))))
   K4))
   (B9 (M5 (K1 (J3 b7 (pv 2) Y7 (C8 _))
   (D7 (F7 (g9 (pv 0) T.ae T.kS qr (hr.mono DD) qt .nil A7 (A1 (C4 D2 (pv 3) A8 (λ_ _=>rfl)) (A1 (C4 D2 (pv 3) A8 (λ_ _=>rfl)) A5 A6) A6) (hst:=A6) (hpl:=(A4 A6 A3)))))
   K4))
   (B9 (M5 (K1 (J3 b7 (pv 2) Y7 (C8 _))
   (D7 (F7 (g9 (pv 0) T.ae T.jq nI (hr.mono DD) nJ .nil A7 (A1 (C4 D2 (pv 3) A8 (λ_ _=>rfl)) A5 A6) (hst:=A6) (hpl:=A3))))
   K4))
   (D7 (F7 (g9 (pv 0) T.ae T.jC kL (hr.mono DD) kM .nil A7 (A1 (C4 D2 (pv 3) A8 (λ_ _=>rfl)) A5 A6) (hst:=A6) (hpl:=A3))))))))),?_⟩
  try dsimp only[N6,Cx.nox]
  refine j3 λW hW=>?_
  refine⟨_,rfl,ad,_,rfl,SqT.of ed,rfl,_,_,rfl,_,_,rfl,rfl,?_⟩
  cases dd with
  | lay x w0=>
   have t1:ThV TT0 H v1 (.str "lay"):=t1
   cases t1
   have tul0:=tul
   obtain⟨u1,u2,u3,u4,rfl,_,_,_,_⟩:=C3f tul
   refine @G8 W _ _ _ _ _ hW λW hW=>?_
   refine⟨λ_ _=>False,?_,λ_ _ z=>z.elim⟩
   refine⟨_,rfl,rfl,_,rfl,?_⟩
   rw[show decide (V.str "lay" = V.str "lay")=true from decide_eq_true rfl]
   refine G0 ?_
   refine⟨_,rfl,p,dx,_,rfl,e1,P5 KK,_,rfl,al,_,_,_,rfl,rfl,SqL.of el,rfl,_,rfl,al,_,_,_,rfl,rfl,SqL.of el,rfl,_,rfl,al,_,_,_,rfl,rfl,SqL.of el,rfl,_,rfl,al,_,_,_,rfl,rfl,SqL.of el,rfl,F,p,d,k,_,_,rfl,hF,kp0,tul0,⟨_,⟨x,w0,rfl⟩,rfl,ok,hll,dok⟩,λr v k' H1 po kp1 tv fr ap=>?_⟩
   obtain⟨dd',h1,h2,po⟩:=po
   obtain⟨x',w',rfl⟩:=h1
   obtain⟨rfl,rfl⟩:=C3g h2
   exact told r v k' H1 po kp1 tv fr ap
  | lift x=>
   have t1:ThV TT0 H v1 (.str "lift"):=t1
   cases t1
   have tul0:=tul
   obtain⟨u1,rfl,_⟩:=a9 tul
   refine @G8 W _ _ _ _ _ hW λW hW=>?_
   refine⟨fun σ' H'=>σ'=[some (.ref p),some (.ref ad),some (.str "lift"),some (.ref al)]/\H=H',?_,?_⟩
   ·refine⟨_,rfl,rfl,_,rfl,?_⟩
    rw[show decide (V.str "lift" = V.str "lay")=false from decide_eq_false (DD)]
    exact C7 ⟨rfl,rfl⟩
   rintro σ' _ ⟨rfl,rfl⟩
   refine @G8 W _ _ _ _ _ hW λW hW=>?_
   refine⟨λ_ _=>False,?_,λ_ _ z=>z.elim⟩
   refine⟨_,rfl,rfl,_,rfl,?_⟩
   rw[show decide (V.str "lift" = V.str "lift")=true from decide_eq_true rfl]
   refine G0 ?_
   refine⟨_,rfl,p,dx,_,rfl,e1,P5 KK,_,rfl,al,_,_,_,rfl,rfl,SqL.of el,rfl,F,p,d,k,_,_,rfl,hF,kp0,tul0,⟨_,⟨x,rfl⟩,rfl,ok,hll,dok⟩,λr v k' H1 po kp1 tv fr ap=>?_⟩
   obtain⟨dd',h1,h2,po⟩:=po
   obtain⟨x',rfl⟩:=h1
   cases h2
   exact told r v k' H1 po kp1 tv fr ap
  | turn x c=>
   have t1:ThV TT0 H v1 (.str "turn"):=t1
   cases t1
   have tul0:=tul
   obtain⟨u1,u2,rfl,_,_⟩:=Q7 tul
   refine @G8 W _ _ _ _ _ hW λW hW=>?_
   refine⟨fun σ' H'=>σ'=[some (.ref p),some (.ref ad),some (.str "turn"),some (.ref al)]/\H=H',?_,?_⟩
   ·refine⟨_,rfl,rfl,_,rfl,?_⟩
    rw[show decide (V.str "turn" = V.str "lay")=false from decide_eq_false (DD)]
    exact C7 ⟨rfl,rfl⟩
   rintro σ' _ ⟨rfl,rfl⟩
   refine @G8 W _ _ _ _ _ hW λW hW=>?_
   refine⟨fun σ' H'=>σ'=[some (.ref p),some (.ref ad),some (.str "turn"),some (.ref al)]/\H=H',?_,?_⟩
   ·refine⟨_,rfl,rfl,_,rfl,?_⟩
    rw[show decide (V.str "turn" = V.str "lift")=false from decide_eq_false (DD)]
    exact C7 ⟨rfl,rfl⟩
   rintro σ' _ ⟨rfl,rfl⟩
   refine @G8 W _ _ _ _ _ hW λW hW=>?_
   refine⟨λ_ _=>False,?_,λ_ _ z=>z.elim⟩
   refine⟨_,rfl,rfl,_,rfl,?_⟩
   rw[show decide (V.str "turn" = V.str "turn")=true from decide_eq_true rfl]
   refine G0 ?_
   refine⟨_,rfl,p,dx,_,rfl,e1,P5 KK,_,rfl,al,_,_,_,rfl,rfl,SqL.of el,rfl,_,rfl,al,_,_,_,rfl,rfl,SqL.of el,rfl,F,p,d,k,_,_,rfl,hF,kp0,tul0,⟨_,⟨x,c,rfl⟩,rfl,ok,hll,dok⟩,λr v k' H1 po kp1 tv fr ap=>?_⟩
   obtain⟨dd',h1,h2,po⟩:=po
   obtain⟨x',c',rfl⟩:=h1
   cases h2
   exact told r v k' H1 po kp1 tv fr ap
  | refill x=>
   have t1:ThV TT0 H v1 (.str "refill"):=t1
   cases t1
   have tul0:=tul
   obtain⟨u1,rfl,_⟩:=a9 tul
   refine @G8 W _ _ _ _ _ hW λW hW=>?_
   refine⟨fun σ' H'=>σ'=[some (.ref p),some (.ref ad),some (.str "refill"),some (.ref al)]/\H=H',?_,?_⟩
   ·refine⟨_,rfl,rfl,_,rfl,?_⟩
    rw[show decide (V.str "refill" = V.str "lay")=false from decide_eq_false (DD)]
    exact C7 ⟨rfl,rfl⟩
   rintro σ' _ ⟨rfl,rfl⟩
   refine @G8 W _ _ _ _ _ hW λW hW=>?_
   refine⟨fun σ' H'=>σ'=[some (.ref p),some (.ref ad),some (.str "refill"),some (.ref al)]/\H=H',?_,?_⟩
   ·refine⟨_,rfl,rfl,_,rfl,?_⟩
    rw[show decide (V.str "refill" = V.str "lift")=false from decide_eq_false (DD)]
    exact C7 ⟨rfl,rfl⟩
   rintro σ' _ ⟨rfl,rfl⟩
   refine @G8 W _ _ _ _ _ hW λW hW=>?_
   refine⟨fun σ' H'=>σ'=[some (.ref p),some (.ref ad),some (.str "refill"),some (.ref al)]/\H=H',?_,?_⟩
   ·refine⟨_,rfl,rfl,_,rfl,?_⟩
    rw[show decide (V.str "refill" = V.str "turn")=false from decide_eq_false (DD)]
    exact C7 ⟨rfl,rfl⟩
   rintro σ' _ ⟨rfl,rfl⟩
   refine @G8 W _ _ _ _ _ hW λW hW=>?_
   refine⟨λ_ _=>False,?_,λ_ _ z=>z.elim⟩
   refine⟨_,rfl,rfl,_,rfl,?_⟩
   rw[show decide (V.str "refill" = V.str "refill")=true from decide_eq_true rfl]
   refine G0 ?_
   refine⟨_,rfl,p,dx,_,rfl,e1,P5 KK,_,rfl,al,_,_,_,rfl,rfl,SqL.of el,rfl,F,p,d,k,_,_,rfl,hF,kp0,tul0,⟨_,⟨x,rfl⟩,rfl,ok,hll,dok⟩,λr v k' H1 po kp1 tv fr ap=>?_⟩
   obtain⟨dd',h1,h2,po⟩:=po
   obtain⟨x',rfl⟩:=h1
   cases h2
   exact told r v k' H1 po kp1 tv fr ap
  | aim x=>
   have t1:ThV TT0 H v1 (.str "aim"):=t1
   cases t1
   have tul0:=tul
   obtain⟨u1,rfl,_⟩:=a9 tul
   refine @G8 W _ _ _ _ _ hW λW hW=>?_
   refine⟨fun σ' H'=>σ'=[some (.ref p),some (.ref ad),some (.str "aim"),some (.ref al)]/\H=H',?_,?_⟩
   ·refine⟨_,rfl,rfl,_,rfl,?_⟩
    rw[show decide (V.str "aim" = V.str "lay")=false from decide_eq_false (DD)]
    exact C7 ⟨rfl,rfl⟩
   rintro σ' _ ⟨rfl,rfl⟩
   refine @G8 W _ _ _ _ _ hW λW hW=>?_
   refine⟨fun σ' H'=>σ'=[some (.ref p),some (.ref ad),some (.str "aim"),some (.ref al)]/\H=H',?_,?_⟩
   ·refine⟨_,rfl,rfl,_,rfl,?_⟩
    rw[show decide (V.str "aim" = V.str "lift")=false from decide_eq_false (DD)]
    exact C7 ⟨rfl,rfl⟩
   rintro σ' _ ⟨rfl,rfl⟩
   refine @G8 W _ _ _ _ _ hW λW hW=>?_
   refine⟨fun σ' H'=>σ'=[some (.ref p),some (.ref ad),some (.str "aim"),some (.ref al)]/\H=H',?_,?_⟩
   ·refine⟨_,rfl,rfl,_,rfl,?_⟩
    rw[show decide (V.str "aim" = V.str "turn")=false from decide_eq_false (DD)]
    exact C7 ⟨rfl,rfl⟩
   rintro σ' _ ⟨rfl,rfl⟩
   refine @G8 W _ _ _ _ _ hW λW hW=>?_
   refine⟨fun σ' H'=>σ'=[some (.ref p),some (.ref ad),some (.str "aim"),some (.ref al)]/\H=H',?_,?_⟩
   ·refine⟨_,rfl,rfl,_,rfl,?_⟩
    rw[show decide (V.str "aim" = V.str "refill")=false from decide_eq_false (DD)]
    exact C7 ⟨rfl,rfl⟩
   rintro σ' _ ⟨rfl,rfl⟩
   subst hW
   refine⟨_,rfl,p,dx,_,rfl,e1,P5 KK,_,rfl,al,_,_,_,rfl,rfl,SqL.of el,rfl,F,p,d,k,_,_,rfl,hF,kp0,tul0,⟨_,⟨x,rfl⟩,rfl,ok,hll,dok⟩,λr v k' H1 po kp1 tv fr ap=>?_⟩
   obtain⟨dd',h1,h2,po⟩:=po
   obtain⟨x',rfl⟩:=h1
   cases B2q (PyData.list.inj (List.cons.inj h2).1)
   exact told r v k' H1 po kp1 tv fr ap
end
structure O6 (F:Addr->Prop) (H:Hp) (a dc:Addr) (m:Nat) (st:Int) (g:Tb) (kws:Kw):Prop where
 ob:∃gl ug,H a=some (.lst [.int ((m:Nat):Int),.int st,.ref gl,.ref dc])/\F a/\F gl/\H gl=some (.lst ug)/\B2 TT0 H ug (B7 g)
 dc:∃kvs,H dc=some (.dK kvs)/\O5 H kvs kws
theorem O6.mv {F G:Addr->Prop} {H H':Hp} {a dc:Addr} {m:Nat} {st:Int} {g:Tb} {kws:Kw} (h:O6 F H a dc m st g kws) (s:∀b o,H b=some o->(∀xs,o=.lst xs->F b)->(∀kvs,o=.dK kvs->b=dc)->H' b=some o) (hF:∀b,F b->G b):O6 G H' a dc m st g kws:=by
 obtain⟨⟨gl,ug,e1,f1,f2,e2,t2⟩,kvs,e3,kv⟩:=h
 exact⟨⟨gl,ug,s _ _ e1 (λ_ _=>f1) (λ_ z=>by cases z),hF _ f1,hF _ f2,s _ _ e2 (λ_ _=>f2) (λ_ z=>by cases z),G3 t2⟩,kvs,s _ _ e3 (λ_ z=>by cases z) (λ_ _=>rfl),kv.mv λb xs e=>s _ _ e (λ_ z=>by cases z) (λ_ z=>by cases z)⟩
def D43:Sp:=λvs H Q _=>∃(m:Nat) (st:Int) (g:Tb) (vg:V),vs=[.int ((m:Nat):Int),.int st,vg]/\ThV TT0 H vg (.list (B7 g))/\∀a dc H',O6 (λb=>H b=none) H' a dc m st g []->H dc=none->Same H H'->Q (.ref a) H'
def D44:Sp:=λvs H Q _=>∃(F:Addr->Prop) (a dc:Addr) (k:Kst) (vd:V) (dd:S4),vs=[.ref a,vd]/\O6 F H a dc k.m k.st k.g k.kws/\k.kws.length < 50/\ThV TT0 H vd (B2p dd)/\A0d k dd/\
 ∀a' dc' H',O6 (λb=>H b=none) H' a' dc' (K8 k dd).m (K8 k dd).st (K8 k dd).g (K8 k dd).kws->H dc'=none->Same H H'->Q (.ref a') H'
theorem D45 {F:Addr->Prop} {H:Hp} {vs:List V} {d1 d2 d3:PyData} (t:B2 F H vs [d1,d2,d3]):∃v1 v2 v3,vs=[v1,v2,v3]/\ThV F H v1 d1/\ThV F H v2 d2/\ThV F H v3 d3:=by
 cases t with
 | cons x1 t=>
 obtain⟨v2,v3,rfl,t2,t3⟩:=Q7 t
 exact⟨_,v2,v3,rfl,x1,t2,t3⟩
section
variable {P:Program} {w:World} {K:A9} {mg:Str->Option Value} {base:Heap}
theorem D46 (T:Txt K mg):C1 P w K mg base CX0 1 T.df.a T.df.d ["_law_many_here", "_law_store_here", "_law_goal"] D43:=by
 refine T.df.F.ok D05 (λvs H Q E h=>?_) (λcdv A outer s H vs Q E hr h=>?_)
 ·obtain⟨m,st,g,vg,rfl,_⟩:=h
  rfl
 ·obtain⟨m,st,g,vg,rfl,tg,told⟩:=h
  obtain⟨ag,ug,rfl,_,eg,tug⟩:=K9 tg
  refine⟨_,(D7 (F7 (U9 (A1 (pv 0) (A1 (pv 1) (A1 (W6 Z3 rfl T.aD V0 (A1 (pv 2) A5 A0) (he:=A0) (hpl:=A3)) (A1 C08 A5 C6z) D4) A0) A0)))),?_⟩
  try dsimp only[N6,Cx.nox]
  refine⟨_,rfl,_,rfl,_,rfl,ag,ug,rfl,.inl (SqL.of eg),λl hl=>?_⟩
  intro d hd
  refine⟨by show 4<=sizeLine;decide,λa ha=>?_⟩
  have s1:Same H _:=Same.upd (o:=.lst ug) hl
  have s2:=Same.upd (o:=.dK []) hd
  have s3:=Same.upd (o:=.lst [.int ((m:Nat):Int),.int st,.ref l,.ref d]) ha
  have s12:=s1.tr s2
  exact told a d _ ⟨⟨l,ug,B6,s12.early ha,hl,s3 _ _ (s2 _ _ B6),G3 tug⟩,[],s3 _ _ B6,.nil⟩ (s1.early hd) (s12.tr s3)
theorem C3i (T:Txt K mg):C1 P w K mg base CX0 1 T.bR.a T.bR.d ["_law_state_here", "_law_deed_here"] D44:=by
 refine T.bR.F.ok A9v (λvs H Q E h=>?_) (λcdv A outer s H vs Q E hr h=>?_)
 ·obtain⟨F,a,dc,k,vd,dd,rfl,_⟩:=h
  rfl
 ·obtain⟨F,a,dc,k,vd,dd,rfl,sa,few,tvd,dok,told⟩:=h
  obtain⟨ad,ud,rfl,_,ed,tud⟩:=W0 tvd
  obtain⟨v1,v2,rfl,t1,t2⟩:=Q7 tud
  obtain⟨al,ul,rfl,_,el,tul⟩:=K9 t2
  obtain⟨⟨gl,ug,e1,f1,f2,e2,t2'⟩,kvs,e3,kv⟩:=sa
  refine⟨_,(B9 (V7 (pv 1) (A3l (n:=2) rfl (X7 (Q3 (i:=2) A9v.nd rfl (B3 rfl)) (X7 (Q3 (i:=3) A9v.nd rfl (B3 rfl)) A3k))))
   (B9 (C0 (i:=4) A9v.nd rfl (B3 rfl) (W6 C9u rfl T.pf C6x (A1 (C4 D2 (pv 0) A8 (λ_ _=>rfl)) A5 A6) (he:=A6) (hpl:=A3)))
   (B9 (C0 (i:=5) A9v.nd rfl (B3 rfl) (U9 (A1 (C4 D2 (pv 0) A8 (λ_ _=>rfl)) (A1 (C4 D2 (pv 0) A8 (λ_ _=>rfl)) (A1 (W6 Z3 rfl T.aD V0 (A1 (C4 D2 (pv 0) A8 (λ_ _=>rfl)) A5 A6) (he:=A6) (hpl:=A3)) (A1 (pv 4) A5 A0) D4) A6) A6)))
   (B9 (M5 (K1 (J3 b7 (pv 2) Y7 (C8 _))
   (D7 (B1i (u1 (K2 hr)) (pv 4) (C4 D2 (pv 3) A8 (λ_ _=>rfl)) (R8 (A1 (C4 D2 (pv 3) A8 (λ_ _=>rfl)) (A1 (C4 D2 (pv 3) A8 (λ_ _=>rfl)) (A1 (C4 D2 (pv 3) A8 (λ_ _=>rfl)) A5 A6) A6) A6)) rfl))
   K4))
   (B9 (M5 (K1 (J3 b7 (pv 2) Y7 (C8 _))
   (D7 (V6 (C09 (pv 4) (C4 D2 (pv 3) A8 (λ_ _=>rfl)) ⟨rfl,rfl,rfl,rfl⟩)))
   K4))
   (B9 (M5 (K1 (J3 b7 (pv 2) Y7 (C8 _))
   (D7 (B1i (u1 (K2 hr)) (pv 4) (C4 D2 (pv 3) A8 (λ_ _=>rfl)) (R8 (A1 (C4 X8 (A07 (u1 (K2 hr)) (pv 4) (C4 D2 (pv 3) A8 (λ_ _=>rfl)) (λ_ _=>rfl)) A8 (λ_ _=>rfl)) (A1 (C4 X8 (A07 (u1 (K2 hr)) (pv 4) (C4 D2 (pv 3) A8 (λ_ _=>rfl)) (λ_ _=>rfl)) A8 (λ_ _=>rfl)) (A1 (C4 D2 (pv 3) A8 (λ_ _=>rfl)) A5 A6) A6) A6)) rfl))
   K4))
   (B9 (M5 (K1 (J3 b7 (pv 2) Y7 (C8 _))
   (D7 (V7 (C4 D2 (pv 3) A8 (λ_ _=>rfl)) (b6 (pv 5) A8 X9)))
   K4))
   (B9 (M5 (K1 (J3 b7 (pv 2) Y7 (C8 _))
   (D7 (V7 (W6 Z3 rfl T.aD V0 (A1 (C4 D2 (pv 3) A8 (λ_ _=>rfl)) A5 A6) (he:=A6) (hpl:=A3)) (b6 (pv 5) A8 X9)))
   K4))
   (D7 (F7 (pv 5))))))))))),?_⟩
  try dsimp only[N6,Cx.nox]
  refine⟨_,rfl,ad,_,rfl,SqT.of ed,rfl,_,_,rfl,_,_,rfl,rfl,?_⟩
  have dn0:True:=trivial
  refine⟨_,rfl,a,_,_,_,rfl,rfl,SqL.of e1,rfl,dc,kvs,rfl,e3,λdn hdn=>?_⟩
  have s1:=Same.upd (o:=.dK kvs) hdn
  refine⟨_,rfl,a,_,_,_,rfl,rfl,SqL.of (s1 _ _ e1),rfl,_,rfl,a,_,_,_,rfl,rfl,SqL.of (s1 _ _ e1),rfl,_,rfl,a,_,_,_,rfl,rfl,SqL.of (s1 _ _ e1),rfl,gl,ug,rfl,.inl (SqL.of (s1 _ _ e2)),λl hl=>?_⟩
  have s2:=Same.upd (o:=.lst ug) hl
  refine⟨_,rfl,by show 4<=sizeLine;decide,λaa haa=>?_⟩
  have s3:=Same.upd (o:=.lst [.int ((k.m:Nat):Int),.int k.st,.ref l,.ref dn]) haa
  have s12:=s1.tr s2
  have sH:=s12.tr s3
  obtain⟨H3,hH3⟩:∃H3,H3=upd (upd (upd H dn (.dK kvs)) l (.lst ug)) aa (.lst [.int ((k.m:Nat):Int),.int k.st,.ref l,.ref dn]):=⟨_,rfl⟩
  rw[<-hH3] at sH ⊢
  have eaa:H3 aa=some (.lst [.int ((k.m:Nat):Int),.int k.st,.ref l,.ref dn]):=by rw[hH3];exact B6
  have el1:H3 l=some (.lst ug):=by rw[hH3];exact s3 _ _ B6
  have edn:H3 dn=some (.dK kvs):=by rw[hH3];exact s3 _ _ (s2 _ _ B6)
  have aan:=s12.early haa
  have ln:=s1.early hl
  have el3:=sH _ _ el
  have kv3:=kv.mv (H':=H3) λb xs e=>sH _ _ e
  have nal:aa≠dn:=λz=>by rw[z,edn] at eaa;cases eaa
  have nld:l≠dn:=λz=>by rw[z,edn] at el1;cases el1
  have nlaa:l≠aa:=λz=>by rw[<-z,B6] at haa;cases haa
  clear hH3 s1 s2 s3 s12 haa hl
  have wfin:∀(H5:Hp) (kvs':List (Key×V)) (kws':Kw),Same H3 H5->O5 H5 kvs' kws'->Same H (upd H5 dn (.dK kvs'))/\O6 (λb=>H b=none) (upd H5 dn (.dK kvs')) aa dn k.m k.st k.g kws':=λH5 kvs' kws' s5 h4=>by
   have f:∀b o,H5 b=some o->b≠dn->upd H5 dn (.dK kvs') b=some o:=λb o e n=>by rw[B8 n];exact e
   refine⟨λb o e=>f _ _ (s5 _ _ (sH _ _ e)) (λz=>by rw[z,hdn] at e;cases e),⟨l,ug,f _ _ (s5 _ _ eaa) nal,aan,ln,f _ _ (s5 _ _ el1) nld,G3 t2'⟩,kvs',B6,h4.mv λb xs e=>f _ _ e λz=>?_⟩
   rw[z,s5 _ _ edn] at e;cases e
  cases dd with
  | lay x w0=>
   have t1:ThV TT0 H v1 (.str "lay"):=t1
   cases t1
   obtain⟨u1,u2,u3,u4,rfl,c1,c2,c3,c4⟩:=C3f tul
   cases c1
   cases c2
   cases c3
   cases c4
   refine⟨fun σ' H'=>σ'=[some (.ref a),some (.ref ad),some (.str "lay"),some (.ref al),some (.ref dn),some (.ref aa)]/\Same H H'/\O6 (λb=>H b=none) H' aa dn k.m k.st k.g (X2 k.kws x w0),?_,?_⟩
   ·refine⟨_,rfl,rfl,_,rfl,?_⟩
    rw[show decide (V.str "lay" = V.str "lay")=true from decide_eq_true rfl]
    refine G0 ?_
    refine⟨_,rfl,al,_,_,_,rfl,rfl,SqL.of el3,rfl,_,rfl,al,_,_,_,rfl,rfl,SqL.of el3,rfl,_,rfl,al,_,_,_,rfl,rfl,SqL.of el3,rfl,by show 3<=sizeLine;decide,λt ht=>?_⟩
    have s4:=Same.upd (o:=.tup [.int ((w0.1:Nat):Int),.int ((w0.2.1:Nat):Int),.int w0.2.2]) ht
    refine⟨_,rfl,_,rfl,al,_,_,_,rfl,rfl,SqL.of (s4 _ _ el3),rfl,dn,_,rfl,A2x.k (k:=Sum.inl x) (s4 _ _ edn) (by rw[kv.len,sizeLine_eq];lia),rfl,?_⟩
    exact wfin _ _ _ s4 ((kv3.mv λb xs e=>s4 _ _ e).put (.tup trivial B6 (.cons (.int _) (.cons (.int _) (.cons (.int _) .nil)))))
   rintro σ' H4 ⟨rfl,sH4,fin⟩
   refine⟨fun σ' H'=>σ'=[some (.ref a),some (.ref ad),some (.str "lay"),some (.ref al),some (.ref dn),some (.ref aa)]/\H4=H',?_,?_⟩
   ·refine⟨_,rfl,rfl,_,rfl,?_⟩
    rw[show decide (V.str "lay" = V.str "lift")=false from decide_eq_false (DD)]
    exact C7 ⟨rfl,rfl⟩
   rintro σ' _ ⟨rfl,rfl⟩
   refine⟨fun σ' H'=>σ'=[some (.ref a),some (.ref ad),some (.str "lay"),some (.ref al),some (.ref dn),some (.ref aa)]/\H4=H',?_,?_⟩
   ·refine⟨_,rfl,rfl,_,rfl,?_⟩
    rw[show decide (V.str "lay" = V.str "turn")=false from decide_eq_false (DD)]
    exact C7 ⟨rfl,rfl⟩
   rintro σ' _ ⟨rfl,rfl⟩
   refine⟨fun σ' H'=>σ'=[some (.ref a),some (.ref ad),some (.str "lay"),some (.ref al),some (.ref dn),some (.ref aa)]/\H4=H',?_,?_⟩
   ·refine⟨_,rfl,rfl,_,rfl,?_⟩
    rw[show decide (V.str "lay" = V.str "refill")=false from decide_eq_false (DD)]
    exact C7 ⟨rfl,rfl⟩
   rintro σ' _ ⟨rfl,rfl⟩
   refine⟨fun σ' H'=>σ'=[some (.ref a),some (.ref ad),some (.str "lay"),some (.ref al),some (.ref dn),some (.ref aa)]/\H4=H',?_,?_⟩
   ·refine⟨_,rfl,rfl,_,rfl,?_⟩
    rw[show decide (V.str "lay" = V.str "aim")=false from decide_eq_false (DD)]
    exact C7 ⟨rfl,rfl⟩
   rintro σ' _ ⟨rfl,rfl⟩
   exact⟨_,rfl,told aa dn H4 fin hdn sH4⟩
  | lift x=>
   have t1:ThV TT0 H v1 (.str "lift"):=t1
   cases t1
   obtain⟨u1,rfl,c1⟩:=a9 tul
   cases c1
   obtain⟨lx,w0,hw⟩:=id dok
   obtain⟨v0,w1,hv,hw1,tv⟩:∃v w,X1 kvs (Sum.inl x:Key)=some v/\G6 k.kws x=some w/\ThV TT0 H3 v (K7 w):=by
    rcases kv3.val x with ⟨_,z⟩ | h
    ·rw[hw] at z;cases z
    ·exact h
   refine⟨fun σ' H'=>σ'=[some (.ref a),some (.ref ad),some (.str "lift"),some (.ref al),some (.ref dn),some (.ref aa)]/\H3=H',?_,?_⟩
   ·refine⟨_,rfl,rfl,_,rfl,?_⟩
    rw[show decide (V.str "lift" = V.str "lay")=false from decide_eq_false (DD)]
    exact C7 ⟨rfl,rfl⟩
   rintro σ' _ ⟨rfl,rfl⟩
   refine⟨fun σ' H'=>σ'=[some (.ref a),some (.ref ad),some (.str "lift"),some (.ref al),some (.ref dn),some (.ref aa)]/\Same H H'/\O6 (λb=>H b=none) H' aa dn k.m k.st k.g (A8k k.kws x),?_,?_⟩
   ·refine⟨_,rfl,rfl,_,rfl,?_⟩
    rw[show decide (V.str "lift" = V.str "lift")=true from decide_eq_true rfl]
    refine G0 ?_
    refine⟨_,rfl,dn,rfl,.inl ⟨kvs,.inl edn⟩,_,rfl,al,_,_,_,rfl,rfl,SqL.of el3,rfl,kvs,Sum.inl x,v0,edn,rfl,hv,rfl,?_⟩
    exact wfin _ _ _ (Same.refl _) (kv3.drop x)
   rintro σ' H4 ⟨rfl,sH4,fin⟩
   refine⟨fun σ' H'=>σ'=[some (.ref a),some (.ref ad),some (.str "lift"),some (.ref al),some (.ref dn),some (.ref aa)]/\H4=H',?_,?_⟩
   ·refine⟨_,rfl,rfl,_,rfl,?_⟩
    rw[show decide (V.str "lift" = V.str "turn")=false from decide_eq_false (DD)]
    exact C7 ⟨rfl,rfl⟩
   rintro σ' _ ⟨rfl,rfl⟩
   refine⟨fun σ' H'=>σ'=[some (.ref a),some (.ref ad),some (.str "lift"),some (.ref al),some (.ref dn),some (.ref aa)]/\H4=H',?_,?_⟩
   ·refine⟨_,rfl,rfl,_,rfl,?_⟩
    rw[show decide (V.str "lift" = V.str "refill")=false from decide_eq_false (DD)]
    exact C7 ⟨rfl,rfl⟩
   rintro σ' _ ⟨rfl,rfl⟩
   refine⟨fun σ' H'=>σ'=[some (.ref a),some (.ref ad),some (.str "lift"),some (.ref al),some (.ref dn),some (.ref aa)]/\H4=H',?_,?_⟩
   ·refine⟨_,rfl,rfl,_,rfl,?_⟩
    rw[show decide (V.str "lift" = V.str "aim")=false from decide_eq_false (DD)]
    exact C7 ⟨rfl,rfl⟩
   rintro σ' _ ⟨rfl,rfl⟩
   exact⟨_,rfl,told aa dn H4 fin hdn sH4⟩
  | turn x c=>
   have t1:ThV TT0 H v1 (.str "turn"):=t1
   cases t1
   obtain⟨u1,u2,rfl,c1,c2⟩:=Q7 tul
   cases c1
   cases c2
   obtain⟨⟨lx,w0,hw⟩,_⟩:=id dok
   obtain⟨v0,w1,hv,hw1,tv⟩:∃v w,X1 kvs (Sum.inl x:Key)=some v/\G6 k.kws x=some w/\ThV TT0 H3 v (K7 w):=by
    rcases kv3.val x with ⟨_,z⟩ | h
    ·rw[hw] at z;cases z
    ·exact h
   obtain⟨tw,utw,rfl,gtw,etw,ttw⟩:=W0 (show ThV TT0 H3 v0 (.tuple ([((w1.1:Nat):Int),((w1.2.1:Nat):Int),w1.2.2].map PyData.int)) from tv)
   obtain⟨y1,y2,y3,rfl,ty1,ty2,ty3⟩:=D45 ttw
   cases ty1
   cases ty2
   cases ty3
   refine⟨fun σ' H'=>σ'=[some (.ref a),some (.ref ad),some (.str "turn"),some (.ref al),some (.ref dn),some (.ref aa)]/\H3=H',?_,?_⟩
   ·refine⟨_,rfl,rfl,_,rfl,?_⟩
    rw[show decide (V.str "turn" = V.str "lay")=false from decide_eq_false (DD)]
    exact C7 ⟨rfl,rfl⟩
   rintro σ' _ ⟨rfl,rfl⟩
   refine⟨fun σ' H'=>σ'=[some (.ref a),some (.ref ad),some (.str "turn"),some (.ref al),some (.ref dn),some (.ref aa)]/\H3=H',?_,?_⟩
   ·refine⟨_,rfl,rfl,_,rfl,?_⟩
    rw[show decide (V.str "turn" = V.str "lift")=false from decide_eq_false (DD)]
    exact C7 ⟨rfl,rfl⟩
   rintro σ' _ ⟨rfl,rfl⟩
   refine⟨fun σ' H'=>σ'=[some (.ref a),some (.ref ad),some (.str "turn"),some (.ref al),some (.ref dn),some (.ref aa)]/\Same H H'/\O6 (λb=>H b=none) H' aa dn k.m k.st k.g (X2 k.kws x (A1b k.kws x c)),?_,?_⟩
   ·refine⟨_,rfl,rfl,_,rfl,?_⟩
    rw[show decide (V.str "turn" = V.str "turn")=true from decide_eq_true rfl]
    refine G0 ?_
    refine⟨_,rfl,_,rfl,al,_,_,_,rfl,rfl,SqL.of el3,rfl,dn,_,rfl,by rw[<-hv];exact U5.k (k:=Sum.inl x) edn,.inr (.inl ⟨tw,_,0,_,rfl,rfl,SqT.of etw,rfl,?_⟩)⟩
    refine⟨_,rfl,_,rfl,al,_,_,_,rfl,rfl,SqL.of el3,rfl,dn,_,rfl,by rw[<-hv];exact U5.k (k:=Sum.inl x) edn,.inr (.inl ⟨tw,_,1,_,rfl,rfl,SqT.of etw,rfl,?_⟩)⟩
    refine⟨_,rfl,al,_,_,_,rfl,rfl,SqL.of el3,rfl,by show 3<=sizeLine;decide,λt ht=>?_⟩
    have s4:=Same.upd (o:=.tup [.int ((w1.1:Nat):Int),.int ((w1.2.1:Nat):Int),.int c]) ht
    refine⟨_,rfl,_,rfl,al,_,_,_,rfl,rfl,SqL.of (s4 _ _ el3),rfl,dn,_,rfl,A2x.k (k:=Sum.inl x) (s4 _ _ edn) (by rw[kv.len,sizeLine_eq];lia),rfl,?_⟩
    have ht':A1b k.kws x c=(w1.1,w1.2.1,c):=by unfold A1b;rw[hw1];rfl
    rw[ht']
    exact wfin _ _ _ s4 ((kv3.mv λb xs e=>s4 _ _ e).put (.tup trivial B6 (.cons (.int _) (.cons (.int _) (.cons (.int _) .nil)))))
   rintro σ' H4 ⟨rfl,sH4,fin⟩
   refine⟨fun σ' H'=>σ'=[some (.ref a),some (.ref ad),some (.str "turn"),some (.ref al),some (.ref dn),some (.ref aa)]/\H4=H',?_,?_⟩
   ·refine⟨_,rfl,rfl,_,rfl,?_⟩
    rw[show decide (V.str "turn" = V.str "refill")=false from decide_eq_false (DD)]
    exact C7 ⟨rfl,rfl⟩
   rintro σ' _ ⟨rfl,rfl⟩
   refine⟨fun σ' H'=>σ'=[some (.ref a),some (.ref ad),some (.str "turn"),some (.ref al),some (.ref dn),some (.ref aa)]/\H4=H',?_,?_⟩
   ·refine⟨_,rfl,rfl,_,rfl,?_⟩
    rw[show decide (V.str "turn" = V.str "aim")=false from decide_eq_false (DD)]
    exact C7 ⟨rfl,rfl⟩
   rintro σ' _ ⟨rfl,rfl⟩
   exact⟨_,rfl,told aa dn H4 fin hdn sH4⟩
  | refill x=>
   have t1:ThV TT0 H v1 (.str "refill"):=t1
   cases t1
   obtain⟨u1,rfl,c1⟩:=a9 tul
   cases c1
   refine⟨fun σ' H'=>σ'=[some (.ref a),some (.ref ad),some (.str "refill"),some (.ref al),some (.ref dn),some (.ref aa)]/\H3=H',?_,?_⟩
   ·refine⟨_,rfl,rfl,_,rfl,?_⟩
    rw[show decide (V.str "refill" = V.str "lay")=false from decide_eq_false (DD)]
    exact C7 ⟨rfl,rfl⟩
   rintro σ' _ ⟨rfl,rfl⟩
   refine⟨fun σ' H'=>σ'=[some (.ref a),some (.ref ad),some (.str "refill"),some (.ref al),some (.ref dn),some (.ref aa)]/\H3=H',?_,?_⟩
   ·refine⟨_,rfl,rfl,_,rfl,?_⟩
    rw[show decide (V.str "refill" = V.str "lift")=false from decide_eq_false (DD)]
    exact C7 ⟨rfl,rfl⟩
   rintro σ' _ ⟨rfl,rfl⟩
   refine⟨fun σ' H'=>σ'=[some (.ref a),some (.ref ad),some (.str "refill"),some (.ref al),some (.ref dn),some (.ref aa)]/\H3=H',?_,?_⟩
   ·refine⟨_,rfl,rfl,_,rfl,?_⟩
    rw[show decide (V.str "refill" = V.str "turn")=false from decide_eq_false (DD)]
    exact C7 ⟨rfl,rfl⟩
   rintro σ' _ ⟨rfl,rfl⟩
   refine⟨fun σ' H'=>σ'=[some (.ref a),some (.ref ad),some (.str "refill"),some (.ref al),some (.ref dn),some (.ref aa)]/\Same H H'/\O6 (λb=>H b=none) H' aa dn k.m x k.g k.kws,?_,?_⟩
   ·refine⟨_,rfl,rfl,_,rfl,?_⟩
    rw[show decide (V.str "refill" = V.str "refill")=true from decide_eq_true rfl]
    refine G0 ?_
    refine⟨_,rfl,al,_,_,_,rfl,rfl,SqL.of el3,rfl,_,rfl,aa,_,_,1,rfl,rfl,eaa,rfl,rfl,?_⟩
    have f:∀b o,H3 b=some o->b≠aa->upd H3 aa (.lst [.int ((k.m:Nat):Int),.int x,.ref l,.ref dn]) b=some o:=λb o e n=>by rw[B8 n];exact e
    have nla:l≠aa:=λz=>nlaa z
    refine⟨λb o e=>f _ _ (sH _ _ e) (λz=>by rw[z,aan] at e;cases e),⟨l,ug,B6,aan,ln,f _ _ el1 nla,G3 t2'⟩,kvs,f _ _ edn nal.symm,kv3.mv λb xs e=>f _ _ e λz=>?_⟩
    rw[z,eaa] at e;cases e
   rintro σ' H4 ⟨rfl,sH4,fin⟩
   refine⟨fun σ' H'=>σ'=[some (.ref a),some (.ref ad),some (.str "refill"),some (.ref al),some (.ref dn),some (.ref aa)]/\H4=H',?_,?_⟩
   ·refine⟨_,rfl,rfl,_,rfl,?_⟩
    rw[show decide (V.str "refill" = V.str "aim")=false from decide_eq_false (DD)]
    exact C7 ⟨rfl,rfl⟩
   rintro σ' _ ⟨rfl,rfl⟩
   exact⟨_,rfl,told aa dn H4 fin hdn sH4⟩
  | aim x=>
   have t1:ThV TT0 H v1 (.str "aim"):=t1
   cases t1
   obtain⟨u1,rfl,c1⟩:=a9 tul
   obtain⟨ag,uag,rfl,_,eag,tag⟩:=K9 c1
   refine⟨fun σ' H'=>σ'=[some (.ref a),some (.ref ad),some (.str "aim"),some (.ref al),some (.ref dn),some (.ref aa)]/\H3=H',?_,?_⟩
   ·refine⟨_,rfl,rfl,_,rfl,?_⟩
    rw[show decide (V.str "aim" = V.str "lay")=false from decide_eq_false (DD)]
    exact C7 ⟨rfl,rfl⟩
   rintro σ' _ ⟨rfl,rfl⟩
   refine⟨fun σ' H'=>σ'=[some (.ref a),some (.ref ad),some (.str "aim"),some (.ref al),some (.ref dn),some (.ref aa)]/\H3=H',?_,?_⟩
   ·refine⟨_,rfl,rfl,_,rfl,?_⟩
    rw[show decide (V.str "aim" = V.str "lift")=false from decide_eq_false (DD)]
    exact C7 ⟨rfl,rfl⟩
   rintro σ' _ ⟨rfl,rfl⟩
   refine⟨fun σ' H'=>σ'=[some (.ref a),some (.ref ad),some (.str "aim"),some (.ref al),some (.ref dn),some (.ref aa)]/\H3=H',?_,?_⟩
   ·refine⟨_,rfl,rfl,_,rfl,?_⟩
    rw[show decide (V.str "aim" = V.str "turn")=false from decide_eq_false (DD)]
    exact C7 ⟨rfl,rfl⟩
   rintro σ' _ ⟨rfl,rfl⟩
   refine⟨fun σ' H'=>σ'=[some (.ref a),some (.ref ad),some (.str "aim"),some (.ref al),some (.ref dn),some (.ref aa)]/\H3=H',?_,?_⟩
   ·refine⟨_,rfl,rfl,_,rfl,?_⟩
    rw[show decide (V.str "aim" = V.str "refill")=false from decide_eq_false (DD)]
    exact C7 ⟨rfl,rfl⟩
   rintro σ' _ ⟨rfl,rfl⟩
   refine⟨fun σ' H'=>σ'=[some (.ref a),some (.ref ad),some (.str "aim"),some (.ref al),some (.ref dn),some (.ref aa)]/\Same H H'/\O6 (λb=>H b=none) H' aa dn k.m k.st x k.kws,?_,?_⟩
   ·refine⟨_,rfl,rfl,_,rfl,?_⟩
    rw[show decide (V.str "aim" = V.str "aim")=true from decide_eq_true rfl]
    refine G0 ?_
    refine⟨_,rfl,al,_,_,_,rfl,rfl,SqL.of el3,rfl,ag,uag,rfl,.inl (SqL.of (sH _ _ eag)),λl5 hl5=>?_⟩
    have s5:=Same.upd (o:=.lst uag) hl5
    refine⟨_,rfl,aa,_,_,2,rfl,rfl,s5 _ _ eaa,rfl,rfl,?_⟩
    have f:∀b o,upd H3 l5 (.lst uag) b=some o->b≠aa->upd (upd H3 l5 (.lst uag)) aa (.lst [.int ((k.m:Nat):Int),.int k.st,.ref l5,.ref dn]) b=some o:=λb o e n=>by rw[B8 n];exact e
    have nla:l5≠aa:=λz=>by rw[z,eaa] at hl5;cases hl5
    refine⟨λb o e=>f _ _ (s5 _ _ (sH _ _ e)) (λz=>by rw[z,aan] at e;cases e),⟨l5,uag,B6,aan,sH.early hl5,f _ _ B6 nla,G3 tag⟩,kvs,f _ _ (s5 _ _ edn) nal.symm,(kv3.mv λb xs e=>s5 _ _ e).mv λb xs e=>f _ _ e λz=>?_⟩
    rw[z,s5 _ _ eaa] at e;cases e
   rintro σ' H4 ⟨rfl,sH4,fin⟩
   exact⟨_,rfl,told aa dn H4 fin hdn sH4⟩
end
def T7 (x0:Int) (j:Nat):Int:=(x0 - 1 + ((j:Nat):Int)) % 1000000000000000000 + 1
theorem D47 (x0:Int) (j:Nat):T7 x0 (j + 1)=T7 x0 j % 1000000000000000000 + 1:=by unfold T7;lia
theorem D48 (x0:Int) (j:Nat):a8 (T7 x0 j):=by unfold T7 a8;lia
theorem D49 {x0:Int} (h:a8 x0):T7 x0 0=x0:=by unfold a8 at h;unfold T7;lia
theorem D5a {x0:Int} {i j:Nat} (hi:i<=1000) (hj:j<=1000) (h:T7 x0 i=T7 x0 j):i=j:=by unfold T7 at h;lia
theorem C3j {α:Type} [BEq α] [LawfulBEq α]:∀{l k:List α},l.Nodup->(∀x∈l,x∈k)->l.length<=k.length
 | [],_,_,_=>O7 _
 | x::t,k,nd,h=>by
  have hx:=h x D9
  obtain⟨nx,nt⟩:=A8r.mp nd
  have:=C3j (k:=k.erase x) nt λy hy=>(List.mem_erase_of_ne (λz=>nx (by rw[<-z];exact hy))).mpr (h y (D3 _ hy))
  rw[List.length_erase_of_mem hx] at this
  have:0 < k.length:=List.length_pos_of_mem hx
  rw[J8];lia
theorem D5b {x0:Int} {ks:List Int} {j:Nat} (hj:j<=1000) (h:∀i,i < j->T7 x0 i∈ks):j<=ks.length:=by
 have:=C3j (l:=(T8 j).map (T7 x0)) (k:=ks) ?_ λx hx=>?_
 ·rw[C6,j7] at this;exact this
 ·refine List.pairwise_map.mpr ?_
  refine List.Pairwise.imp_of_mem (λ{a b} ha hb n z=>?_) (List.nodup_range (n:=j))
  exact n (D5a (by have:=p5.mp ha;lia) (by have:=p5.mp hb;lia) z)
 ·obtain⟨i,hi,rfl⟩:=S5.mp hx
  exact h i (p5.mp hi)
def G7 (n:Nat) (d:PyData):Prop:=d.canLay0=true/\d.depth<=n
theorem G7.all {n:Nat}:∀{ds:List PyData},(∀d∈ds,G7 n d)->PyData.canLayAll0 ds=true/\PyData.depthAll ds<=n
 | [],_=>⟨rfl,O7 _⟩
 | d::ds,h=>by
  obtain⟨a,b⟩:=G7.all λx hx=>h x (D3 _ hx)
  obtain⟨a1,b1⟩:=h d D9
  constructor
  ·show (PyData.canLay0 d&&PyData.canLayAll0 ds)=true
   rw[a,a1];rfl
  ·show max (PyData.depth d) (PyData.depthAll ds)<=n
   lia
theorem G7.lst {n:Nat} {ds:List PyData} (h:∀d∈ds,G7 n d):G7 (n + 1) (.list ds):=by
 obtain⟨a,b⟩:=G7.all h
 refine⟨by rw[PyData.canLay0];exact a,?_⟩
 show PyData.depthAll ds + 1<=n + 1
 lia
theorem G7.tup {n:Nat} {ds:List PyData} (h:∀d∈ds,G7 n d):G7 (n + 1) (.tuple ds):=by
 obtain⟨a,b⟩:=G7.all h
 refine⟨by rw[PyData.canLay0];exact a,?_⟩
 show PyData.depthAll ds + 1<=n + 1
 lia
theorem G7.int {n:Nat} (i:Int):G7 n (.int i):=⟨rfl,O7 _⟩
theorem G7.o {n:Nat} (o:Option Int):G7 n (oD o):=by cases o <;> exact⟨rfl,O7 _⟩
theorem G7.tab (t:Tb):G7 1 (.list (B7 t)):=G7.lst λd hd=>by
 unfold B7 at hd
 obtain⟨o,_,rfl⟩:=S5.mp hd
 exact .o o
theorem G7.way (w:Wy):G7 1 (K7 w):=G7.tup λd hd=>by
 rcases N3.mp hd with rfl | hd
 ·exact .int _
 rcases N3.mp hd with rfl | hd
 ·exact .int _
 rw[A1h.mp hd];exact .int _
theorem G7.land (m:Nat) (ws:List Wy):G7 3 (E8 m ws):=G7.tup λd hd=>by
 rcases N3.mp hd with rfl | hd
 ·exact .int _
 rw[A1h.mp hd]
 exact G7.lst λd hd=>by
  obtain⟨w,_,rfl⟩:=S5.mp hd
  exact .way w
theorem G7.dep {n:Nat} {a:PyData} (h:G7 n a) (l:n<=64) (b:PyData):min a.depth b.depth<=64:=by have:=h.2;lia
theorem G7.same {n:Nat} {a:PyData} (h:G7 n a):PyData.eqv a a=true:=PySem.SeqAt.eqv_refl _ h.1
def D5c:Sp:=λvs H Q _=>∃(F:Addr->Prop) (hd hl a dc:Addr) (k:Kst) (sc mo:Int),vs=[.ref hd,.ref a,.int sc,.int mo]/\Hd H hd hl/\(∀b,F b->b≠hd)/\O6 F H a dc k.m k.st k.g k.kws/\KOk k.m k.st k.g k.kws/\(0<=sc/\sc<=1000000000000000000)/\(0<=mo/\mo<=10000000000000000000)/\
 ∀dd v H',A0d k dd->(B2n dd->k.kws.length < 8)->ThV (λb=>b≠hd) H' v (B2p dd)->(∀b o,H b=some o->b≠hd->H' b=some o)->Hd H' hd hl->Q v H'
theorem C3k {F:Addr->Prop} {H:Hp}:∀xs:List Int,B2 F H (xs.map V.int) (xs.map PyData.int)
 | []=>.nil
 | x::xs=>.cons (.int _) (C3k xs)
theorem G7.ints (ns:List Int):G7 1 (.list (ns.map PyData.int)):=G7.lst λd hd=>by
 obtain⟨n,_,rfl⟩:=S5.mp hd
 exact⟨rfl,O7 _⟩
theorem B6z {c:TT} {t u:TS} {D:j9} {σ:St} {H:Hp} (good:Bool->Hp->Prop) (h:∀Qx:Bool->Hp->Prop,(∀b H2,good b H2->Qx b H2)->c σ H Qx) (h2:∀b H2,good b H2->if b=true then t D σ H2 else u D σ H2):B7t c t u D σ H:=h _ h2
section
variable {P:Program} {w:World} {K:A9} {mg:Str->Option Value} {base:Heap}
theorem D5d (T:Txt K mg):C1 P w K mg base CX0 6 T.eM.a T.eM.d ["_law_hand_here", "_law_state_here", "_law_scale_here", "_law_most"] D5c:=by
 have ai:=@A1w P w K mg base T
 have aj:=T.ah.b
 have gH:=@C3d P w K mg base T
 have gJ:=T.ba.b
 have je:=@C3e P w K mg base T
 have jf:=T.bu.b
 refine T.eM.F.ok A23 (λvs H Q E h=>?_) (λcdv A outer s H vs Q E hr h=>?_)
 ·obtain⟨F,hd,hl,a,dc,k,sc,mo,rfl,_⟩:=h
  rfl
 ·obtain⟨F,hd,hl,a,dc,k,sc,mo,rfl,hh,hF,sa,ok,hsc,hmo,told⟩:=h
  obtain⟨⟨gl,ug,e1,f1,f2,e2,t2⟩,kvs,e3,kv⟩:=sa
  refine⟨_,(B9 (C0 (i:=4) A23.nd rfl (B3 rfl) (B0 ai (hr.mono DD) rfl T.ah.m T.ah.F.kp aj .nil A7 (A1 (pv 0) (A1 A8 A5 E6) A0) (he:=A0) (hpl:=(A4 E6 A3))))
   (B9 (C0 (i:=5) A23.nd rfl (B3 rfl) (E9 (A66 rfl) rfl T.cx A54 (A1 (C4 D2 (pv 1) A8 (λ_ _=>rfl)) A5 A6) (he:=A6) (hpl:=A3)))
   (B9 (M5 (K1 (PW.pt (A0r (PW.pt (A82 (J3 T2 (pv 4) A8 (C8 _)) (A81 (J3 T2 (E9 U0 rfl T.aN T3 (A1 (pv 5) A5 A0) (he:=A0) (hpl:=A3)) A8 (C8 _))))) (A14 (PW.pt (A82 (J3 (A2b (K2 hr)) (pv 5) (U9 A5) (C8 _)) (A81 (J3 T2 (pv 4) A8 (C8 _))))))))
   (B9 (C0 (i:=6) A23.nd rfl (B3 rfl) (C4 D2 (U9 (A1 (J2 K5 A8 (B0 ai (hr.mono DD) rfl T.ah.m T.ah.F.kp aj .nil A7 (A1 (pv 0) (A1 A8 A5 E6) A0) (he:=A0) (hpl:=(A4 E6 A3)))) (A1 (J2 K5 A8 (B0 ai (hr.mono DD) rfl T.ah.m T.ah.F.kp aj .nil A7 (A1 (pv 0) (A1 (J2 Z0 A8 A8) A5 F4) A0) (he:=A0) (hpl:=(A4 F4 A3)))) A5 F4) F4)) (B0 ai (hr.mono DD) rfl T.ah.m T.ah.F.kp aj .nil A7 (A1 (pv 0) (A1 A8 A5 E6) A0) (he:=A0) (hpl:=(A4 E6 A3))) (λ_ _=>rfl)))
   (B9 (A15 V5 (B3b (C07 (u1 (K2 hr)) (pv 6) (C4 D2 (pv 1) A8 (λ_ _=>rfl))))
   (D7 (C0 (i:=6) A23.nd rfl (B3 rfl) (J2 K5 (J2 A0u (pv 6) (J2 Z0 A8 A8)) A8))))
   (B9 (C0 (i:=7) A23.nd rfl (B3 rfl) (B0 ai (hr.mono DD) rfl T.ah.m T.ah.F.kp aj .nil A7 (A1 (pv 0) (A1 (C4 D2 (pv 1) A8 (λ_ _=>rfl)) A5 A6) A0) (he:=A0) (hpl:=(A4 A6 A3))))
   (B9 (C0 (i:=8) A23.nd rfl (B3 rfl) (C4 D2 (U9 (A1 (B0 ai (hr.mono DD) rfl T.ah.m T.ah.F.kp aj .nil A7 (A1 (pv 0) (A1 (C4 D2 (pv 1) A8 (λ_ _=>rfl)) A5 A6) A0) (he:=A0) (hpl:=(A4 A6 A3))) (A1 (J2 A0u (J2 K5 (pv 7) A8) (C4 D2 (pv 1) A8 (λ_ _=>rfl))) A5 F4) D4)) (B0 ai (hr.mono DD) rfl T.ah.m T.ah.F.kp aj .nil A7 (A1 (pv 0) (A1 A8 A5 E6) A0) (he:=A0) (hpl:=(A4 E6 A3))) (λ_ _=>rfl)))
   (D7 (F7 (R8 (A1 Y7 (A1 (U9 (A1 (pv 6) (A1 (pv 7) (A1 (pv 8) (A1 (B0 gH (hr.mono DD) rfl T.ba.m T.ba.F.kp gJ .nil A7 (A1 (pv 0) (A1 (pv 2) A5 A0) A0) (he:=A0) (hpl:=(A4 A0 A3))) A5 D4) A0) A0) A0)) A5 l6) E6))))))))
   K4))
   (B9 (M5 (K1 (J3 T2 (pv 4) A8 (C8 _))
   (D7 (F7 (R8 (A1 Y7 (A1 (U9 (A1 (C4 D2 (pv 5) (B0 ai (hr.mono DD) rfl T.ah.m T.ah.F.kp aj .nil A7 (A1 (pv 0) (A1 (E9 U0 rfl T.aN T3 (A1 (pv 5) A5 A0) (he:=A0) (hpl:=A3)) A5 D4) A0) (he:=A0) (hpl:=(A4 D4 A3))) (λ_ _=>rfl)) A5 A6)) A5 l6) E6))))
   K4))
   (B9 (M5 (K1 (J3 T2 (pv 4) A8 (C8 _))
   (D7 (F7 (R8 (A1 Y7 (A1 (U9 (A1 (C4 D2 (pv 5) (B0 ai (hr.mono DD) rfl T.ah.m T.ah.F.kp aj .nil A7 (A1 (pv 0) (A1 (E9 U0 rfl T.aN T3 (A1 (pv 5) A5 A0) (he:=A0) (hpl:=A3)) A5 D4) A0) (he:=A0) (hpl:=(A4 D4 A3))) (λ_ _=>rfl)) (A1 (B0 gH (hr.mono DD) rfl T.ba.m T.ba.F.kp gJ .nil A7 (A1 (pv 0) (A1 (pv 2) A5 A0) A0) (he:=A0) (hpl:=(A4 A0 A3))) A5 D4) A6)) A5 l6) E6))))
   K4))
   (B9 (M5 (K1 (J3 b7 (pv 4) A8 (C8 _))
   (B9 (C0 (i:=9) A23.nd rfl (B3 rfl) (E9 (C7b rfl) rfl T.dP A2c (A1 (J2 B8y (U9 (A1 A8 A5 E6)) (W8 (Q0.new (N:=["_law_hand_here", "_law_state_here", "_law_scale_here", "_law_most", "_law_way", "_law_labels", "_law_label", "_law_start", "_law_end", "_law_low"]) (osc:=B1 B1z) KK) rfl (A0s (C4 D2 (pv 1) A8 (λ_ _=>rfl))) (λ_=>(B3u (J3 A3m (pv 10) A0p (C8 _)))) (λ_=>(pv 10)))) A5 F4) (he:=F4) (hpl:=A3)))
   (D7 (F7 (R8 (A1 Y7 (A1 (U9 (A1 (J2 K5 (pv 9) (B0 ai (hr.mono DD) rfl T.ah.m T.ah.F.kp aj .nil A7 (A1 (pv 0) (A1 (E9 (A50 rfl) rfl T.dP A2c (A1 A8 (A1 (J2 A0t (J2 K5 (pv 3) A8) (pv 9)) A5 F4) E6) (he:=E6) (hpl:=(A4 F4 A3))) A5 D4) A0) (he:=A0) (hpl:=(A4 D4 A3)))) A5 F4)) A5 l6) E6)))))
   K4))
   (D7 (F7 (R8 (A1 Y7 (A1 (U9 (A1 (B0 je (hr.mono DD) rfl T.bu.m T.bu.F.kp jf .nil A7 (A1 (pv 0) (A1 (C4 D2 (pv 1) A8 (λ_ _=>rfl)) (A1 (C4 D2 (pv 1) A8 (λ_ _=>rfl)) A5 A6) A6) A0) (he:=A0) (hpl:=(A4 A6 (A4 A6 A3)))) A5 D4)) A5 l6) E6)))))))))),?_⟩
  try dsimp only[N6,Cx.nox]
  have drw:∀(n:Int) (Hx:Hp) (Qv:VK),0 < n->n < 100000000000000000000000000000000000000->Hd Hx hd hl->(∀r Hy,0<=r->r < n->(∀b o,Hx b=some o->b≠hd->Hy b=some o)->Hd Hy hd hl->Qv (.int r) Hy)->spD [.hd,.sh] A9z [.ref hd,.int n] Hx Qv E0:=λn Hx Qv n0 n1 hx q=>
   j4 (E:=E0) (λd=>∃r:Int,(0<=r/\r < n)/\d=.int r) hx (.cons (.int _) .nil) ⟨n,rfl,n0,OO,λr r0 r1=>⟨r,⟨r0,r1⟩,rfl⟩⟩ λd v Hy hd' tv ky hy=>by
    obtain⟨r,⟨r0,r1⟩,rfl⟩:=hd'
    cases tv
    exact q r Hy r0 r1 (λb o e n=>ky b o e λq hq=>by cases hq;exact n) hy
  have chg:∀(Hx:Hp) (Qv:VK),Hd Hx hd hl->(∀r Hy,-1000000000000000000<=r->r<=1000000000000000000->(∀b o,Hx b=some o->b≠hd->Hy b=some o)->Hd Hy hd hl->Qv (.int r) Hy)->spD [.hd,.sh] B6y [.ref hd,.int sc] Hx Qv E0:=λHx Qv hx q=>
   j4 (E:=E0) (λd=>∃r:Int,(-1000000000000000000<=r/\r<=1000000000000000000)/\d=.int r) hx (.cons (.int _) .nil) ⟨_,sc,rfl,hsc.1,hsc.2,λr r0 r1=>⟨r,⟨OO,OO⟩,rfl⟩⟩ λd v Hy hd' tv ky hy=>by
    obtain⟨r,⟨r0,r1⟩,rfl⟩:=hd'
    cases tv
    exact q r Hy r0 r1 (λb o e n=>ky b o e λq hq=>by cases hq;exact n) hy
  have fin:∀(dd:S4) (us:List V) (Hx:Hp) (q1 q2:Addr),A0d k dd->(B2n dd->k.kws.length < 8)->B2 (λb=>b≠hd) Hx us dd.args->Hx q1=none->upd Hx q1 (.lst us) q2=none->Hd Hx hd hl->(∀b o,H b=some o->b≠hd->Hx b=some o)->Q (.ref q2) (upd (upd Hx q1 (.lst us)) q2 (.tup [.str dd.word,.ref q1])):=λdd us Hx q1 q2 dok il tus n1 n2 hx kx=>by
   have s1:Same Hx (upd Hx q1 (.lst us)):=Same.upd n1
   have s2:=Same.upd (o:=.tup [.str dd.word,.ref q1]) n2
   have s12:=s1.tr s2
   obtain⟨oh,eh⟩:∃o,Hx hd=some o:=by
    obtain⟨_,_,_,_,_,_,_,_,e⟩:=hx
    exact⟨_,e⟩
   refine told dd (.ref q2) _ dok il (.tup (λz=>?_) B6 (.cons (.str _) (.cons (.lst (λz=>?_) (s2 _ _ B6) ((tus.keep s1).keep s2)) .nil))) (λb o e n=>s12 _ _ (kx b o e n)) (hx.same s12)
   ·rw[z,s1 _ _ eh] at n2;cases n2
   ·rw[z,eh] at n1;cases n1
  have few:=ok.few
  have m1:=ok.m1
  have m2:=ok.m2
  have lk:(B5 k.kws).length < 64:=by unfold B5;rw[C6];lia
  have nea:=hF _ f1
  refine⟨_,rfl,j4 (E:=E0) (λd=>∃u:Int,(0<=u/\u < 8)/\d=.int u) hh (.cons (.int _) .nil) ⟨8,rfl,DD,DD,λu u0 u1=>⟨u,⟨u0,u1⟩,rfl⟩⟩ λd v Ha hd' tv ka ha=>?_⟩
  obtain⟨u,⟨u0,u8⟩,rfl⟩:=hd'
  cases tv
  have kH:∀b o,H b=some o->b≠hd->Ha b=some o:=λb o e n=>ka b o e λq hq=>by cases hq;exact n
  have ndc:dc≠hd:=λz=>by
   obtain⟨_,_,_,_,_,_,_,_,e⟩:=hh
   rw[z,e] at e3;cases e3
  refine⟨_,rfl,a,_,_,_,rfl,rfl,SqL.of (kH _ _ e1 nea),rfl,dc,kvs,_,rfl,kH _ _ e3 ndc,kv.keys,lk,λl1 ms hl1 hp hs=>?_⟩
  have ems:=A5g hp hs
  subst ems
  obtain⟨H1,hH1⟩:∃H1,H1=upd Ha l1 (.lst ((srt (B5 k.kws)).map V.int)):=⟨_,rfl⟩
  rw[<-hH1]
  have s1:Same Ha H1:=by rw[hH1];exact Same.upd hl1
  have el1:H1 l1=some (.lst ((srt (B5 k.kws)).map V.int)):=by rw[hH1];exact B6
  have h1:=ha.same s1
  have nl1:l1≠hd:=λz=>by
   obtain⟨_,_,_,_,_,_,_,_,e⟩:=ha
   rw[z,e] at hl1;cases hl1
  clear hH1 hp hs
  have lsr:(srt (B5 k.kws)).length=k.kws.length:=by rw[(Z9 _).length_eq];unfold B5;rw[C6]
  have k1:∀b o,H b=some o->b≠hd->H1 b=some o:=λb o e n=>s1 _ _ (kH b o e n)
  clear kH ka ha s1
  refine⟨fun σ' H'=>σ'=[some (.ref hd),some (.ref a),some (.int sc),some (.int mo),some (.int u),some (.ref l1),none,none,none,none]/\Same H1 H'/\(u < 6->srt (B5 k.kws)≠[]),?_,?_⟩
  ·refine B6z (λb H2=>Same H1 H2/\(b=true->k.kws.length < 8)/\(b=false->u < 6->srt (B5 k.kws)≠[])) (λQx hQ=>?_) (λb H2 hb=>?_)
   ·-- the test
    have tl:∀H2,Same H1 H2->ThV TT0 H2 (.ref l1) (.list ((srt (B5 k.kws)).map PyData.int)):=λH2 s2=>.lst trivial (s2 _ _ el1) (C3k _)
    have snd:(¬ (u < 4/\k.kws.length < 8))->B7o (B0w (tOp (B04 K false) (U7 5) (B8c g7))) (B0w (tOp (rI0 λi j=>V.bl (decide (i < j))) (U7 4) (tC (V.int 6)))) [some (.ref hd),some (.ref a),some (.int sc),some (.int mo),some (.int u),some (.ref l1),none,none,none,none] H1 Qx:=λhn=>by
     refine⟨_,rfl,by show 0<=sizeLine;decide,λt ht=>?_⟩
     have s2:Same H1 (upd H1 t (.lst [])):=Same.upd ht
     have L1:=G7.ints (srt (B5 k.kws))
     have L0:G7 1 (.list []):=G7.lst λd hd=>by cases hd
     refine⟨_,_,ThV.dat (tl _ s2) L1.1,ThV.dat (F:=TT0) (.lst trivial B6 .nil) L0.1,L1.1,L0.1,L1.dep DD _,_,rfl,?_⟩
     cases e:srt (B5 k.kws) with
     | nil=>
      rw[A8s,L0.same]
      refine G0 ⟨_,rfl,_,_,rfl,rfl,_,rfl,?_⟩
      have z0:k.kws.length=0:=by rw[<-lsr,e];rfl
      by_cases c6:u < 6
      ·rw[decide_eq_true c6]
       exact hQ true _ ⟨s2,λ_=>OO,λz=>by cases z⟩
      ·rw[decide_eq_false c6]
       exact hQ false _ ⟨s2,(λz=>by cases z),λ_ z=>absurd z c6⟩
     | cons x xs=>
      rw[show PyData.eqv (.list ((x::xs).map PyData.int)) (.list [])=false from rfl]
      exact C7 (hQ false _ ⟨s2,(λz=>by cases z),λ_ _ z=>by rw[e] at z;cases z⟩)
    refine⟨_,rfl,_,_,rfl,rfl,_,rfl,?_⟩
    by_cases c4:u < 4
    ·rw[decide_eq_true c4]
     refine G0 ⟨_,rfl,l1,_,rfl,.inl (SqL.of el1),_,_,rfl,rfl,_,rfl,?_⟩
     rw[C6,lsr]
     by_cases c8:k.kws.length < 8
     ·rw[decide_eq_true (show ((k.kws.length:Nat):Int) < 8 by lia)]
      exact G0 (hQ true H1 ⟨λ_ _ e=>e,λ_=>c8,λz=>by cases z⟩)
     ·rw[decide_eq_false (show ¬ ((k.kws.length:Nat):Int) < 8 by lia)]
      exact C7 (snd λz=>c8 z.2)
    ·rw[decide_eq_false c4]
     exact C7 (C7 (snd λz=>c4 z.1))
   ·obtain⟨s2,g1,g2⟩:=hb
    cases b with
    | false=>exact C7 ⟨rfl,s2,g2 rfl⟩
    | true=>
    refine G0 ?_
    have c8:=g1 rfl
    have h2:=h1.same s2
    have k2:∀b o,H b=some o->b≠hd->H2 b=some o:=λb o e n=>s2 _ _ (k1 b o e n)
    clear g1 g2
    refine⟨_,rfl,drw 12 H2 _ DD DD h2 λr1 H3 r10 r11 k3 h3=>?_⟩
    refine⟨_,_,rfl,rfl,_,rfl,_,_,rfl,rfl,⟨DD,DD,DD⟩,?_⟩
    refine drw 1000000000000000000 H3 _ DD DD h3 λr2 H4 r20 r21 k4 h4=>?_
    refine⟨_,_,rfl,rfl,by show 2<=sizeLine;decide,λlx hlx=>?_⟩
    have s5:Same H4 _:=Same.upd (o:=.lst [.int (1 + r1),.int (1 + r2)]) hlx
    refine⟨_,rfl,drw 2 _ _ DD DD (h4.same s5) λr3 H5 r30 r31 k5 h5=>?_⟩
    have elx:=k5 _ _ (B6 (H:=H4) (a:=lx)) (λz=>by
     obtain⟨_,_,_,_,_,_,_,_,e⟩:=h4
     rw[z,e] at hlx;cases hlx)
    obtain⟨x0,hx0,lx0⟩:∃x0,atI [V.int (1 + r1),V.int (1 + r2)] r3=some (V.int x0)/\a8 x0:=by
     unfold a8
     rcases lt2 r30 r31 with rfl | rfl
     ·exact⟨_,rfl,OO,OO⟩
     ·exact⟨_,rfl,OO,OO⟩
    refine⟨lx,_,_,_,rfl,rfl,SqL.of elx,hx0,?_⟩
    have kh5:∀b o,H b=some o->b≠hd->H5 b=some o:=λb o e n=>k5 _ _ (s5 _ _ (k4 _ _ (k3 _ _ (k2 b o e n) n) n)) n
    clear k5 k4 k3 k2 s5 elx hlx h4 h3 h2 s2
    refine⟨λn σ Hn=>∃j:Nat,j + n=k.kws.length/\σ=[some (.ref hd),some (.ref a),some (.int sc),some (.int mo),some (.int u),some (.ref l1),some (.int (T7 x0 j)),none,none,none]/\Hn=H5/\∀i,i < j->T7 x0 i∈B5 k.kws,?_,?_⟩
    ·exact⟨k.kws.length,0,OO,by rw[D49 lx0];rfl,rfl,λi hi=>absurd hi (Nat.not_lt_zero _)⟩
    rintro n σ Hn ⟨j,hj,rfl,rfl,hall⟩
    refine⟨_,rfl,_,rfl,a,_,_,_,rfl,rfl,SqL.of (kh5 _ _ e1 nea),rfl,dc,_,rfl,U5.k (k:=Sum.inl (T7 x0 j)) (kh5 _ _ e3 ndc),_,rfl,?_⟩
    rcases kv.val (T7 x0 j) with ⟨hv,hn⟩ | ⟨v0,w0,hv,hw,_⟩
    ·rw[hv]
     refine C7 ?_
     have lok:=D48 x0 j
     refine⟨_,rfl,_,rfl,a,_,_,_,rfl,rfl,SqL.of (kh5 _ _ e1 nea),rfl,drw _ _ _ OO OO h5 λr4 H6 r40 r41 k6 h6=>?_⟩
     have e16:=k6 _ _ (kh5 _ _ e1 nea) nea
     refine⟨_,rfl,_,rfl,a,_,_,_,rfl,rfl,SqL.of e16,rfl,drw _ _ _ OO OO h6 λr5 H7 r50 r51 k7 h7=>?_⟩
     have e17:=k7 _ _ e16 nea
     refine⟨_,rfl,_,_,rfl,rfl,_,rfl,a,_,_,_,rfl,rfl,SqL.of e17,rfl,_,_,rfl,rfl,OO,by show 2<=sizeLine;decide,λly hly=>?_⟩
     have s8:Same H7 _:=Same.upd (o:=.lst [.int r5,.int ((r4 + 1) % ((k.m:Nat):Int))]) hly
     refine⟨_,rfl,drw 2 _ _ DD DD (h7.same s8) λr6 H8 r60 r61 k8 h8=>?_⟩
     have ely:=k8 _ _ (B6 (H:=H7) (a:=ly)) (λz=>by
      obtain⟨_,_,_,_,_,_,_,_,e⟩:=h7
      rw[z,e] at hly;cases hly)
     obtain⟨en,hen,en0,en1⟩:∃en,atI [V.int r5,V.int ((r4 + 1) % ((k.m:Nat):Int))] r6=some (V.int en)/\0<=en/\en < ((k.m:Nat):Int):=by
      rcases lt2 r60 r61 with rfl | rfl
      ·exact⟨_,rfl,OO,OO⟩
      ·exact⟨_,rfl,B26 _ OO,B7k _ OO⟩
     refine⟨ly,_,_,_,rfl,rfl,SqL.of ely,hen,?_⟩
     have kh8:∀b o,H b=some o->b≠hd->H8 b=some o:=λb o e n=>k8 _ _ (s8 _ _ (k7 _ _ (k6 _ _ (kh5 b o e n) n) n)) n
     clear k6 k7 k8 s8 ely hly
     refine⟨_,rfl,_,rfl,_,rfl,_,rfl,_,rfl,chg H8 _ h8 λc H9 c0 c1 k9 h9=>⟨by show 4<=sizeLine;decide,λq1 hq1=>⟨by show 2<=sizeLine;decide,λq2 hq2=>?_⟩⟩⟩
     refine fin (.lay (T7 x0 j) (r4.toNat,en.toNat,c)) [.int (T7 x0 j),.int r4,.int en,.int c] H9 q1 q2 ⟨lok,hn,⟨by show r4.toNat < k.m;lia,by show en.toNat < k.m;lia,c0,c1⟩,OO⟩ (λ_=>c8) ?_ hq1 hq2 h9 λb o e n=>k9 _ _ (kh8 b o e n) n
     show B2 _ H9 _ [.int (T7 x0 j),.int ((r4.toNat:Nat):Int),.int ((en.toNat:Nat):Int),.int c]
     rw[C4m r40,C4m en0]
     exact .cons (.int _) (.cons (.int _) (.cons (.int _) (.cons (.int _) .nil)))
    ·rw[hv]
     refine G0 ?_
     refine⟨_,fun σ' H2 h=>h,?_⟩
     have hin:T7 x0 j∈B5 k.kws:=S5.mpr ⟨_,A26 hw,rfl⟩
     have hall':∀i,i < j + 1->T7 x0 i∈B5 k.kws:=λi hi=>by
      rcases Nat.lt_or_ge i j with z | z
      ·exact hall i z
      ·rw[show i=j by lia];exact hin
     have hle:=D5b (j:=j + 1) OO hall'
     rw[show (B5 k.kws).length=k.kws.length by unfold B5;rw[C6]] at hle
     refine⟨_,rfl,_,_,rfl,rfl,⟨DD,DD,DD⟩,_,_,rfl,rfl,(show (0:Int) < 10 ^ Int.toNat 18 by decide),_,_,rfl,rfl,?_⟩
     exact⟨n - 1,OO,j + 1,OO,by rw[D47];rfl,rfl,hall'⟩
  rintro σ' H2 ⟨rfl,s2,g2⟩
  have h2:=h1.same s2
  have k2:∀b o,H b=some o->b≠hd->H2 b=some o:=λb o e n=>s2 _ _ (k1 b o e n)
  have el2:=s2 _ _ el1
  have lpos:u < 6->0 < (srt (B5 k.kws)).length:=λz=>C4j.mpr (g2 z)
  have pick:∀r:Int,0<=r->r < (((srt (B5 k.kws)).map V.int).length:Nat)->∃x,atI ((srt (B5 k.kws)).map V.int) r=some (.int x)/\a8 x/\∃w,G6 k.kws x=some w:=λr r0 r1=>by
   rw[C6] at r1
   have hr1:r.toNat < (srt (B5 k.kws)).length:=by lia
   have hm:=(Z9 (B5 k.kws)).mem_iff.mp (List.getElem_mem hr1)
   obtain⟨w,hw⟩:=A27 hm
   refine⟨(srt (B5 k.kws))[r.toNat],?_,(ok.way _ (A26 hw)).1,w,hw⟩
   have:=c9 (xs:=(srt (B5 k.kws)).map V.int) (j:=r.toNat) (v:=.int ((srt (B5 k.kws))[r.toNat])) (by rw[K3,M4 hr1];rfl)
   rw[C4m r0] at this
   exact this
  clear s2 g2 h1 k1 el1
  refine⟨fun σ' H'=>σ'=[some (.ref hd),some (.ref a),some (.int sc),some (.int mo),some (.int u),some (.ref l1),none,none,none,none]/\H2=H'/\5<=u,?_,?_⟩
  ·refine⟨_,rfl,_,_,rfl,rfl,_,rfl,?_⟩
   by_cases c5:u < 5
   ·rw[decide_eq_true c5]
    have lp:=lpos (OO)
    refine G0 ⟨_,rfl,_,rfl,_,rfl,l1,_,rfl,.inl (SqL.of el2),drw _ _ _ (by rw[C6];lia) (by rw[C6];lia) h2 λr H3 r0 r1 k3 h3=>?_⟩
    obtain⟨x,hx,lx,w0,hw⟩:=pick r r0 r1
    refine⟨l1,_,_,_,rfl,rfl,SqL.of (k3 _ _ el2 nl1),hx,by show 1<=sizeLine;decide,λq1 hq1=>⟨by show 2<=sizeLine;decide,λq2 hq2=>?_⟩⟩
    exact fin (.lift x) [.int x] H3 q1 q2 ⟨lx,w0,hw⟩ (λz=>by obtain⟨_,_,z⟩:=z;cases z) (.cons (.int _) .nil) hq1 hq2 h3 λb o e n=>k3 _ _ (k2 b o e n) n
   ·rw[decide_eq_false c5]
    exact C7 ⟨rfl,rfl,OO⟩
  rintro σ' _ ⟨rfl,rfl,c5⟩
  refine⟨fun σ' H'=>σ'=[some (.ref hd),some (.ref a),some (.int sc),some (.int mo),some (.int u),some (.ref l1),none,none,none,none]/\H2=H'/\6<=u,?_,?_⟩
  ·refine⟨_,rfl,_,_,rfl,rfl,_,rfl,?_⟩
   by_cases c6:u < 6
   ·rw[decide_eq_true c6]
    have lp:=lpos c6
    refine G0 ⟨_,rfl,_,rfl,_,rfl,l1,_,rfl,.inl (SqL.of el2),drw _ _ _ (by rw[C6];lia) (by rw[C6];lia) h2 λr H3 r0 r1 k3 h3=>?_⟩
    obtain⟨x,hx,lx,w0,hw⟩:=pick r r0 r1
    refine⟨l1,_,_,_,rfl,rfl,SqL.of (k3 _ _ el2 nl1),hx,_,rfl,_,rfl,chg H3 _ h3 λc H9 c0 c1 k9 h9=>⟨by show 2<=sizeLine;decide,λq1 hq1=>⟨by show 2<=sizeLine;decide,λq2 hq2=>?_⟩⟩⟩
    exact fin (.turn x c) [.int x,.int c] H9 q1 q2 ⟨⟨lx,w0,hw⟩,c0,c1⟩ (λz=>by obtain⟨_,_,z⟩:=z;cases z) (.cons (.int _) (.cons (.int _) .nil)) hq1 hq2 h9 λb o e n=>k9 _ _ (k3 _ _ (k2 b o e n) n) n
   ·rw[decide_eq_false c6]
    exact C7 ⟨rfl,rfl,OO⟩
  rintro σ' _ ⟨rfl,rfl,c6⟩
  refine⟨fun σ' H'=>(∃z9,σ'=[some (.ref hd),some (.ref a),some (.int sc),some (.int mo),some (.int u),some (.ref l1),none,none,none,z9])/\H2=H',?_,?_⟩
  ·refine⟨_,rfl,rfl,_,rfl,?_⟩
   by_cases c7:u=6
   ·subst c7
    rw[show decide (V.int 6=V.int 6)=true from decide_eq_true rfl]
    refine G0 ?_
    have lug:ug.length=k.m:=by rw[t2.len,Y5];exact ok.gt.len
    refine⟨by show 1<=sizeLine;decide,λb0 hb0=>?_⟩
    obtain⟨H3,hH3⟩:∃H3,H3=upd H2 b0 (.lst [.int 0]):=⟨_,rfl⟩
    rw[<-hH3]
    have s3:Same H2 H3:=by rw[hH3];exact Same.upd hb0
    have eb0:H3 b0=some (.lst [.int 0]):=by rw[hH3];exact B6
    clear hH3
    have neg:=hF _ f2
    refine⟨_,rfl,a,_,_,_,rfl,rfl,SqL.of (s3 _ _ (k2 _ _ e1 nea)),rfl,gl,rfl,⟨ug,SqL.of (s3 _ _ (k2 _ _ e2 neg))⟩,?_⟩
    refine A53 (xs:=ug) (λi ys Hn=>Hn=H3/\ys=((k.g.take i).filterMap id).map V.int) ?_ ⟨rfl,rfl⟩ ?_ ?_ ?_
    ·rw[lug,sizeLine_eq];lia
    ·rintro i ys Hn hi ⟨rfl,rfl⟩
     refine⟨?_,SqL.of (s3 _ _ (k2 _ _ e2 neg))⟩
     rw[C6]
     exact b3 (List.length_filterMap_le _ _) (by rw[j6];lia)
    ·rintro i x ys Hn hx ⟨rfl,rfl⟩ ca
     obtain⟨d,hd',tx⟩:=A5e t2 hx
     unfold B7 at hd'
     rw[K3] at hd'
     obtain⟨o,ho,rfl⟩:=A3h.mp hd'
     rw[A8w,ho,List.filterMap_append,R7]
     cases o with
     | none=>
      cases (show ThV TT0 H x .none from tx)
      refine⟨_,rfl,rfl,_,rfl,?_⟩
      rw[show (!decide (V.non=V.non))=false by rw[decide_eq_true rfl];rfl]
      exact C7 ⟨rfl,by rw[show (Option.toList (some (none:Option Int))).filterMap id=[] from rfl,A8s,A1f]⟩
     | some y=>
      cases (show ThV TT0 H x (.int y) from tx)
      refine⟨_,rfl,rfl,_,rfl,?_⟩
      rw[show (!decide (V.int y=V.non))=true by rw[decide_eq_false (λz=>by cases z)];rfl]
      exact G0 ⟨_,rfl,rfl,rfl⟩
    rintro ys Hn ⟨rfl,rfl⟩ b1 hb1
    rw[lug,B22 (by rw[ok.gt.len];exact F9 _)]
    obtain⟨lv,hlv⟩:∃lv,lv=k.g.filterMap id:=⟨_,rfl⟩
    rw[<-hlv]
    have llv:lv.length<=12:=by rw[hlv];exact b3 (List.length_filterMap_le _ _) (by rw[ok.gt.len];exact m2)
    have s4:Same Hn _:=Same.upd (o:=.lst (lv.map V.int)) hb1
    refine⟨b0,b1,_,_,rfl,rfl,s4 _ _ eb0,B6,by rw[C6,sizeLine_eq];show 1 + _<=_;lia,λb2 hb2=>?_⟩
    have s5:=Same.upd (o:=.lst ([.int 0]++lv.map V.int)) hb2
    refine⟨b2,0::lv,rfl,SqL.of B6,by simp,λM hM=>?_⟩
    have M0:0<=M:=hM.2 0 D9
    have M1:M<=k.st:=by
     rcases N3.mp hM.1 with z | z
     ·rw[z];exact ok.s0
     ·rw[hlv] at z
      obtain⟨o,ho,e⟩:=B68.mp z
      have e:o=some M:=e
      subst e
      obtain⟨p,hp⟩:=C20 ho
      exact (ok.gt.bd p M hp).2
    have Mall:∀p x,gt k.g p=some x->x<=M:=λp x h=>by
     refine hM.2 x (D3 _ ?_)
     rw[hlv]
     refine B68.mpr ⟨some x,?_,rfl⟩
     rcases Nat.lt_or_ge p k.g.length with z | z
     ·have:=A41 z
      rw[h] at this
      exact R6 this
     ·rw[A40 z] at h;cases h
    have s1k:=ok.s1
    have h6:=((h2.same s3).same s4).same s5
    refine⟨_,rfl,_,rfl,_,rfl,_,_,rfl,rfl,_,rfl,_,_,rfl,rfl,_,_,rfl,drw _ _ _ (by split <;> lia) (by split <;> lia) h6 λr H7 r0 r1 k7 h7=>?_⟩
    refine⟨_,_,rfl,rfl,by show 1<=sizeLine;decide,λq1 hq1=>⟨by show 2<=sizeLine;decide,λq2 hq2=>?_⟩⟩
    have rB:M + r<=100000000000000000000:=by
     split at r1 <;> lia
    exact fin (.refill (M + r)) [.int (M + r)] H7 q1 q2 ⟨⟨OO,rB⟩,ok.gt.len,λp y h=>⟨(ok.gt.bd p y h).1,by have:=Mall p y h;lia⟩⟩ (λz=>by obtain⟨_,_,z⟩:=z;cases z) (.cons (.int _) .nil) hq1 hq2 h7 λb o e n=>k7 _ _ (s5 _ _ (s4 _ _ (s3 _ _ (k2 b o e n)))) n
   ·rw[show decide (V.int u=V.int 6)=false from decide_eq_false λz=>c7 (by cases z;rfl)]
    exact C7 ⟨⟨_,rfl⟩,rfl⟩
  rintro σ' _ ⟨⟨z9,rfl⟩,rfl⟩
  have s1k:=ok.s1
  refine⟨_,rfl,_,rfl,a,_,_,_,rfl,rfl,SqL.of (k2 _ _ e1 nea),rfl,_,rfl,a,_,_,_,rfl,rfl,SqL.of (k2 _ _ e1 nea),rfl,j4 (E:=E0) (λd=>∃t,G1 k.m k.st t/\d=.list (B7 t)) h2 (.cons (.int _) (.cons (.int _) .nil)) ⟨_,k.m,k.st,rfl,OO,ok.s0,OO,λt ht=>⟨t,ht,rfl⟩⟩ λd v H3 hd' tv k3 h3=>⟨by show 1<=sizeLine;decide,λq1 hq1=>⟨by show 2<=sizeLine;decide,λq2 hq2=>?_⟩⟩⟩
  obtain⟨t,ht,rfl⟩:=hd'
  refine fin (.aim t) [v] H3 q1 q2 ht (λz=>by obtain⟨_,_,z⟩:=z;cases z) (.cons ?_ .nil) hq1 hq2 h3 λb o e n=>k3 b o (k2 b o e n) λq hq=>by cases hq;exact n
  exact tv.mv λb o z e=>⟨z,e⟩
end
section
variable {kws a b:Kw} {x k:Int} {w w':Wy}
theorem B0g:∀{kws:Kw},(B5 kws).Nodup->(k,w)∈kws->G6 kws k=some w
 | [],_,h=>by cases h
 | q::r,nd,h=>by
  obtain⟨n1,n2⟩:=A8r.mp (show (q.1::B5 r).Nodup from nd)
  rw[A25]
  rcases N3.mp h with z | z
  ·rw[<-z,if_pos rfl]
  ·rw[if_neg λe=>n1 (by rw[e];exact S5.mpr ⟨_,z,rfl⟩)]
   exact B0g n2 z
theorem A28 (p:a.Perm b):(B5 a).Perm (B5 b):=p.map _
theorem C3l (p:a.Perm b) (nd:(B5 a).Nodup) (k:Int):G6 a k=G6 b k:=by
 have nb:(B5 b).Nodup:=(A28 p).nodup_iff.mp nd
 cases e:G6 b k with
 | some w=>exact B0g nd (p.mem_iff.mpr (A26 e))
 | none=>
  cases e2:G6 a k with
  | none=>rfl
  | some w=>
   rw[B0g nb (p.mem_iff.mp (A26 e2))] at e
   cases e
theorem B60 (p:a.Perm b) (nd:(B5 a).Nodup):wsF a=wsF b:=by
 unfold wsF
 rw[C2w (A28 p)]
 exact A5t λk _=>by rw[C3l p nd]
theorem C3m:∀{kws:Kw},G6 (kws++[(x,w)]) k=match G6 kws k with
  | some v=>some v
  | none=>if x=k then some w else none
 | []=>by rw[X5,A25];rfl
 | q::r=>by
  rw[A5r,A25,A25,C3m]
  by_cases e:q.1=k
  ·rw[if_pos e];rw[if_pos e]
  ·rw[if_neg e];rw[if_neg e]
theorem C3n:∀{kws:Kw},G6 (kws.map λq=>if q.1=x then (q.1,w) else q) k=if k=x then (G6 kws k).map λ_=>w else G6 kws k
 | []=>by
  rw[A8s]
  show none=_
  split <;> rfl
 | q::r=>by
  rw[Q9,A25,A25,C3n]
  by_cases e:q.1=x
  ·rw[if_pos e]
   by_cases c:k=x
   ·rw[if_pos c,if_pos (by rw[e,c]),if_pos c,if_pos (by rw[e,c])];rfl
   ·rw[if_neg c,if_neg (by rw[e];exact λz=>c z.symm),if_neg c,if_neg (by rw[e];exact λz=>c z.symm)]
  ·rw[if_neg e]
   by_cases c:k=x
   ·rw[if_pos c,if_neg (by rw[c];exact e),if_pos c,if_neg (by rw[c];exact e)]
   ·rw[if_neg c,if_neg c]
theorem D5e:G6 (X2 kws x w) k=if k=x then some w else G6 kws k:=by
 cases e:G6 kws x with
 | none=>
  rw[B2l e,C3m]
  by_cases c:k=x
  ·rw[if_pos c,c,e];exact if_pos rfl
  ·rw[if_neg c]
   cases G6 kws k with
   | none=>exact if_neg λz=>c z.symm
   | some v=>rfl
 | some w0=>
  rw[B2m e,C3n]
  by_cases c:k=x
  ·rw[if_pos c,if_pos c,c,e];rfl
  ·rw[if_neg c,if_neg c]
end
structure C3o (a b:Kst):Prop where
 m:b.m=a.m
 st:a.st<=b.st
 g:b.g=a.g
 ws:∀k w,G6 a.kws k=some w->∃w',G6 b.kws k=some w'/\w'.1=w.1/\w'.2.1=w.2.1/\w.2.2<=w'.2.2
structure B0h (a b:Kst):Prop where
 m:b.m=a.m
 st:b.st=a.st
 g:b.g=a.g
 p:a.kws.Perm b.kws
theorem B0h.ok {a b:Kst} (h:B0h a b) (o:KOk a.m a.st a.g a.kws):KOk b.m b.st b.g b.kws:=by
 rw[h.m,h.st,h.g]
 exact { o with nd:=(A28 h.p).nodup_iff.mp o.nd,few:=by rw[<-h.p.length_eq];exact o.few,way:=λq hq=>o.way q (h.p.mem_iff.mpr hq) }
structure D7w (k:Kst) (gives:Bool) (d1 d2:S4):Prop where
 o1:A0d k d1
 o2:A0d (K8 k d1) d2
 bk:B0h k (K8 (K8 k d1) d2)
 up:gives=true->C3o k (K8 k d1)
 dn:gives=false->C3o (K8 k d1) k
abbrev Frp (p d:Addr) (H H':Hp):Prop:=∀b o,H b=some o->b≠p->b≠d->H' b=some o
theorem A29 {F:Addr->Prop} {C:Addr} {H H':Hp} {p d:Addr} {k:Kst} (kp:E2 F C H' p d k) (fr:Frp p d H H') {b:Addr} (hb:H' b=none):H b=none:=by
 cases z:H b with
 | none=>rfl
 | some o=>
  have pd:=A1z kp
  by_cases c1:b=p
  ·rw[c1] at hb;exact absurd hb pd.2.1
  ·by_cases c2:b=d
   ·rw[c2] at hb;exact absurd hb pd.2.2
   ·rw[fr _ _ z c1 c2] at hb;cases hb
structure LSt (C hd hl a dc p d:Addr) (ks kk:Kst) (H:Hp):Prop where
 hnd:Hd H hd hl
 sta:O6 (λb=>b≠hd) H a dc ks.m ks.st ks.g ks.kws
 kp:E2 (λb=>b≠hd) C H p d kk
 ne:dc≠d
 ok:KOk ks.m ks.st ks.g ks.kws
 few:ks.kws.length<=8
 sim:B0h ks kk
 low:X3 kk.m kk.st kk.g kk.kws kk.low
theorem A8m {H:Hp} {hd hl b:Addr} {o:HO} (h:Hd H hd hl) (e:H b=some o) (n:∀xs,o≠.lst xs):b≠hd:=λz=>by
 obtain⟨_,_,_,_,_,_,_,_,e'⟩:=h
 rw[z,e'] at e
 cases e
 exact n _ rfl
theorem D5f {H H':Hp} {hd hl a dc:Addr} {m:Nat} {st:Int} {g:Tb} {kws:Kw} (s:O6 (λb=>b≠hd) H a dc m st g kws) (h:Hd H hd hl) (k:∀b o,H b=some o->b≠hd->H' b=some o):O6 (λb=>b≠hd) H' a dc m st g kws:=
 s.mv (λb o e n _=>k _ _ e (by
  by_cases c:∃xs,o=.lst xs
  ·obtain⟨xs,c⟩:=c
   exact n xs c
  ·exact A8m h e λxs z=>c ⟨xs,z⟩)) λ_ z=>z
theorem B0i {F G:Addr->Prop} {C:Addr} {H H':Hp} {a dc p d:Addr} {m:Nat} {st:Int} {g:Tb} {kws:Kw} {k:Kst} (s:O6 F H a dc m st g kws) (kp:E2 G C H p d k) (ne:dc≠d) (fr:Frp p d H H'):O6 F H' a dc m st g kws:=by
 have mv:∀b xs,H b=some (.lst xs)->H' b=some (.lst xs):=λb xs e=>fr _ _ e (N2 kp e).1 (N2 kp e).2
 obtain⟨⟨gl,ug,e1,f1,f2,e2,t2⟩,kvs,e3,kv⟩:=s
 have n3:dc≠p:=λz=>by
  obtain⟨⟨dx,g,l,_,_,e,_⟩,_⟩:=kp
  rw[z,e] at e3;cases e3
 exact⟨⟨gl,ug,mv _ _ e1,f1,f2,mv _ _ e2,G3 t2⟩,kvs,fr _ _ e3 n3 ne,kv.mv λb xs e=>fr _ _ e (S3 kp e).1 (S3 kp e).2⟩
theorem B2r {G:Addr->Prop} {C:Addr} {H H':Hp} {hd hl p d:Addr} {k:Kst} (h:Hd H hd hl) (kp:E2 G C H p d k) (fr:Frp p d H H'):Hd H' hd hl:=by
 have mv:∀b xs,H b=some (.lst xs)->H' b=some (.lst xs):=λb xs e=>fr _ _ e (N2 kp e).1 (N2 kp e).2
 obtain⟨ns,q,b,c,u,v,h1,h2,h3⟩:=h
 exact⟨ns,q,b,c,u,v,mv _ _ h1,h2,mv _ _ h3⟩
def kwD (x:Int) (w:Wy):PyData:=.tuple [.int x,.int ((w.1:Nat):Int),.int ((w.2.1:Nat):Int),.int w.2.2]
def W2 (kws:Kw):List PyData:=(srt (B5 kws)).map λk=>kwD k ((G6 kws k).getD (0,0,0))
def D5g (k:Kst) (ds:List PyData):Prop:=ds=[]/\(B5 k.kws).length < 64
def D5h (k:Kst) (_:List PyData) (r:PyData) (k':Kst):Prop:=r=.list (W2 k.kws)/\k'=k
def D5i (k:Kst) (_:List PyData) (r:PyData) (k':Kst):Prop:=r=.int k.st/\k'=k
def D5j (k:Kst) (_:List PyData) (r:PyData) (k':Kst):Prop:=r=.list (B7 k.g)/\k'=k
theorem B61 {F:Addr->Prop} {H:Hp} {vs:List V} {d1 d2 d3:PyData} (t:B2 F H vs [d1,d2,d3]):∃v1 v2 v3,vs=[v1,v2,v3]/\ThV F H v1 d1/\ThV F H v2 d2/\ThV F H v3 d3:=by
 cases t with
 | cons x1 t=>
 obtain⟨v2,v3,rfl,t2,t3⟩:=Q7 t
 exact⟨_,v2,v3,rfl,x1,t2,t3⟩
section
variable {P:Program} {w:World} {K:A9} {mg:Str->Option Value} {base:Heap}
theorem D5k (T:Txt K mg):C1 P w K mg base CX0 1 T.fg T.fh ["self"] (j5 T.ac B6w D5i):=by
 refine T.ig.ok D0t (λvs H Q E h=>?_) (λcdv A outer s H vs Q E hr h=>?_)
 ·obtain⟨F,p,d,k,us,ds,rfl,_,_,tus,rfl,_⟩:=h
  cases tus;rfl
 ·obtain⟨F,p,d,k,us,ds,rfl,hF,kp,tus,rfl,told⟩:=h
  cases tus
  have kp0:=kp
  obtain⟨⟨dx,g,l,ug,ul,e1,g1,e2,t2,g3,e3,t3⟩,kvs,e4,kv⟩:=kp
  refine⟨_,(D7 (F7 (O9 (pv 0) rfl))),?_⟩
  refine⟨_,rfl,p,_,dx,_,_,rfl,e1,T.ae,T.cK,B0a,?_⟩
  exact told _ _ k _ ⟨rfl,rfl⟩ kp0 (.int _) (λb o e _ _=>e) (D38 kp0)
theorem D5l (T:Txt K mg):C1 P w K mg base CX0 1 T.gu T.gz ["self"] (j5 T.ac B6w D5j):=by
 refine T.jE.ok D0u (λvs H Q E h=>?_) (λcdv A outer s H vs Q E hr h=>?_)
 ·obtain⟨F,p,d,k,us,ds,rfl,_,_,tus,rfl,_⟩:=h
  cases tus;rfl
 ·obtain⟨F,p,d,k,us,ds,rfl,hF,kp,tus,rfl,told⟩:=h
  cases tus
  have kp0:=kp
  obtain⟨⟨dx,g,l,ug,ul,e1,g1,e2,t2,g3,e3,t3⟩,kvs,e4,kv⟩:=kp
  refine⟨_,(D7 (F7 (W6 Z3 rfl T.aD V0 (A1 (O9 (pv 0) rfl) A5 M3) (he:=M3) (hpl:=A3)))),?_⟩
  refine⟨_,rfl,p,_,dx,_,_,rfl,e1,T.ae,T.bU,B2j,g,ug,rfl,.inl (SqL.of e2),λl2 hl2=>?_⟩
  exact told _ _ k _ ⟨rfl,rfl⟩ (kp0.same (Same.upd hl2)) (.lst (.inl hl2) B6 (G3 t2)) (λb o e _ _=>Same.upd hl2 _ _ e) (B6v (kp0.ex.same (Same.upd hl2)) hl2 B6)
theorem D5m (T:Txt K mg):C1 P w K mg base CX0 1 T.gq T.gr ["self"] (j5 T.ac D5g D5h):=by
 refine T.jD.ok B2a (λvs H Q E h=>?_) (λcdv A outer s H vs Q E hr h=>?_)
 ·obtain⟨F,p,d,k,us,ds,rfl,_,_,tus,⟨rfl,_⟩,_⟩:=h
  cases tus;rfl
 ·obtain⟨F,p,d,k,us,ds,rfl,hF,kp,tus,⟨rfl,hk⟩,told⟩:=h
  cases tus
  have kp0:=kp
  obtain⟨⟨dx,g,l,ug,ul,e1,g1,e2,t2,g3,e3,t3⟩,kvs,e4,kv⟩:=kp
  refine⟨_,(B9 (C0 (i:=1) B2a.nd rfl (B3 rfl) (U9 A5))
   (B9 (l3 V5 rfl (A0s (E9 (A66 rfl) rfl T.cx A54 (A1 (O9 (pv 0) rfl) A5 M3) (he:=M3) (hpl:=A3))) (Q3 (i:=2) B2a.nd rfl (B3 rfl))
   (B9 (C0 (i:=3) B2a.nd rfl (B3 rfl) (A07 (u1 (K2 hr)) (O9 (pv 0) rfl) (pv 2) (λ_ _=>rfl)))
   (D7 (V6 (r8 A1j A8z A80 A3r (pv 1) (A1 (R8 (A1 (pv 2) (A1 (C4 X8 (pv 3) (D0 (v:=V.int 0) rfl T.bW ⟨_,rfl⟩) (λ_ _=>rfl)) (A1 (C4 X8 (pv 3) (D0 (v:=V.int 1) rfl T.cq ⟨_,rfl⟩) (λ_ _=>rfl)) (A1 (C4 X8 (pv 3) (D0 (v:=V.int 2) rfl T.bX ⟨_,rfl⟩) (λ_ _=>rfl)) A5 A6) A6) A6) A0)) A5 l7))))))
   (D7 (F7 (pv 1))))),?_⟩
  try dsimp only[N6,Cx.nox]
  refine j3 λW hW=>?_
  refine⟨by show 0<=sizeLine;decide,λtl htl=>?_⟩
  have s1:Same H (upd H tl (.lst [])):=Same.upd htl
  refine @G8 W _ _ _ _ _ hW λW hW=>?_
  refine⟨_,rfl,p,_,dx,_,_,rfl,s1 _ _ e1,T.ae,T.bi,A0c,d,kvs,_,rfl,s1 _ _ e4,kv.keys,hk,λl1 ms hl1 hp hs=>?_⟩
  have ems:=A5g hp hs
  subst ems
  obtain⟨H2,hH2⟩:∃H2,H2=upd (upd H tl (.lst [])) l1 (.lst ((srt (B5 k.kws)).map V.int)):=⟨_,rfl⟩
  rw[<-hH2]
  have s2:Same H H2:=by rw[hH2];exact s1.tr (Same.upd hl1)
  have el1:H2 l1=some (.lst ((srt (B5 k.kws)).map V.int)):=by rw[hH2];exact B6
  have etl:H2 tl=some (.lst []):=by rw[hH2];exact Same.upd hl1 _ _ B6
  have nlt:l1≠tl:=λz=>by rw[z,B6] at hl1;cases hl1
  have lsr:(srt (B5 k.kws)).length < 64:=by rw[(Z9 _).length_eq];exact hk
  have lkw:(W2 k.kws).length=(srt (B5 k.kws)).length:=by unfold W2;rw[C6]
  clear hH2
  refine⟨l1,rfl,⟨_,SqL.of el1⟩,?_⟩
  refine B7z (xs:=(srt (B5 k.kws)).map V.int) (λi σ' H'=>∃ys x2 x3,σ'=[some (.ref p),some (.ref tl),x2,x3]/\Same H H'/\H' tl=some (.lst ys)/\H' l1=some (.lst ((srt (B5 k.kws)).map V.int))/\B2 (λb=>O4 H b/\b≠tl) H' ys ((W2 k.kws).take i)) ⟨[],none,none,rfl,s2,etl,el1,.nil⟩ ?_ ?_ ?_
  ·rintro i σ' H' hi ⟨ys,x2,x3,rfl,sH,et,el,ty⟩
   exact SqL.of el
  ·rintro i x σ' H' hx ⟨ys,x2,x3,rfl,sH,et,el,ty⟩
   rw[K3] at hx
   obtain⟨n,hn,rfl⟩:=A3h.mp hx
   obtain⟨w0,hw0⟩:=A27 ((Z9 _).mem_iff.mp (R6 hn))
   have hwi:(W2 k.kws)[i]?=some (kwD n w0):=by
    unfold W2
    rw[K3,hn,A12,hw0];rfl
   rcases kv.val n with ⟨_,z⟩ | ⟨v0,w1,hv,hw1,tv⟩
   ·rw[hw0] at z;cases z
   rw[hw0] at hw1
   cases hw1
   obtain⟨tw,uw,rfl,_,ew,tuw⟩:=W0 (show ThV TT0 H v0 (.tuple [.int ((w0.1:Nat):Int),.int ((w0.2.1:Nat):Int),.int w0.2.2]) from tv)
   obtain⟨v1,v2,v3,rfl,tv1,tv2,tv3⟩:=B61 tuw
   cases tv1
   cases tv2
   cases tv3
   have ew':=sH _ _ ew
   refine⟨_,rfl,p,_,dx,_,_,rfl,sH _ _ e1,T.ae,T.bi,A0c,_,rfl,d,_,rfl,by rw[<-hv];exact U5.k (k:=Sum.inl n) (sH _ _ e4),?_⟩
   refine⟨_,rfl,.inl ⟨rfl,_,SqL.of et⟩,_,rfl,_,rfl,.inr (.inl ⟨tw,_,0,_,rfl,rfl,SqT.of ew',rfl,_,rfl,.inr (.inl ⟨tw,_,1,_,rfl,rfl,SqT.of ew',rfl,_,rfl,.inr (.inl ⟨tw,_,2,_,rfl,rfl,SqT.of ew',rfl,by show 4<=sizeLine;decide,λq hq=>?_⟩)⟩)⟩)⟩
   have s3:Same H' (upd H' q (.tup [.int n,.int ((w0.1:Nat):Int),.int ((w0.2.1:Nat):Int),.int w0.2.2])):=Same.upd hq
   have nq:q≠tl:=λz=>by rw[z,et] at hq;cases hq
   have lys:ys.length<=63:=by rw[ty.len,j6,lkw];lia
   refine⟨tl,ys,_,rfl,rfl,s3 _ _ et,by rw[sizeLine_eq];lia,?_⟩
   have k4:∀b o,upd H' q (.tup [.int n,.int ((w0.1:Nat):Int),.int ((w0.2.1:Nat):Int),.int w0.2.2]) b=some o->b≠tl->upd (upd H' q (.tup [.int n,.int ((w0.1:Nat):Int),.int ((w0.2.1:Nat):Int),.int w0.2.2])) tl (.lst (ys++[.ref q])) b=some o:=λb o e n=>by rw[B8 n];exact e
   refine⟨_,_,_,rfl,λb o e=>k4 _ _ (s3 _ _ (sH _ _ e)) (λz=>by rw[z,htl] at e;cases e),B6,k4 _ _ (s3 _ _ el) nlt,?_⟩
   rw[A8w,hwi]
   refine (ty.mv λb o z e=>⟨z,k4 _ _ (s3 _ _ e) z.2⟩).append (.cons (.tup ⟨.inl (sH.early hq),nq⟩ (k4 _ _ B6 nq) (.cons (.int _) (.cons (.int _) (.cons (.int _) (.cons (.int _) .nil))))) .nil)
  ·rintro σ' H' ⟨ys,x2,x3,rfl,sH,et,el,ty⟩
   rw[C6,<-lkw,B28] at ty
   subst hW
   refine⟨_,rfl,?_⟩
   exact told _ _ k _ ⟨rfl,rfl⟩ (kp0.same sH) (.lst (.inl htl) et (ty.mv λb o z e=>⟨z.1,e⟩)) (λb o e _ _=>sH _ _ e) (B6v (kp0.ex.same sH) htl et)
end
def D5n:Sp:=λvs H Q _=>∃(F:Addr->Prop) (a dc:Addr) (m:Nat) (st:Int) (g:Tb) (kws:Kw),vs=[.ref a]/\O6 F H a dc m st g kws/\(B5 kws).length < 64/\∀v H',ThV (O4 H) H' v (E8 m (wsF kws))->Same H H'->Q v H'
def D5o (C:Addr):Sp:=λvs H Q _=>∃(F G:Addr->Prop) (p d a dc:Addr) (k:Kst) (kw:Kw),vs=[.ref p,.ref a]/\(∀b,H b=none->F b)/\E2 F C H p d k/\O6 G H a dc k.m k.st k.g kw/\kw.Perm k.kws/\(B5 kw).Nodup/\dc≠d/\(B5 k.kws).length < 64/\
 ∀H',E2 F C H' p d k->(∀b o,H b=some o->b≠p->b≠d->H' b=some o)->Q (.bl true) H'
theorem C3p {F:Addr->Prop} {H H':Hp} {f:Int->Wy}:∀{ns:List Int} {ys:List V},B2 F H ys (ns.map λk=>kwD k (f k))->(∀b xs,H b=some (.tup xs)->H' b=some (.tup xs))->B2 TT0 H' ys (ns.map λk=>kwD k (f k))
 | [],_,t,_=>by cases t;exact .nil
 | n::ns,_,t,s=>by
  cases t with
  | cons x t=>
   obtain⟨a,us,rfl,_,e,tu⟩:=W0 (show ThV F H _ (.tuple ([n,(((f n).1:Nat):Int),(((f n).2.1:Nat):Int),(f n).2.2].map PyData.int)) from x)
   exact .cons (.tup trivial (s _ _ e) (A8l tu)) (C3p t s)
theorem D5p {a b:Kw} (p:a.Perm b) (nd:(B5 a).Nodup):W2 a=W2 b:=by
 unfold W2
 rw[C2w (A28 p)]
 exact A5t λk _=>by rw[C3l p nd]
theorem G7.kws (kws:Kw):G7 2 (.list (W2 kws)):=G7.lst λd hd=>by
 obtain⟨n,_,rfl⟩:=S5.mp hd
 refine G7.tup λd hd=>?_
 simp only[N3,List.not_mem_nil,or_false] at hd
 rcases hd with rfl | rfl | rfl | rfl <;> exact .int _
theorem D5q {F:Addr->Prop} {ms:List Md} {sp:DSp} {vs:List V} {ds:List PyData} {H:Hp} {Q:VK} {E:XK} (hF:(∀b,H b=none->F b)/\∀b xs,H b=some (.tup xs)->F b) (Qd:PyData->Prop) (ar:Z5 F none H ms vs ds) (h:sp ds Qd) (k:∀d v H',Qd d->ThV F H' v d->Same H H'->Q v H'):spD ms sp vs H Q E:=
 ⟨F,none,ds,Qd,hF,λq hq=>(nomatch hq),λq hq=>(nomatch hq),ar,h,λd v H' a b c _=>k d v H' a b (C2r c)⟩
section
variable {P:Program} {w:World} {K:A9} {mg:Str->Option Value} {base:Heap}
theorem B2s (T:Txt K mg):C1 P w K mg base CX0 1 T.am.a T.am.d ["_law_state_here"] D5n:=by
 refine T.am.F.ok D06 (λvs H Q E h=>?_) (λcdv A outer s H vs Q E hr h=>?_)
 ·obtain⟨F,a,dc,m,st,g,kws,rfl,_⟩:=h
  rfl
 ·obtain⟨F,a,dc,m,st,g,kws,rfl,sa,hk,told⟩:=h
  obtain⟨⟨gl,ug,e1,f1,f2,e2,t2⟩,kvs,e3,kv⟩:=sa
  refine⟨_,(D7 (F7 (R8 (A1 (C4 D2 (pv 0) A8 (λ_ _=>rfl)) (A1 (W8 (Q0.new (N:=["_law_state_here"]) (osc:=B1 B1y) KK) rfl (A0s (E9 (A66 rfl) rfl T.cx A54 (A1 (C4 D2 (pv 0) A8 (λ_ _=>rfl)) A5 A6) (he:=A6) (hpl:=A3))) (λ_=>A2a) (λ_=>(A07 (u1 (K2 hr)) (C4 D2 (pv 0) A8 (λ_ _=>rfl)) (pv 1) (λ_ _=>rfl)))) A5 A0y) A6)))),?_⟩
  try dsimp only[N6,Cx.nox]
  refine⟨_,rfl,a,_,_,_,rfl,rfl,SqL.of e1,rfl,?_⟩
  refine⟨_,rfl,a,_,_,_,rfl,rfl,SqL.of e1,rfl,dc,kvs,_,rfl,e3,kv.keys,hk,λl1 ms hl1 hp hs=>?_⟩
  have ems:=A5g hp hs
  subst ems
  obtain⟨H1,hH1⟩:∃H1,H1=upd H l1 (.lst ((srt (B5 kws)).map V.int)):=⟨_,rfl⟩
  rw[<-hH1]
  have s1:Same H H1:=by rw[hH1];exact Same.upd hl1
  have el1:H1 l1=some (.lst ((srt (B5 kws)).map V.int)):=by rw[hH1];exact B6
  have lsr:(srt (B5 kws)).length < 64:=by rw[(Z9 _).length_eq];exact hk
  refine⟨l1,rfl,⟨_,SqL.of el1⟩,?_⟩
  refine A53 (xs:=(srt (B5 kws)).map V.int) (λi ys Hn=>Hn=H1/\B2 (O4 H) H1 ys (((wsF kws).take i).map K7)) ?_ ⟨rfl,.nil⟩ ?_ ?_ ?_
  ·rw[C6,sizeLine_eq];lia
  ·rintro i ys Hn hi ⟨rfl,h2⟩
   refine⟨?_,SqL.of el1⟩
   rw[h2.len,C6,j6]
   lia
  ·rintro i x ys Hn hx ⟨rfl,h2⟩ ca
   rw[K3] at hx
   obtain⟨n,hn,rfl⟩:=A3h.mp hx
   obtain⟨w0,hw0⟩:=A27 ((Z9 _).mem_iff.mp (R6 hn))
   have hwi:(wsF kws)[i]?=some w0:=by
    unfold wsF
    rw[K3,hn,A12,hw0];rfl
   rcases kv.val n with ⟨_,z⟩ | ⟨v0,w1,hv,hw1,tv⟩
   ·rw[hw0] at z;cases z
   rw[hw0] at hw1
   cases hw1
   unfold A19
   refine G0 ⟨_,rfl,a,_,_,_,rfl,rfl,SqL.of (s1 _ _ e1),rfl,_,rfl,dc,v0,rfl,by rw[<-hv];exact U5.k (k:=Sum.inl n) (s1 _ _ e3),rfl,?_⟩
   rw[A8w,hwi,R7]
   exact h2.append (.cons (A5f tv (λb xs e=>s1 _ _ e) λb xs e=>.inr ⟨xs,e⟩) .nil)
  rintro ys Hn ⟨rfl,h2⟩ l2 hl2
  have lw:(wsF kws).length=(srt (B5 kws)).length:=by unfold wsF;rw[C6]
  rw[C6,<-lw,B28] at h2
  refine⟨by show 2<=sizeLine;decide,λr hr'=>?_⟩
  have s2:Same Hn (upd Hn l2 (.lst ys)):=Same.upd hl2
  have s3:Same (upd Hn l2 (.lst ys)) _:=Same.upd (o:=.tup [.int ((m:Nat):Int),.ref l2]) hr'
  have s13:=(s1.tr s2).tr s3
  exact told _ _ (.tup (.inl ((s1.tr s2).early hr')) B6 (.cons (.int _) (.cons (.lst (.inl (s1.early hl2)) (s3 _ _ B6) ((h2.keep s2).keep s3)) .nil))) s13
theorem D5r (T:Txt K mg):C1 P w K mg base CX0 2 T.dh.a T.dh.d ["_law_keeper", "_law_state_here"] (D5o T.ac):=by
 have bM:=@B2s P w K mg base T
 have bN:=T.am.b
 have qu:=@D5m P w K mg base T
 have qv:=D1b T
 have pC:=@D5k P w K mg base T
 have pD:=D1c T
 have qw:=@D5l P w K mg base T
 have qx:=D1d T
 have bK:=@B0b P w K mg base T
 have bL:=A9y T
 refine T.dh.F.ok C1w (λvs H Q E h=>?_) (λcdv A outer s H vs Q E hr h=>?_)
 ·obtain⟨F,G,p,d,a,dc,k,kw,rfl,_⟩:=h
  rfl
 ·obtain⟨F,G,p,d,a,dc,k,kw,rfl,hF,kp,sa,pm,nd,ne,hk,told⟩:=h
  have eK:W2 kw=W2 k.kws:=D5p pm nd
  have eW:wsF kw=wsF k.kws:=B60 pm nd
  have hk':(B5 kw).length < 64:=by rw[(A28 pm).length_eq];exact hk
  have sa0:=sa
  obtain⟨⟨gl,ug,e1,f1,f2,e2,t2⟩,kvs,e3,kv⟩:=sa
  refine⟨_,(B9 (B03 (i:=2) C1w.nd rfl (B3 rfl) (Q0.new (N:=["_law_keeper", "_law_state_here", "_law_ways"]) (osc:=B1 B10) KK) rfl (A0s (E9 (A66 rfl) rfl T.cx A54 (A1 (C4 D2 (pv 1) A8 (λ_ _=>rfl)) A5 A6) (he:=A6) (hpl:=A3))) (λ_=>A2a) (λ_=>(R8 (A1 (pv 3) (A1 (C4 X8 (A07 (u1 (K2 hr)) (C4 D2 (pv 1) A8 (λ_ _=>rfl)) (pv 3) (λ_ _=>rfl)) A8 (λ_ _=>rfl)) (A1 (C4 X8 (A07 (u1 (K2 hr)) (C4 D2 (pv 1) A8 (λ_ _=>rfl)) (pv 3) (λ_ _=>rfl)) A8 (λ_ _=>rfl)) (A1 (C4 X8 (A07 (u1 (K2 hr)) (C4 D2 (pv 1) A8 (λ_ _=>rfl)) (pv 3) (λ_ _=>rfl)) A8 (λ_ _=>rfl)) A5 A6) A6) A6) A0))))
   (B9 (M5 (K1 (PW.pt (A0r (J3 (i8 (K2 hr)) (b9 (pv 0) T.ae T.kT qu (hr.mono DD) qv .nil A7) (pv 2) (C8 _)) (A0r (J3 (i8 (K2 hr)) (b9 (pv 0) T.ae T.jU pC (hr.mono DD) pD .nil A7) (C4 D2 (pv 1) A8 (λ_ _=>rfl)) (C8 _)) (A14 (J3 (i8 (K2 hr)) (b9 (pv 0) T.ae T.kU qw (hr.mono DD) qx .nil A7) (C4 D2 (pv 1) A8 (λ_ _=>rfl)) (C8 _))))))
   (D7 (F7 A0o))
   K4))
   (D7 (F7 (A5y (A2b (K2 hr)) (b9 (pv 0) T.ae T.cL bK (hr.mono DD) bL .nil A7) (B0 bM (hr.mono DD) rfl T.am.m T.am.F.kp bN .nil A7 (A1 (pv 1) A5 A0) (he:=A0) (hpl:=A3)) (C8 _)))))),?_⟩
  try dsimp only[N6,Cx.nox]
  refine⟨_,rfl,a,_,_,_,rfl,rfl,SqL.of e1,rfl,dc,kvs,_,rfl,e3,kv.keys,hk',λl1 ms hl1 hp hs=>?_⟩
  have ems:=A5g hp hs
  subst ems
  obtain⟨H1,hH1⟩:∃H1,H1=upd H l1 (.lst ((srt (B5 kw)).map V.int)):=⟨_,rfl⟩
  rw[<-hH1]
  have s1:Same H H1:=by rw[hH1];exact Same.upd hl1
  have el1:H1 l1=some (.lst ((srt (B5 kw)).map V.int)):=by rw[hH1];exact B6
  have lsr:(srt (B5 kw)).length < 64:=by rw[(Z9 _).length_eq];exact hk'
  have lkw:(W2 kw).length=(srt (B5 kw)).length:=by unfold W2;rw[C6]
  clear hH1
  refine⟨l1,rfl,⟨_,SqL.of el1⟩,?_⟩
  refine A53 (xs:=(srt (B5 kw)).map V.int) (λi ys Hn=>Same H1 Hn/\B2 TT0 Hn ys ((W2 kw).take i)) ?_ ⟨(λ_ _ e=>e),.nil⟩ ?_ ?_ ?_
  ·rw[C6,sizeLine_eq];lia
  ·rintro i ys Hn hi ⟨sn,h2⟩
   refine⟨?_,SqL.of (sn _ _ el1)⟩
   rw[h2.len,j6]
   lia
  ·rintro i x ys Hn hx ⟨sn,h2⟩ ca
   rw[K3] at hx
   obtain⟨n,hn,rfl⟩:=A3h.mp hx
   obtain⟨w0,hw0⟩:=A27 ((Z9 _).mem_iff.mp (R6 hn))
   have hwi:(W2 kw)[i]?=some (kwD n w0):=by
    unfold W2
    rw[K3,hn,A12,hw0];rfl
   rcases kv.val n with ⟨_,z⟩ | ⟨v0,w1,hv,hw1,tv⟩
   ·rw[hw0] at z;cases z
   rw[hw0] at hw1
   cases hw1
   obtain⟨tw,uw,rfl,_,ew,tuw⟩:=W0 (show ThV TT0 H v0 (.tuple [.int ((w0.1:Nat):Int),.int ((w0.2.1:Nat):Int),.int w0.2.2]) from tv)
   obtain⟨v1,v2,v3,rfl,tv1,tv2,tv3⟩:=B61 tuw
   cases tv1
   cases tv2
   cases tv3
   have sH:=s1.tr sn
   have ew':=sH _ _ ew
   have gt1:∀j v,atI [V.int ((w0.1:Nat):Int),V.int ((w0.2.1:Nat):Int),V.int w0.2.2] j=some v->∀Qv:VK,Qv v Hn->tOp (rIx K) (C06 (tOp (A87 K) (U7 1) (tC (V.int 3))) (U7 3)) (tC (V.int j)) [some (.ref p),some (.ref a),none,some (.int n)] Hn Qv:=λj v hj Qv q=>⟨_,rfl,a,_,_,_,rfl,rfl,SqL.of (sH _ _ e1),rfl,_,rfl,dc,_,rfl,by rw[<-hv];exact U5.k (k:=Sum.inl n) (sH _ _ e3),.inr (.inl ⟨tw,_,j,v,rfl,rfl,SqT.of ew',hj,q⟩)⟩
   unfold A19
   refine G0 ⟨_,rfl,gt1 0 _ rfl _ (gt1 1 _ rfl _ (gt1 2 _ rfl _ ⟨by show 4<=sizeLine;decide,λq hq=>?_⟩))⟩
   have s4:Same Hn _:=Same.upd (o:=.tup [.int n,.int ((w0.1:Nat):Int),.int ((w0.2.1:Nat):Int),.int w0.2.2]) hq
   refine⟨sn.tr s4,?_⟩
   rw[A8w,hwi]
   exact (h2.keep s4).append (.cons (.tup trivial B6 (.cons (.int _) (.cons (.int _) (.cons (.int _) (.cons (.int _) .nil))))) .nil)
  rintro ys Hn ⟨sn,h2⟩ l2 hl2
  rw[C6,<-lkw,B28] at h2
  have s2:Same Hn (upd Hn l2 (.lst ys)):=Same.upd hl2
  obtain⟨H3,hH3⟩:∃H3,H3=upd Hn l2 (.lst ys):=⟨_,rfl⟩
  rw[<-hH3] at s2 ⊢
  have el2:H3 l2=some (.lst ys):=by rw[hH3];exact B6
  have s3:=(s1.tr sn).tr s2
  have ty:=h2.keep s2
  clear hH3 s2 h2 sn el1 s1
  rw[eK] at ty
  have kpi:∀{Hx:Hp} {kx:Kst},E2 F T.ac Hx p d kx->∃dx g l,Hx p=some (.ins T.ac dx (kfs kx.m kx.st g d l)):=λh=>by
   obtain⟨⟨dx,g,l,_,_,e1,_⟩,_⟩:=h
   exact⟨dx,g,l,e1⟩
  have mvL:∀{Hx Hy:Hp} {kx:Kst},E2 F T.ac Hx p d kx->Frp p d Hx Hy->∀b xs,Hx b=some (.lst xs)->Hy b=some (.lst xs):=λkx fr b xs e=>fr _ _ e (N2 kx e).1 (N2 kx e).2
  have mvT:∀{Hx Hy:Hp} {kx:Kst},E2 F T.ac Hx p d kx->Frp p d Hx Hy->∀b xs,Hx b=some (.tup xs)->Hy b=some (.tup xs):=λkx fr b xs e=>fr _ _ e (S3 kx e).1 (S3 kx e).2
  have kp3:=kp.same s3
  have hF3:∀b,H3 b=none->F b:=λb hb=>hF _ (s3.early hb)
  have LW:=G7.kws k.kws
  have LT:=G7.tab k.g
  have LI:G7 0 (.int k.st):=G7.int _
  refine⟨fun σ' H'=>σ'=[some (.ref p),some (.ref a),some (.ref l2)]/\E2 F T.ac H' p d k/\Frp p d H H',?_,?_⟩
  ·refine B6z (λc Hx=>c=false/\E2 F T.ac Hx p d k/\Frp p d H Hx) (λQx hQ=>?_) (λc Hx hc=>?_)
   rotate_left
   ·obtain⟨rfl,s⟩:=hc
    exact C7 ⟨rfl,s⟩
   obtain⟨dx,g,l,ep⟩:=kpi kp3
   refine⟨_,rfl,p,dx,_,rfl,ep,P5 KK,F,p,d,k,[],[],rfl,hF3,kp3,.nil,⟨rfl,hk⟩,λr v k' H4 po kp4 tv fr4 _=>?_⟩
   obtain⟨rfl,rfl⟩:=po
   have ty4:ThV TT0 H4 (.ref l2) (.list (W2 k'.kws)):=.lst trivial (mvL kp3 fr4 _ _ el2) (C3p ty (mvT kp3 fr4))
   refine⟨_,rfl,_,_,ThV.dat tv LW.1,ThV.dat ty4 LW.1,LW.1,LW.1,LW.dep DD _,_,rfl,?_⟩
   rw[LW.same]
   refine C7 ?_
   have hF4:∀b,H4 b=none->F b:=λb hb=>hF3 _ (A29 kp4 fr4 hb)
   obtain⟨dx,g,l,ep⟩:=kpi kp4
   refine⟨_,rfl,p,dx,_,rfl,ep,P5 KK,F,p,d,_,[],[],rfl,hF4,kp4,.nil,rfl,λr v k5 H5 po kp5 tv fr5 _=>?_⟩
   obtain⟨rfl,rfl⟩:=po
   have e15:=mvL kp4 fr5 _ _ (mvL kp3 fr4 _ _ (s3 _ _ e1))
   refine⟨_,rfl,a,_,_,_,rfl,rfl,SqL.of e15,rfl,_,_,ThV.dat tv LI.1,ThV.dat (F:=TT0) (.int _) LI.1,LI.1,LI.1,LI.dep DD _,_,rfl,?_⟩
   rw[LI.same]
   refine C7 ?_
   have hF5:∀b,H5 b=none->F b:=λb hb=>hF4 _ (A29 kp5 fr5 hb)
   obtain⟨dx,g,l,ep⟩:=kpi kp5
   refine⟨_,rfl,p,dx,_,rfl,ep,P5 KK,F,p,d,_,[],[],rfl,hF5,kp5,.nil,rfl,λr v k6 H6 po kp6 tv fr6 _=>?_⟩
   obtain⟨rfl,rfl⟩:=po
   have e16:=mvL kp5 fr6 _ _ e15
   have e26:=mvL kp5 fr6 _ _ (mvL kp4 fr5 _ _ (mvL kp3 fr4 _ _ (s3 _ _ e2)))
   refine⟨_,rfl,a,_,_,_,rfl,rfl,SqL.of e16,rfl,_,_,ThV.dat tv LT.1,ThV.dat (F:=TT0) (.lst trivial e26 (G3 t2)) LT.1,LT.1,LT.1,LT.dep DD _,_,rfl,?_⟩
   rw[LT.same]
   exact hQ false _ ⟨rfl,kp6,λb o e n1 n2=>fr6 _ _ (fr5 _ _ (fr4 _ _ (s3 _ _ e) n1 n2) n1 n2) n1 n2⟩
  rintro σ' H4 ⟨rfl,kp4,fr4⟩
  have hF4:∀b,H4 b=none->F b:=λb hb=>hF _ (A29 kp4 fr4 hb)
  obtain⟨dx,g,l,ep⟩:=kpi kp4
  refine⟨_,rfl,p,dx,_,rfl,ep,P5 KK,F,p,d,k,[],[],rfl,hF4,kp4,.nil,⟨rfl,hk⟩,λr v k' H5 po kp5 tv fr5 _=>?_⟩
  obtain⟨rfl,rfl⟩:=po
  have fr:Frp p d H H5:=λb o e n1 n2=>fr5 _ _ (fr4 _ _ e n1 n2) n1 n2
  refine⟨_,rfl,G,a,dc,k'.m,k'.st,k'.g,kw,rfl,B0i sa0 kp ne fr,hk',λv2 H6 tv2 s6=>?_⟩
  rw[eW] at tv2
  have LL:=G7.land k'.m (wsF k'.kws)
  refine⟨_,_,ThV.dat (tv.keep s6) LL.1,ThV.dat tv2 LL.1,LL.1,LL.1,LL.dep DD _,?_⟩
  rw[LL.same]
  exact told H6 (kp5.same s6) λb o e n1 n2=>s6 _ _ (fr _ _ e n1 n2)
end
def D5s:DSp:=λds Q=>∃(st:Int) (cs:List Int),ds=[.int st,.list (M7 cs)]/\0<=st/\Q (Z7 (fxF st cs))
def D5t:DSp:=λds Q=>∃(e:Ef) (n:Int) (o:Option Int),ds=[Z7 e,.int n,oD o]/\(∀lo g tp,e=some (lo,g,tp)->-18000000000000000000<=g/\g<=18000000000000000000)/\Q (oD (B1j e n o))
def D5u:DSp:=λds Q=>∃(m:Nat) (ws:List Wy) (st x y:Int) (p q:Nat) (ps:List Pt),ds=[E8 m ws,.int st,.int (p:Nat),.int x,.list (ps.map G4)]/\J7 m ws/\0<=x/\x<=st/\Trp ws p ps q/\(∀pt∈ps,pt.1.length<=18)/\V4 ws st (some x) ps=some y/\Q (.list [.int (q:Nat),.int y])
theorem B62 {st:Int} {cs:List Int}:∀(n:Nat) (o:Option Int),itF st cs n o=itN st cs n o
 | 0,_=>rfl
 | n + 1,o=>B62 n _
theorem C3q {ws:List Wy} {st:Int}:∀ps:List Pt,V4 ws st none ps=none
 | []=>rfl
 | p::ps=>by
  show V4 ws st (itF st (chs ws p.1) p.2.toNat none) ps=none
  rw[B62,A65];exact C3q ps
theorem C3r {st:Int}:∀cs:List Int,foF st none cs=none
 | []=>rfl
 | c::cs=>by
  show foF st (V2 none (X0 st c)) cs=none
  exact C3r cs
theorem D5v {st:Int} {e:Int×Int×Int} {c:Int} {cs:List Int}:foF st (some e) (c::cs)=foF st (V2 (some e) (X0 st c)) cs:=rfl
theorem C3s {B:Int}:∀{cs:List Int},(∀c∈cs,-B<=c/\c<=B)->-((cs.length:Int) * B)<=cs.sum/\cs.sum<=(cs.length:Int) * B
 | [],_=>by simp
 | c::cs,h=>by
  have:=C3s (cs:=cs) λd hd=>h d (D3 _ hd)
  have h1:=h c D9
  rw[B7i,J8,B25,A8y]
  lia
theorem D5w {m:Nat} {ws:List Wy} (ok:J7 m ws) (n:Nat):-1000000000000000000<=S8 ws n:=by
 unfold S8
 split
 ·rename_i w hw;exact ok.lo w (R6 hw)
 ·decide
theorem D5x {m:Nat} {ws:List Wy} (ok:J7 m ws) {st:Int} {ns:List Nat} (hn:ns.length<=18) {lo g tp:Int} (h:fxF st (chs ws ns)=some (lo,g,tp)):-18000000000000000000<=g/\g<=18000000000000000000:=by
 have e:=C0w h
 simp only at e
 have b:=C3s (B:=1000000000000000000) (cs:=chs ws ns) λc hc=>by
  obtain⟨n,_,rfl⟩:=S5.mp hc
  exact⟨D5w ok n,C2g ok n⟩
 have l:((chs ws ns).length:Int)<=18:=by unfold chs;rw[C6];lia
 rw[e]
 have l0:(0:Int)<=((chs ws ns).length:Int):=by lia
 generalize ((chs ws ns).length:Int)=L at *
 lia
section
variable {P:Program} {w:World} {K:A9} {mg:Str->Option Value} {base:Heap}
theorem D5y (T:Txt K mg):C1 P w K mg base CX0 1 T.aA.a T.aA.d ["_law_thing"] (spD [.sh] B6n):=by
 refine F8 T.aA.F D04 rfl (λC cdv A outer s H E hr=>⟨_,(@C9 _ _ _ _ (@D8 _ _ _ _ _ (@m5 _ _ _ _ _ _ _ _ (A2k B95 (E9 A1o rfl T.au A0x (A1 (pv 0) (A1 (A0q (v:=V.ty "int") rfl T.lJ B3y rfl) A5 A0) A0) (he:=A0) (hpl:=(A4 A0 A3)))) (e7 (B9o (A2k B96 (E9 A1o rfl T.au A0x (A1 (pv 0) (A1 (A0q (v:=V.ty "bool") rfl T.lL B89 rfl) A5 A0) A0) (he:=A0) (hpl:=(A4 A0 A3))))))))),λds Q hl h=>?_⟩)
 obtain⟨d,rfl,q⟩:=h
 left
 unfold o7 at q
 cases d <;> exact q
theorem D5z (T:Txt K mg):C1 P w K mg base CX0 1 T.cE.a T.cE.d ["_law_store_here", "_law_changes"] (spD [.sh,.sh] D5s):=by
 refine F8 T.cE.F A8g rfl (λC cdv A outer s H E hr=>⟨_,(@G5 _ _ _ _ _ _ (C87 (C60 (i0:=2) (i1:=3) (i2:=4) rfl A8g.nd rfl rfl rfl DD DD DD rfl rfl rfl (C3 C5 (C3 C5 (C3 (A2 (pv 0)) E7 A0) E6) E6) (by rfl))) (@G5 _ _ _ _ _ _ (@e9 _ _ _ _ (@A1r _ _ _ _ _ _ (@l3 _ _ _ _ _ _ _ _ V5 rfl (A2m (pv 1)) (A4v (Q3 (i:=5) A8g.nd rfl (B3 rfl))) (@G5 _ _ _ _ _ _ (e9 (N0 (J5 T2 y4 (F6 K5 S6 (A2 (pv 4)) (A2 (pv 5))) C5 (C8 _))
   (C9 (D8 J0))
   N8)) (@G5 _ _ _ _ _ _ (F3 (C0 (i:=2) A8g.nd rfl (B3 rfl) (S7 A9e (E9 (A50 rfl) rfl T.dP A2c (C3 (A2 (pv 2)) (C3 (F6 A0t A2e (w6 (A2 (pv 5))) (A2 (pv 3))) E7 F4) A0) (he:=A0) (hpl:=(A4 F4 A3)))))) (@G5 _ _ _ _ _ _ (F3 (C0 (i:=3) A8g.nd rfl (B3 rfl) (F6 K5 S6 (A2 (pv 3)) (A2 (pv 5))))) (C9 (F3 (C0 (i:=4) A8g.nd rfl (B3 rfl) (S7 A02 (E9 (A0v rfl) rfl T.cN A0w (C3 (A2 (pv 0)) (C3 (F6 K5 S6 (A2 (pv 4)) (A2 (pv 5))) E7 F4) A0) (he:=A0) (hpl:=(A4 F4 A3)))))))))) (by intro _;rfl)))) (C9 (D8 (U2 (C3 (A2 (pv 2)) (C3 (A2 (pv 3)) (C3 (A2 (pv 4)) E7 A0) A0) A0)))))),λds Q hl h=>?_⟩)
 obtain⟨st,cs,rfl,h0,q⟩:=h
 left
 (try unfold A2w)
 left
 refine go ?_
 (try unfold T4);(try unfold e8)
 refine⟨fun ρ'=>∃(lo g tp:Int) (z:Sl),ρ'=[Sl.sh (.int st),Sl.sh (.list (M7 cs)),Sl.sh (.int lo),Sl.sh (.int g),Sl.sh (.int tp),z]/\fxF st cs=some (lo,g,tp),?_,?_⟩
 ·array_get_dec
  refine⟨λr ρ=>∃(R:List Int) (lo g tp:Int) (z:Sl),r=M7 R/\ρ=[Sl.sh (.int st),Sl.sh (.list (M7 cs)),Sl.sh (.int lo),Sl.sh (.int g),Sl.sh (.int tp),z]/\EOk st (lo,g,tp)/\foF st (some (lo,g,tp)) R=fxF st cs,⟨cs,0,0,st,_,rfl,rfl,C0p h0,rfl⟩,?_,?_⟩
  ·rintro x r ρ ⟨R,lo,g,tp,z,h1,rfl,hE,hF⟩
   cases R with
   | nil=>cases h1
   | cons c R=>
    cases (show x::r=PyData.int c::M7 R from h1)
    rw[D5v,C1a hE] at hF
    sizeOf_list_dec
    (try unfold T4);(try unfold e8)
    refine⟨fun ρ'=>¬ tp + c < 0/\ρ'=[Sl.sh (.int st),Sl.sh (.list (M7 cs)),Sl.sh (.int lo),Sl.sh (.int g),Sl.sh (.int tp),Sl.sh (.int c)],?_,?_⟩
    ·left
     by_cases c1:tp + c < 0
     ·rw[decide_eq_true c1]
      rw[if_pos c1,C3r] at hF
      rw[<-hF] at q
      exact G0 q
     ·rw[decide_eq_false c1]
      exact C7 ⟨c1,rfl⟩
    rintro ρ ⟨c1,rfl⟩
    rw[if_neg c1] at hF
    have hE2:OkE st (V2 (some (lo,g,tp)) (X0 st c)):=OkE.join (show OkE st (some (lo,g,tp)) from hE) (C0q h0 c)
    rw[C1a hE,if_neg c1] at hE2
    refine go ?_;left
    refine go ?_;left
    refine go ?_;left
    exact⟨R,_,_,_,_,rfl,rfl,hE2,hF⟩
  ·rintro ρ ⟨R,lo,g,tp,z,h1,rfl,hE,hF⟩
   cases R with
   | cons c R=>cases h1
   | nil=>exact⟨lo,g,tp,z,rfl,hF.symm⟩
 rintro ρ ⟨lo,g,tp,z,rfl,hF⟩
 rw[hF] at q
 refine go ?_;left
 exact⟨by show 3<=1000;decide,q⟩
theorem D50 (T:Txt K mg):C1 P w K mg base CX0 1 T.de.a T.de.d ["_law_effect_here", "_law_times_here", "_law_level"] (spD [.sh,.sh,.sh] D5t):=by
 refine F8 T.de.F A9u rfl (λC cdv A outer s H E hr=>⟨_,(@F2 _ _ _ _ _ _ (N0 (PW.pt (i9 (J5 V8 j0 (A2 (pv 0)) J0 (C8 _)) (i9 (J5 V8 j0 (A2 (pv 2)) J0 (C8 _)) (w5 (J5 T2 y4 (A2 (pv 2)) (C2 (pv 0) C5 (λ_ _=>rfl)) (C8 _))))))
   (C9 (D8 J0))
   N8) (@F2 _ _ _ _ _ _ (C8a (V7 (A2 (pv 0)) (C79 (A3l (n:=3) rfl (X7 (Q3 (i:=3) A9u.nd rfl (B3 rfl)) (X7 (Q3 (i:=4) A9u.nd rfl (B3 rfl)) (X7 (Q3 (i:=5) A9u.nd rfl (B3 rfl)) A3k))))))) (@F2 _ _ _ _ _ _ (@N0 _ _ _ _ _ _ _ _ _ (PW.pt (@A9b _ _ _ _ _ _ _ _ (J5 p8 A2f (A2 (pv 1)) C5 (C8 _)) (A9b (J5 A86 B9q (A2 (pv 4)) C5 (C8 _)) (B08 (J5 T2 y4 (S7 A02 (E9 (A0v rfl) rfl T.cN A0w (C3 (F6 K5 S6 (A2 (pv 2)) (A2 (pv 4))) (C3 (A2 (pv 5)) E7 A0) F4) (he:=F4) (hpl:=(A4 A0 A3)))) (A2 (pv 3)) (C8 _)))))) (C9 (D8 J0)) N8) (@F2 _ _ _ _ _ _ (@N0 _ _ _ _ _ _ _ _ _ (J5 T2 y4 (A2 (pv 4)) C5 (C8 _)) (@F2 _ _ _ _ _ _ (@F3 _ _ _ _ _ (@C0 _ _ 6 _ _ _ _ A9u.nd rfl (B3 rfl) (S7 A02 (E9 (A0v rfl) rfl T.cN A0w (C3 (F6 K5 S6 (A2 (pv 2)) (F6 W5 A0z (F6 A0t A2e (A2 (pv 1)) C5) (A2 (pv 4)))) (C3 (F6 K5 S6 (A2 (pv 5)) (F6 W5 A0z (F6 A0t A2e (A2 (pv 1)) C5) (A2 (pv 4)))) E7 F4) F4) (he:=F4) (hpl:=(A4 F4 A3)))) (by rfl) (by first | exact .inl rfl | exact .inr rfl | assumption))) (@F2 _ _ _ _ _ _ (N0 (PW.pt (A9b (J5 p8 A2f (A2 (pv 1)) C5 (C8 _)) (B08 (J5 T2 y4 (A2 (pv 6)) (A2 (pv 3)) (C8 _)))))
   (C9 (D8 J0))
   N8) (C9 (D8 (S7 A02 (E9 (A0v rfl) rfl T.cN A0w (C3 (F6 K5 S6 (A2 (pv 2)) (F6 W5 A0z (A2 (pv 1)) (A2 (pv 4)))) (C3 (F6 K5 S6 (A2 (pv 5)) (F6 W5 A0z (F6 A0t A2e (A2 (pv 1)) C5) (A2 (pv 4)))) E7 F4) F4) (he:=F4) (hpl:=(A4 F4 A3)))))))) N8) (C9 (D8 (S7 A02 (E9 (A0v rfl) rfl T.cN A0w (C3 (F6 K5 S6 (A2 (pv 2)) (F6 W5 A0z (A2 (pv 1)) (A2 (pv 4)))) (C3 (A2 (pv 5)) E7 A0) F4) (he:=F4) (hpl:=(A4 A0 A3)))))))))),λds Q hl h=>?_⟩)
 obtain⟨e,n,o,rfl,hg,q⟩:=h
 cases e with
 | none=>
  right
  exact q
 | some r=>
  obtain⟨lo,g,tp⟩:=r
  cases o with
  | none=>
   right
   exact q
  | some x=>
   unfold B1j at q
   dsimp only at q
   have hm:∀a,A17 a g:=λa=>.inr (by have:=hg lo g tp rfl;lia)
   right
   by_cases c1:x < lo
   ·rw[decide_eq_true c1]
    rw[if_pos c1] at q
    exact G0 q
   ·rw[decide_eq_false c1]
    rw[if_neg c1] at q
    refine C7 ?_
    by_cases c2:1 < n
    ·rw[decide_eq_true c2]
     refine G0 ?_
     by_cases c3:0<=g
     ·rw[decide_eq_true c3,decide_eq_false (show ¬ g < 0 by lia)]
      refine G0 ?_
      by_cases c4:(if tp < x + g then tp else x + g) < lo
      ·rw[decide_eq_true c4]
       rw[if_pos ⟨c2,c3,c4⟩] at q
       exact G0 q
      ·rw[decide_eq_false c4]
       rw[if_neg (λz=>c4 z.2.2),if_neg (OO)] at q
       exact C7 (C7 ⟨hm _,q⟩)
     ·rw[decide_eq_false c3,decide_eq_true (show g < 0 by lia)]
      rw[if_neg (λz=>c3 z.2.1),if_pos (OO)] at q
      refine C7 (G0 ⟨hm _,hm _,G0 ?_⟩)
      by_cases c4:(if tp + (n - 2) * g < x + (n - 1) * g then tp + (n - 2) * g else x + (n - 1) * g) < lo
      ·rw[decide_eq_true c4]
       rw[if_pos ⟨c2,c4⟩] at q
       exact G0 q
      ·rw[decide_eq_false c4]
       rw[if_neg (λz=>c4 z.2)] at q
       exact C7 ⟨hm _,hm _,q⟩
    ·rw[decide_eq_false c2]
     rw[if_neg (λz=>c2 z.1)] at q
     refine C7 ?_
     by_cases c3:g < 0
     ·rw[decide_eq_true c3]
      rw[if_pos c3,if_neg (λz=>c2 z.1)] at q
      exact G0 ⟨hm _,hm _,C7 ⟨hm _,hm _,q⟩⟩
     ·rw[decide_eq_false c3]
      rw[if_neg c3] at q
      exact C7 ⟨hm _,q⟩
end
theorem D51 {ns:List Nat} (h:ns≠[]):PyData.eqv (.list (F5 ns)) (.list [])=false:=by
 cases ns with
 | nil=>exact absurd rfl h
 | cons n ns=>rfl
theorem C3t:∀ns:List Nat,PyData.canLayAll0 (F5 ns)=true
 | []=>rfl
 | n::ns=>by
  show (PyData.canLay0 (.int (n:Nat))&&PyData.canLayAll0 (F5 ns))=true
  rw[C3t ns];rfl
section
variable {P:Program} {w:World} {K:A9} {mg:Str->Option Value} {base:Heap}
theorem D52 (T:Txt K mg):C1 P w K mg base CX0 3 T.cF.a T.cF.d ["_law_land", "_law_store_here", "_law_place", "_law_level", "_law_trip"] (spD [.sh,.sh,.sh,.sh,.sh] D5u):=by
 have fY:=@D5y P w K mg base T
 have fZ:=T.aA.b
 have qy:=@D5z P w K mg base T
 have qz:=T.cE.b
 have qG:=@D50 P w K mg base T
 have qH:=T.de.b
 refine F8 T.cF.F A22 rfl (λC cdv A outer s H E hr=>⟨_,(@G5 _ _ _ _ _ _ (e9 (N0 (l9 (l8 (A2k B4e (E9 A1o rfl T.au A0x (A1 (pv 4) (A1 (A0q (v:=V.ty "list") rfl T.aD V0 rfl) A5 A0) A0) (he:=A0) (hpl:=(A4 A0 A3))))))
   (C9 (D8 J0))
   N8)) (@G5 _ _ _ _ _ _ (@e9 _ _ _ _ (@A1r _ _ _ _ _ _ (@l3 _ _ _ _ _ _ _ _ V5 rfl (A2m (pv 4)) (A4v (Q3 (i:=5) A22.nd rfl (B3 rfl))) (@G5 _ _ _ _ _ _ (@e9 _ _ _ _ (@N0 _ _ _ _ _ _ _ _ _ (PW.pt (@i9 _ _ _ _ _ _ _ _ (l9 (l8 (A2k B4f (E9 A1o rfl T.au A0x (A1 (pv 5) (A1 (A0q (v:=V.ty "tuple") rfl T.iZ B3z rfl) A5 A0) A0) (he:=A0) (hpl:=(A4 A0 A3)))))) (w5 (J5 (i8 (K2 hr)) m7 (A39 (E9 U0 rfl T.aN T3 (A1 (pv 5) A5 A0) (he:=A0) (hpl:=A3))) C5 (C8 _))))) (C9 (D8 J0)) N8)) (@G5 _ _ _ _ _ _ (@e9 _ _ _ _ (@N0 _ _ _ _ _ _ _ _ _ (PW.pt (@i9 _ _ _ _ _ _ _ _ (l9 (l8 (C7t B4e (E9 A1o rfl T.au A0x (A1 (C2 (pv 5) C5 (λ_ _=>rfl)) (A1 (A0q (v:=V.ty "list") rfl T.aD V0 rfl) A5 A0) A6) (he:=A6) (hpl:=(A4 A0 A3)))))) (w5 (J5 (A2b (K2 hr)) m7 (C2 (pv 5) C5 (λ_ _=>rfl)) (K6 (W9 E7)) (C8 _))))) (C9 (D8 J0)) N8)) (@G5 _ _ _ _ _ _ (F3 (C0 (i:=6) A22.nd rfl (B3 rfl) (A2 (pv 2)))) (@G5 _ _ _ _ _ _ (A2q (C0 (i:=7) A22.nd rfl (B3 rfl) (W9 E7))) (@G5 _ _ _ _ _ _ (@e9 _ _ _ _ (@A1r _ _ _ _ _ _ (@l3 _ _ _ _ _ _ _ _ V5 rfl (A9i (C2 (pv 5) C5 (λ_ _=>rfl))) (A4v (Q3 (i:=8) A22.nd rfl (B3 rfl))) (@G5 _ _ _ _ _ _ (@e9 _ _ _ _ (@N0 _ _ _ _ _ _ _ _ _ (PW.pt (@i9 _ _ _ _ _ _ _ _ (l9 (l8 (E4 (B0 fY (hr.mono DD) rfl T.aA.m T.aA.F.kp fZ .nil A7 (B4 (A2 (pv 8)) E3 A0) (he:=A0) (hpl:=A3))))) (w5 (l9 (B38 Z1 T2 C5 (A2 (pv 8)) (S7 B4a (E9 U0 rfl T.aN T3 (C3 (C2 (pv 0) C5 (λ_ _=>rfl)) E7 A6) (he:=A6) (hpl:=A3)))))))) (C9 (D8 J0)) N8)) (@G5 _ _ _ _ _ _ (e9 (N0 (J5 (i8 (K2 hr)) m7 (P2 (P2 (C2 (pv 0) C5 (λ_ _=>rfl)) (A2 (pv 8)) (λ_ _=>rfl)) C5 (λ_ _=>rfl)) (A2 (pv 6)) (C8 _))
   (C9 (D8 J0))
   N8)) (@G5 _ _ _ _ _ _ (A9j (V6 (r8 A1j A8z A80 A3r (pv 7) (A1 (P2 (P2 (C2 (pv 0) C5 (λ_ _=>rfl)) (A2 (pv 8)) (λ_ _=>rfl)) C5 (λ_ _=>rfl)) A5 A6)))) (C9 (F3 (C0 (i:=6) A22.nd rfl (B3 rfl) (P2 (P2 (C2 (pv 0) C5 (λ_ _=>rfl)) (A2 (pv 8)) (λ_ _=>rfl)) C5 (λ_ _=>rfl)))))))) (by intro _;rfl)))) (@G5 _ _ _ _ _ _ (@e9 _ _ _ _ (@N0 _ _ _ _ _ _ _ _ _ (PW.pt (i9 (l9 (l8 (E4 (B0 fY (hr.mono DD) rfl T.aA.m T.aA.F.kp fZ .nil A7 (B4 (C2 (pv 5) C5 (λ_ _=>rfl)) E3 A6) (he:=A6) (hpl:=A3))))) (w5 (l9 (B38 Z1 Z1 C5 (C2 (pv 5) C5 (λ_ _=>rfl)) (F6 Z0 m6 C5 C5)))))) (C9 (D8 J0)) N8)) (@G5 _ _ _ _ _ _ (e9 (N0 (PW.pt (A9b (J5 p8 A2f (C2 (pv 5) C5 (λ_ _=>rfl)) C5 (C8 _)) (B08 (J5 (i8 (K2 hr)) m7 (A2 (pv 6)) (A2 (pv 2)) (C8 _)))))
   (C9 (D8 J0))
   N8)) (@G5 _ _ _ _ _ _ (@F3 _ _ _ _ _ (@C0 _ _ 3 _ _ _ _ A22.nd rfl (B3 rfl) (@E4 _ _ _ _ _ _ _ (@B0 _ _ _ _ _ _ _ _ _ _ _ _ _ _ _ _ qG (hr.mono DD) rfl T.de.m T.de.F.kp qH .nil A7 (B4 (E4 (B0 qy (hr.mono DD) rfl T.cE.m T.cE.F.kp qz .nil A7 (B4 (A2 (pv 1)) (B4 (A2 (pv 7)) E3 A0) A0) (he:=A0) (hpl:=(A4 A0 A3)))) (B4 (C2 (pv 5) C5 (λ_ _=>rfl)) (B4 (A2 (pv 3)) E3 A0) A6) D4) DD D4 ((A4 A6 (A4 A0 A3))))) (by rfl) (by first | exact .inl rfl | exact .inr rfl | assumption))) (C9 (F3 (C0 (i:=2) A22.nd rfl (B3 rfl) (A2 (pv 6))))))))))))) (by intro _;rfl)))) (C9 (D8 (K6 (W9 (C3 (A2 (pv 2)) (C3 (A2 (pv 3)) E7 A0) A0))))))),λds Q hl h=>?_⟩)
 obtain⟨m,ws,st,x,y,p,q0,ps,rfl,ok,x0,x1,ht,hth,ha,q⟩:=h
 (try unfold T4);(try unfold e8)
 refine⟨fun ρ'=>ρ'=[Sl.sh (E8 m ws),Sl.sh (.int st),Sl.sh (.int (p:Nat)),Sl.sh (.int x),Sl.sh (.list (ps.map G4)),.no,.no,.no,.no],?_,?_⟩
 ·left
  exact C7 rfl
 rintro ρ rfl
 refine go ?_
 (try unfold T4);(try unfold e8)
 refine⟨fun ρ'=>∃z5 z6 z7 z8:Sl,ρ'=[Sl.sh (E8 m ws),Sl.sh (.int st),Sl.sh (.int (q0:Nat)),Sl.sh (.int y),Sl.sh (.list (ps.map G4)),z5,z6,z7,z8],?_,?_⟩
 ·array_get_dec
  refine⟨λr ρ=>∃(R:List Pt) (p':Nat) (x':Int) (z5 z6 z7 z8:Sl),r=R.map G4/\ρ=[Sl.sh (E8 m ws),Sl.sh (.int st),Sl.sh (.int (p':Nat)),Sl.sh (.int x'),Sl.sh (.list (ps.map G4)),z5,z6,z7,z8]/\Trp ws p' R q0/\V4 ws st (some x') R=some y/\0<=x'/\x'<=st/\∀pt∈R,pt.1.length<=18,⟨ps,p,x,_,_,_,_,rfl,rfl,ht,ha,x0,x1,hth⟩,?_,?_⟩
  ·rintro u r ρ ⟨R,p',x',z5,z6,z7,z8,h1,rfl,ht',ha',x0',x1',hth'⟩
   cases R with
   | nil=>cases h1
   | cons pt R=>
    cases (show u::r=G4 pt::R.map G4 from h1)
    have hfew:=hth' pt D9
    cases ht' with
    | @cons _ q1 _ _ _ hp hne h1' h24 hor htr=>
    sizeOf_list_dec
    (try unfold T4);(try unfold e8)
    refine⟨fun ρ'=>ρ'=[Sl.sh (E8 m ws),Sl.sh (.int st),Sl.sh (.int (p':Nat)),Sl.sh (.int x'),Sl.sh (.list (ps.map G4)),Sl.sh (G4 pt),z6,z7,z8],?_,?_⟩
    ·right
     refine⟨rfl,rfl,A09 _ _,?_⟩
     rw[show PyData.eqv (.int (((0 + 1 + 1:Nat)):Int)) (.int 2)=true from rfl]
     exact C7 rfl
    rintro ρ rfl
    try dsimp only
    refine go ?_
    (try unfold T4);(try unfold e8)
    refine⟨fun ρ'=>ρ'=[Sl.sh (E8 m ws),Sl.sh (.int st),Sl.sh (.int (p':Nat)),Sl.sh (.int x'),Sl.sh (.list (ps.map G4)),Sl.sh (G4 pt),z6,z7,z8],?_,?_⟩
    ·right
     refine⟨DD,by rw[PyData.canLay0];exact C3t _,rfl,by show min _ 1<=64;lia,?_⟩
     rw[D51 hne]
     exact C7 rfl
    rintro ρ rfl
    refine go ?_;left
    refine go ?_;left
    refine⟨DD,?_⟩
    refine go ?_
    (try unfold T4);(try unfold e8)
    refine⟨fun ρ'=>∃z8:Sl,ρ'=[Sl.sh (E8 m ws),Sl.sh (.int st),Sl.sh (.int (p':Nat)),Sl.sh (.int x'),Sl.sh (.list (ps.map G4)),Sl.sh (G4 pt),Sl.sh (.int (q1:Nat)),Sl.ow (M7 (chs ws pt.1)),z8],?_,?_⟩
    ·array_get_dec
     refine⟨λr ρ=>∃(ns dn:List Nat) (h':Nat) (z8:Sl),r=F5 ns/\ρ=[Sl.sh (E8 m ws),Sl.sh (.int st),Sl.sh (.int (p':Nat)),Sl.sh (.int x'),Sl.sh (.list (ps.map G4)),Sl.sh (G4 pt),Sl.sh (.int (h':Nat)),Sl.ow (M7 (chs ws dn)),z8]/\Pth ws h' ns q1/\dn++ns=pt.1,⟨pt.1,[],p',_,rfl,rfl,hp,rfl⟩,?_,?_⟩
     ·rintro v r ρ ⟨ns,dn,h',z8,h2,rfl,hp',hd⟩
      cases ns with
      | nil=>cases h2
      | cons n ns=>
       cases (show v::r=PyData.int (n:Nat)::F5 ns from h2)
       have hdl:dn.length<=18:=by
        have:=congrArg p7 hd
        rw[U6] at this
        lia
       cases hp' with
       | @cons _ w _ _ hw hp2=>
       have hlt:=(A1d.mp hw).1
       have hwc:S8 ws n=w.2.2:=by unfold S8;rw[hw]
       sizeOf_list_dec
       (try unfold T4);(try unfold e8)
       refine⟨fun ρ'=>ρ'=[Sl.sh (E8 m ws),Sl.sh (.int st),Sl.sh (.int (p':Nat)),Sl.sh (.int x'),Sl.sh (.list (ps.map G4)),Sl.sh (G4 pt),Sl.sh (.int (w.1:Nat)),Sl.ow (M7 (chs ws dn)),Sl.sh (.int (n:Nat))],?_,?_⟩
       ·right
        refine⟨_,rfl,?_⟩
        rw[show o7 (.int (n:Nat))=true from rfl]
        right
        rw[decide_eq_true (show (0:Int)<=((n:Nat):Int) by lia),decide_eq_true (show ((n:Nat):Int) < (((ws.map K7).length:Nat):Int) by rw[C6];lia)]
        exact C7 rfl
       rintro ρ rfl
       try dsimp only
       refine go ?_
       (try unfold T4);(try unfold e8)
       refine⟨fun ρ'=>ρ'=[Sl.sh (E8 m ws),Sl.sh (.int st),Sl.sh (.int (p':Nat)),Sl.sh (.int x'),Sl.sh (.list (ps.map G4)),Sl.sh (G4 pt),Sl.sh (.int (w.1:Nat)),Sl.ow (M7 (chs ws dn)),Sl.sh (.int (n:Nat))],?_,?_⟩
       ·right
        rw[A5b hw]
        right
        refine⟨rfl,rfl,A09 _ _,?_⟩
        rw[A1x,beq_self_eq_true]
        exact C7 rfl
       rintro ρ rfl
       refine go ?_;right
       rw[A5b hw]
       right
       refine⟨by unfold M7 chs;rw[C6,C6];lia,?_⟩
       refine go ?_;right
       rw[A5b hw]
       right
       rw[show M7 (chs ws dn)++[PyData.int w.2.2]=M7 (chs ws (dn++[n])) by unfold M7 chs;rw[R7,R7,<-hwc];rfl]
       exact⟨ns,dn++[n],w.2.1,_,rfl,rfl,hp2,by rw[<-hd,A8t];rfl⟩
     ·rintro ρ ⟨ns,dn,h',z8,h2,rfl,hp',hd⟩
      cases ns with
      | cons n ns=>cases h2
      | nil=>
       cases hp'
       rw[A1f] at hd
       rw[hd]
       exact⟨_,rfl⟩
    rintro ρ ⟨z8,rfl⟩
    refine go ?_
    (try unfold T4);(try unfold e8)
    refine⟨fun ρ'=>ρ'=[Sl.sh (E8 m ws),Sl.sh (.int st),Sl.sh (.int (p':Nat)),Sl.sh (.int x'),Sl.sh (.list (ps.map G4)),Sl.sh (G4 pt),Sl.sh (.int (q1:Nat)),Sl.ow (M7 (chs ws pt.1)),z8],?_,?_⟩
    ·right
     refine⟨_,rfl,?_⟩
     rw[show o7 (.int pt.2)=true from rfl]
     right
     rw[decide_eq_true (show 1<=pt.2 by lia)]
     right
     refine⟨⟨DD,DD,DD⟩,?_⟩
     rw[decide_eq_true (show pt.2<=10 ^ Int.toNat 24 from h24)]
     exact C7 rfl
    rintro ρ rfl
    refine go ?_
    (try unfold T4);(try unfold e8)
    refine⟨fun ρ'=>ρ'=[Sl.sh (E8 m ws),Sl.sh (.int st),Sl.sh (.int (p':Nat)),Sl.sh (.int x'),Sl.sh (.list (ps.map G4)),Sl.sh (G4 pt),Sl.sh (.int (q1:Nat)),Sl.ow (M7 (chs ws pt.1)),z8],?_,?_⟩
    ·right
     by_cases c:1 < pt.2
     ·have e:q1=p':=by
       rcases hor with z | z
       ·lia
       ·exact z
      rw[decide_eq_true c]
      refine G0 ⟨rfl,rfl,A09 _ _,?_⟩
      rw[A1x,e,beq_self_eq_true]
      exact C7 rfl
     ·rw[decide_eq_false c]
      exact C7 rfl
    rintro ρ rfl
    refine go ?_;left
    refine⟨st,chs ws pt.1,rfl,OO,?_⟩
    right
    have ha2:V4 ws st (itF st (chs ws pt.1) pt.2.toNat (some x')) R=some y:=ha'
    obtain⟨x2,hx2⟩:∃x2,itF st (chs ws pt.1) pt.2.toNat (some x')=some x2:=by
     cases e:itF st (chs ws pt.1) pt.2.toNat (some x') with
     | none=>rw[e,C3q] at ha2;cases ha2
     | some x2=>exact⟨x2,rfl⟩
    obtain⟨e1,e2,e3⟩:=C9s x0' x1' h1' (by rw[<-B62];exact hx2)
    rw[hx2] at ha2
    refine⟨fxF st (chs ws pt.1),pt.2,some x',rfl,λlo g tp e=>D5x ok hfew e,?_⟩
    rw[e1]
    refine go ?_;right
    exact⟨R,q1,x2,_,_,_,_,rfl,rfl,htr,ha2,e2,e3,λpt h=>hth' pt (D3 _ h)⟩
  ·rintro ρ ⟨R,p',x',z5,z6,z7,z8,h1,rfl,ht',ha',x0',x1',hth'⟩
   cases R with
   | cons pt R=>cases h1
   | nil=>
    cases ht'
    cases ha'
    exact⟨_,_,_,_,rfl⟩
 rintro ρ ⟨z5,z6,z7,z8,rfl⟩
 refine go ?_;left
 exact⟨by show 2<=1000;decide,q⟩
end
def bkP (ps:List Pt):List Pt:=ps.reverse.map λp=>(p.1.reverse,p.2)
theorem C3u (p:Pt) (ps:List Pt):bkP (p::ps)=bkP ps++[(p.1.reverse,p.2)]:=by unfold bkP;rw[A8u,R7];rfl
theorem D53 {ws:List Wy} {p q:Nat} {ns:List Nat} (h:Pth (ws.map S2) p ns q):Pth ws q ns.reverse p:=by
 induction h with
 | nil=>exact .nil
 | @cons n w ns q hw _ ih=>
  rw[A8u]
  refine ih.app ?_
  rw[K3] at hw
  cases e:ws[n]? with
  | none=>rw[e] at hw;cases hw
  | some v=>rw[e] at hw;cases hw;exact .cons e .nil
theorem D54 {ws:List Wy} {p q:Nat} {ps:List Pt} (h:Trp (ws.map S2) p ps q):Trp ws q (bkP ps) p:=by
 induction h with
 | nil=>exact .nil
 | @cons p q r pt ps hp hne h1 h24 hor _ ih=>
  rw[C3u]
  refine ih.app (.cons (D53 hp) (λz=>hne (List.reverse_eq_nil_iff.mp z)) h1 h24 ?_ .nil)
  rcases hor with z | z
  ·exact .inl z
  ·exact .inr z.symm
def A0e (n:Nat) (cs:List Int):List Int:=(E5 n cs).flatten
theorem B63 (st:Int) (o:Option Int) (a b:List Int):wkF st o (a++b)=wkF st (wkF st o a) b:=by unfold wkF;rw[List.foldl_append]
theorem C3v (st:Int) (cs:List Int):∀(n:Nat) (o:Option Int),itF st cs n o=wkF st o (A0e n cs)
 | 0,o=>rfl
 | n + 1,o=>by
  show itF st cs n (wkF st o cs)=_
  rw[C3v st cs n,show A0e (n + 1) cs=cs++A0e n cs by unfold A0e;rw[A0j,A3e],B63]
def chF (ws:List Wy) (ps:List Pt):List Int:=ps.flatMap λp=>A0e p.2.toNat (chs ws p.1)
theorem B64 (ws:List Wy) (st:Int):∀(ps:List Pt) (o:Option Int),V4 ws st o ps=wkF st o (chF ws ps)
 | [],o=>rfl
 | p::ps,o=>by
  show V4 ws st (itF st (chs ws p.1) p.2.toNat o) ps=_
  rw[B64 ws st ps,C3v,show chF ws (p::ps)=A0e p.2.toNat (chs ws p.1)++chF ws ps from rfl,B63]
theorem D55 (ws:List Wy) (n:Nat):S8 (ws.map S2) n=S8 ws n:=by
 unfold S8
 rw[K3]
 cases ws[n]? <;> rfl
theorem D56 (ws:List Wy) (ns:List Nat):chs (ws.map S2) ns=chs ws ns:=by
 unfold chs
 exact A5t λn _=>D55 ws n
theorem D57 (n:Nat) (cs:List Int):A0e n cs.reverse=(A0e n cs).reverse:=by
 unfold A0e
 rw[List.reverse_flatten,List.map_replicate,List.reverse_replicate]
theorem D58 (ws:List Wy) (a b:List Pt):chF ws (a++b)=chF ws a++chF ws b:=by unfold chF;rw[List.flatMap_append]
theorem C3w (ws:List Wy):∀ps:List Pt,chF ws (bkP ps)=(chF ws ps).reverse
 | []=>rfl
 | p::ps=>by
  rw[C3u,D58,C3w ws ps,show chF ws (p::ps)=A0e p.2.toNat (chs ws p.1)++chF ws ps from rfl,List.reverse_append]
  congr 1
  show A0e p.2.toNat (chs ws p.1.reverse)++[]=_
  rw[A1f,<-D57]
  unfold chs
  rw[B27]
theorem D59 (ws:List Wy) (ps:List Pt):chF (ws.map S2) ps=chF ws ps:=by
 unfold chF
 congr 1
 funext p
 rw[D56]
theorem C3x {st:Int}:∀(cs:List Int) (a b:Int),0<=a->a<=st->wkF st (some a) cs=some b->∃z,wkF st (some (st - b)) cs.reverse=some z/\st - a<=z
 | [],a,b,_,_,e=>by cases e;exact⟨_,rfl,A0m _⟩
 | c::cs,a,b,a0,a1,e=>by
  have e:wkF st (J6 st a c) cs=some b:=e
  by_cases h:a + c < 0
  ·rw[show J6 st a c=none by unfold J6;rw[if_pos h],A6y] at e;cases e
  ·rw[show J6 st a c=some (if st < a + c then st else a + c) by unfold J6;rw[if_neg h]] at e
   obtain⟨z,hz,hl⟩:=C3x cs _ b (by split <;> lia) (by split <;> lia) e
   rw[A8u,B63,hz]
   show ∃y,J6 st z c=some y/\_
   refine⟨if st < z + c then st else z + c,by unfold J6;rw[if_neg (by split at hl <;> lia)],?_⟩
   split at hl <;> split <;> lia
theorem D6a {ws:List Wy} {st x y0:Int} {ps:List Pt} (h0:0<=y0) (h1:y0<=st) (h:V4 (ws.map S2) st (some y0) ps=some x):∃z,V4 ws st (some (st - x)) (bkP ps)=some z/\st - y0<=z:=by
 rw[B64,D59] at h
 obtain⟨z,hz,hl⟩:=C3x _ _ _ h0 h1 h
 exact⟨z,by rw[B64,C3w];exact hz,hl⟩
theorem D6b {ps:List Pt} {k:Nat} (h:∀pt∈ps,pt.1.length<=k):∀pt∈bkP ps,pt.1.length<=k:=λpt hp=>by
 unfold bkP at hp
 obtain⟨q,hq,rfl⟩:=S5.mp hp
 show q.1.reverse.length<=k
 rw[A0l]
 exact h q (List.mem_reverse.mp hq)
def bkO:Option Rd->PyData
 | none=>.none
 | some r=>.tuple [.int ((r.1:Nat):Int),.list ((bkP r.2).map G4)]
theorem D6c {m:Nat} {ws:List Wy} {st:Int} {b t:Tb} {trs:List (Option Rd)} {r:Rd} (h:A95 m ws st b t trs) (hr:some r∈trs):r.2.length<=40:=by
 obtain⟨p,hp,e⟩:=A5q.mp hr
 have e2:trs[p]?=some (some r):=by rw[M4 hp,e]
 cases eg:gt t p with
 | none=>rw[h.no p (by rw[<-h.len];exact hp) eg] at e2;cases e2
 | some x=>
  obtain⟨r',h1,h2⟩:=h.yes p x eg
  rw[h1] at e2
  cases e2
  exact h2.few
def D6d:DSp:=λds Q=>∃ps:List Pt,ds=[.list (ps.map G4)]/\ps.length<=900/\Q (.list ((bkP ps).map G4))
def D6e:DSp:=λds Q=>∃(m:Nat) (ws:List Wy) (st:Int) (g:Tb),ds=[E8 m ws,.int st,.list (B7 g)]/\J7 m ws/\0<=st/\st<=1000000000000000000000/\G1 m st g/\∀t trs,N9 m (ws.map S2) st (lkF st g) t->A95 m (ws.map S2) st (lkF st g) t trs->Q (.list (trs.map bkO))
section
variable {P:Program} {w:World} {K:A9} {mg:Str->Option Value} {base:Heap}
theorem D6f (T:Txt K mg):C1 P w K mg base CX0 1 T.aC.a T.aC.d ["store", "table"] (spD [.sh,.sh] C2q):=D3m (.cons (.cons .nil)) (C2u T)
theorem D6g (T:Txt K mg):C1 P w K mg base CX0 1 T.bH.a T.bH.d ["trip"] (spD [.sh] D6d):=by
 refine F8 T.bH.F D0d rfl (λC cdv A outer s H E hr=>⟨_,(@C9 _ _ _ _ (@D8 _ _ _ _ _ (@K6 _ _ _ _ (@A05 _ _ _ _ _ _ _ _ rfl (@W8 _ _ _ _ _ _ _ _ _ _ _ _ _ _ _ (Q0.new (N:=["trip"]) (osc:=B1 B1o) KK) rfl (C0h (B9l rfl T.cO (A1 (A2 (pv 0)) A5 A0))) (λ_=>y8) (λ_=>(U2 (C3 (K6 (C0g (B9j rfl T.aD rfl T.cO rfl (A1 (C2 (pv 1) (D6 (D0 (v:=V.int 0) rfl T.cQ ⟨_,rfl⟩)) (λ_ _=>rfl)) A5 A6)))) (C3 (C2 (pv 1) (D6 (D0 (v:=V.int 1) rfl T.eG ⟨_,rfl⟩)) (λ_ _=>rfl)) E7 A6) D4))) (by rfl) (by rfl) (by intro _;rfl)))))),λds Q hl h=>?_⟩)
 obtain⟨ps,rfl,hn,q⟩:=h
 array_get_dec
 rw[<-B27]
 refine⟨⟨rfl,by rw[C6,A0l];lia⟩,?_⟩
 refine z4 (f:=λp=>G4 (p.1.reverse,p.2)) (λp hp Q' q'=>?_) ?_
 ·unfold G4 at q' ⊢
  left
  refine⟨DD,?_⟩
  rw[show (F5 p.1).reverse=F5 p.1.reverse by unfold F5;rw[B27]]
  exact q'
 rw[X5,show A5s (λp=>G4 (p.1.reverse,p.2)) ps.reverse=(bkP ps).map G4 by unfold bkP;rw[j8];rfl]
 exact q
theorem D6h (T:Txt K mg):C1 P w K mg base CX0 9 T.bJ.a T.bJ.d ["land", "store", "goal"] (spD [.sh,.sh,.sh] D6e):=by
 have dH:=@C17 P w K mg base T
 have dI:=T.ax.b
 have fo:=@D6f P w K mg base T
 have fq:=T.aC.b
 have nK:=@D3g P w K mg base T
 have nL:=T.bI.b
 have nM:=@D6g P w K mg base T
 have nN:=T.bH.b
 refine F8 T.bJ.F C1p rfl (λC cdv A outer s H E hr=>⟨_,(@G5 _ _ _ _ _ _ (@F3 _ _ _ _ _ (@C0 _ _ 3 _ _ _ _ C1p.nd rfl (B3 rfl) (@E4 _ _ _ _ _ _ _ (@B0 _ _ _ _ _ _ _ _ _ _ _ _ _ _ _ _ nK (hr.mono DD) rfl T.bI.m T.bI.F.kp nL .nil A7 (@B4 _ _ _ _ _ _ (E4 (B0 dH (hr.mono DD) rfl T.ax.m T.ax.F.kp dI .nil A7 (B4 (A2 (pv 0)) E3 A0) (he:=A0) (hpl:=A3))) (B4 (A2 (pv 1)) (B4 (E4 (B0 fo (hr.mono DD) rfl T.aC.m T.aC.F.kp fq .nil A7 (B4 (A2 (pv 1)) (B4 (A2 (pv 2)) E3 A0) A0) (he:=A0) (hpl:=(A4 A0 A3)))) E3 D4) A0) D4) DD D4 ((A4 A0 (A4 D4 A3))))) (by rfl) (by first | exact .inl rfl | exact .inr rfl | assumption))) (@C9 _ _ _ _ (@D8 _ _ _ _ _ (@K6 _ _ _ _ (@A05 _ _ _ _ _ _ _ _ rfl (@W8 _ _ _ _ _ _ _ _ _ _ _ _ _ _ _ (Q0.new (N:=["land", "store", "goal", "told"]) (osc:=B1 B1v) KK) rfl (A2m (pv 3)) (λ_=>y8) (λ_=>(B36 (J5 V8 j0 (A2 (pv 4)) J0 (C8 _)) J0 (U2 (C3 (C2 (pv 4) C5 (λ_ _=>rfl)) (C3 (E4 (B0 nM (hr.mono DD) rfl T.bH.m T.bH.F.kp nN .nil A7 (B4 (C2 (pv 4) C5 (λ_ _=>rfl)) E3 A6) (he:=A6) (hpl:=A3))) E7 D4) A6)))) (by rfl) (by rfl) (by intro _;rfl))))))),λds Q hl h=>?_⟩)
 obtain⟨m,ws,st,g,rfl,ok,h0,hst,hg,q⟩:=h
 have m2:=ok.m2
 have few:=ok.few
 have hgl:=hg.len
 left
 refine⟨m,ws,rfl,OO,?_⟩
 left
 refine⟨st,g,rfl,OO,?_⟩
 left
 refine⟨m,_,st,_,rfl,C2p ok,h0,hst,B2f hg,λt trs ht _ htr=>?_⟩
 have hl:=htr.len
 refine go ?_
 array_get_dec
 refine⟨⟨rfl,by rw[C6];lia⟩,?_⟩
 refine z4 (f:=bkO) (λo ho Q' q'=>?_) ?_
 ·cases o with
  | none=>
   rw[show trO none=PyData.none from rfl]
   left
   exact q'
  | some r=>
   rw[show trO (some r)=PyData.tuple [.int ((r.1:Nat):Int),.list (r.2.map G4)] from rfl] at q' ⊢
   left
   exact⟨r.2,rfl,by have:=D6c htr ho;lia,DD,q'⟩
 rw[X5]
 exact q t trs ht htr
end
def A3a (c:Int):Int:=if c < 0 then -c else c
structure A0f (ws:List Wy) (M:Int):Prop where
 m0:0<=M
 le:∀w∈ws,A3a w.2.2<=M
 is:M=0\/∃w∈ws,A3a w.2.2=M
theorem A0f.uniq {ws:List Wy} {M N:Int} (h:A0f ws M) (k:A0f ws N):M=N:=by
 have a:M<=N:=by
  rcases h.is with z | ⟨w,hw,z⟩
  ·rw[z];exact k.m0
  ·rw[<-z];exact k.le w hw
 have b:N<=M:=by
  rcases k.is with z | ⟨w,hw,z⟩
  ·rw[z];exact h.m0
  ·rw[<-z];exact h.le w hw
 lia
theorem A0f.hi {m:Nat} {ws:List Wy} {M:Int} (ok:J7 m ws) (h:A0f ws M):M<=1000000000000000000:=by
 rcases h.is with z | ⟨w,hw,z⟩
 ·lia
 ·have:=ok.lo w hw
  have:=ok.hi w hw
  unfold A3a at z
  split at z <;> lia
def mtI (m:Nat) (M:Int):Int:=(((m:Nat):Int) - 1) * M
theorem D6i {m:Nat} {ws:List Wy} {M:Int} (ok:J7 m ws) (h:A0f ws M):0<=mtI m M/\mtI m M<=11000000000000000000:=by
 have h1:=ok.m1
 have h2:=ok.m2
 have h3:=h.hi ok
 have h0:=h.m0
 unfold mtI
 refine⟨B7j OO h0,?_⟩
 have:(((m:Nat):Int) - 1) * M<=11 * M:=Int.mul_le_mul_of_nonneg_right OO h0
 lia
def A8n (m:Nat) (ws:List Wy) (S:Int) (b g:Sp2):Prop:=∃t,N9 m ws S (n8 m b) t/\A8j m ws S (n8 m b) t/\enF t g=true
def A3b (m:Nat) (ws:List Wy) (S:Int) (b g:Sp2):Prop:=∃t,N9 m ws S (n8 m b) t/\A8j m ws S (n8 m b) t/\enF t g=false
def D6j:DSp:=λds Q=>∃(m:Nat) (b:Sp2),ds=[.int (m:Nat),J1 b]/\b.1 < m/\m<=900/\Q (.list (B7 (n8 m b)))
def D6k:DSp:=λds Q=>∃(t:Tb) (g:Sp2),ds=[.list (B7 t),J1 g]/\g.1 < t.length/\Q (.bool (enF t g))
def D6l:DSp:=λds Q=>∃(m:Nat) (ws:List Wy),ds=[E8 m ws]/\J7 m ws/\∀M,A0f ws M->Q (.int (mtI m M))
def D6m:DSp:=λds Q=>∃(m:Nat) (ws:List Wy) (st:Int) (b g:Sp2),ds=[E8 m ws,.int st,J1 b,J1 g]/\J7 m ws/\b.1 < m/\g.1 < m/\0<=b.2/\b.2<=st/\st<=1000000000000000000000/\∀t,N9 m ws st (n8 m b) t->A8j m ws st (n8 m b) t->Q (.bool (enF t g))
def D6n:DSp:=λds Q=>∃(m:Nat) (ws:List Wy) (b g:Sp2),ds=[E8 m ws,J1 b,J1 g]/\J7 m ws/\∀M,A0f ws M->Q (.int (mxI b.2 (g.2 + mtI m M)))
def D6o:DSp:=λds Q=>∃(m:Nat) (ws:List Wy) (b g:Sp2),ds=[E8 m ws,J1 b,J1 g]/\J7 m ws/\b.1 < m/\g.1 < m/\0<=b.2/\b.2<=1000000000000000000/\0<=g.2/\g.2<=1000000000000000000/\
 ∀M,A0f ws M->(A3b m ws (mxI b.2 (g.2 + mtI m M)) b g->Q .none)/\∀S,mxI b.2 g.2<=S->S<=mxI b.2 (g.2 + mtI m M)->A8n m ws S b g->(S=mxI b.2 g.2\/A3b m ws (S - 1) b g)->Q (.int S)
theorem C3y {m:Nat} {b:Sp2} {st:Int} (hb:b.1 < m) (h0:0<=b.2) (h1:b.2<=st):G1 m st (n8 m b):=⟨C82,λp x e=>by
 unfold n8 at e
 rw[A42 (by rw[A10];exact hb),A43] at e
 split at e
 ·cases e;exact⟨h0,h1⟩
 ·cases e⟩
theorem D6p {ws:List Wy} {M:Int} (h:A9a (ws.map λw=>A3a w.2.2) M):A0f ws M:=by
 obtain⟨h1,h2⟩:=h
 obtain⟨w,hw,e⟩:=S5.mp h1
 exact⟨by rw[<-e];unfold A3a;split <;> lia,λv hv=>h2 _ (S5.mpr ⟨v,hv,rfl⟩),.inr ⟨w,hw,e⟩⟩
section
variable {P:Program} {w:World} {K:A9} {mg:Str->Option Value} {base:Heap}
theorem D6q (T:Txt K mg):C1 P w K mg base CX0 1 T.cb.a T.cb.d ["many", "spot"] (spD [.sh,.sh] D6j):=by
 refine F8 T.cb.F C1q rfl (λC cdv A outer s H E hr=>⟨_,(@F2 _ _ _ _ _ _ (A2q (C0 (i:=2) C1q.nd rfl (B3 rfl) (B4d (K6 (W9 (C3 J0 E7 E6))) (A2 (pv 0))))) (F2 (A9k (V7 (C2 (pv 1) (D6 (D0 (v:=V.int 1) rfl T.cz ⟨_,rfl⟩)) (λ_ _=>rfl)) (b6 (pv 2) (C2 (pv 1) (D6 (D0 (v:=V.int 0) rfl T.jH ⟨_,rfl⟩)) (λ_ _=>rfl)) X9)))
   (C9 (D8 (A2 (pv 2)))))),λds Q hl h=>?_⟩)
 obtain⟨m,b,rfl,hb,hm,q⟩:=h
 right
 refine⟨DD,⟨OO,OO,DD⟩,?_⟩
 rw[show ((m:Nat):Int).toNat=m by simp,D15]
 right
 rw[A90 (by rw[Y5,A10];exact hb)]
 right
 rw[show PyData.int b.2=oD (some b.2) from rfl,B6o]
 exact q
theorem D6r (T:Txt K mg):C1 P w K mg base CX0 1 T.bq.a T.bq.d ["table", "goal"] (spD [.sh,.sh] D6k):=by
 refine F8 T.bq.F C1r rfl (λC cdv A outer s H E hr=>⟨_,(@F2 _ _ _ _ _ _ (F3 (C0 (i:=2) C1r.nd rfl (B3 rfl) (C2 (pv 0) (C2 (pv 1) (D6 (D0 (v:=V.int 0) rfl T.jH ⟨_,rfl⟩)) (λ_ _=>rfl)) (λ_ _=>rfl)))) (C9 (D8 (m5 (w4 A3m A9c (A2 (pv 2)) J0 (C8 _)) (e7 (w4 A86 B9q (A2 (pv 2)) (C2 (pv 1) (D6 (D0 (v:=V.int 1) rfl T.cz ⟨_,rfl⟩)) (λ_ _=>rfl)) (C8 _))))))),λds Q hl h=>?_⟩)
 obtain⟨t,g,rfl,hg,q⟩:=h
 unfold enF at q
 right
 rw[A5a hg]
 cases e:gt t g.1 with
 | none=>
  rw[e] at q
  right
  exact q
 | some l=>
  rw[e] at q
  right
  exact q
theorem D6s (T:Txt K mg):C1 P w K mg base CX0 1 T.bm.a T.bm.d ["land"] (spD [.sh] D6l):=by
 refine F8 T.bm.F C95 rfl (λC cdv A outer s H E hr=>⟨_,(@C9 _ _ _ _ (@D8 _ _ _ _ _ (@F6 _ _ _ _ _ _ _ _ _ _ W5 A0z (F6 A0t A2e (C2 (pv 0) (D6 (D0 (v:=V.int 0) rfl T.bP ⟨_,rfl⟩)) (λ_ _=>rfl)) C5) (@S7 _ _ _ _ _ _ C86 (@C7f _ _ _ _ _ _ _ _ _ rfl rfl T.dP A2c (@C3 _ _ _ _ _ _ (@K6 _ _ _ _ (@A05 _ _ _ _ _ _ _ _ rfl (@W8 _ _ _ _ _ _ _ _ _ _ _ _ _ _ _ (Q0.new (N:=["land"]) (osc:=B1 B1m) KK) rfl (A9i (C2 (pv 0) (D6 (D0 (v:=V.int 1) rfl T.bQ ⟨_,rfl⟩)) (λ_ _=>rfl))) (λ_=>y8) (λ_=>(S7 C7n (E9 B77 rfl T.nB B88 (C3 (C2 (pv 1) (D6 (D0 (v:=V.int 2) rfl T.bX ⟨_,rfl⟩)) (λ_ _=>rfl)) E7 A6) (he:=A6) (hpl:=A3)))) (by rfl) (by rfl) (by intro _;rfl)))) E7 A0y) (by rfl)))))),λds Q hl h=>?_⟩)
 obtain⟨m,ws,rfl,ok,q⟩:=h
 have few:=ok.few
 have m1:=ok.m1
 have m2:=ok.m2
 array_mem_dec
 refine⟨⟨rfl,by rw[C6];lia⟩,?_⟩
 refine z4 (f:=λw=>PyData.int (A3a w.2.2)) (λw hw Q' q'=>?_) ?_
 ·right
  exact q'
 rw[X5,show ws.map (λw=>PyData.int (A3a w.2.2))=(ws.map λw=>A3a w.2.2).map PyData.int by rw[j8];rfl]
 right
 rw[A9m]
 right
 refine⟨λz=>?_,λM hM=>?_⟩
 ·have e:ws=[]:=List.map_eq_nil_iff.mp z
  exact⟨.inl ⟨OO,OO⟩,q 0 ⟨A0m _,λw hw=>(by rw[e] at hw;cases hw),.inl rfl⟩⟩
 ·exact⟨.inl ⟨OO,OO⟩,q M (D6p hM)⟩
theorem D6t (T:Txt K mg):C1 P w K mg base CX0 9 T.aq.a T.aq.d ["land", "store", "begin", "goal"] (spD [.sh,.sh,.sh,.sh] D6m):=by
 have lR:=@D6r P w K mg base T
 have lS:=T.bq.b
 have cf:=@D3a P w K mg base T
 have cg:=T.aw.b
 have pE:=@D6q P w K mg base T
 have pF:=T.cb.b
 refine F8 T.aq.F D0j rfl (λC cdv A outer s H E hr=>⟨_,(@C9 _ _ _ _ (@D8 _ _ _ _ _ (@E4 _ _ _ _ _ _ _ (@B0 _ _ _ _ _ _ _ _ _ _ _ _ _ _ _ _ lR (hr.mono DD) rfl T.bq.m T.bq.F.kp lS .nil A7 (@B4 _ _ _ _ _ _ (@E4 _ _ _ _ _ _ _ (@B0 _ _ _ _ _ _ _ _ _ _ _ _ _ _ _ _ cf (hr.mono DD) rfl T.aT T.aw.F.kp cg .nil A7 (B4 (A2 (pv 0)) (B4 (A2 (pv 1)) (B4 (E4 (B0 pE (hr.mono DD) rfl T.cb.m T.cb.F.kp pF .nil A7 (B4 (C2 (pv 0) (D6 (D0 (v:=V.int 0) rfl T.bP ⟨_,rfl⟩)) (λ_ _=>rfl)) (B4 (A2 (pv 2)) E3 A0) A6) (he:=A6) (hpl:=(A4 A0 A3)))) E3 D4) A0) A0) DD A0 ((A4 A0 (A4 D4 A3))))) (B4 (A2 (pv 3)) E3 A0) D4) DD D4 ((A4 A0 A3)))))),λds Q hl h=>?_⟩)
 obtain⟨m,ws,st,b,g,rfl,ok,hb,hg,b0,b1,s1,q⟩:=h
 have m2:=ok.m2
 right
 refine⟨m,b,rfl,hb,OO,?_⟩
 right
 refine⟨m,ws,st,n8 m b,rfl,ok,OO,s1,C3y hb b0 b1,λt ht hn=>?_⟩
 right
 exact⟨t,g,rfl,by rw[ht.tab.len];exact hg,q t ht hn⟩
theorem D6u (T:Txt K mg):C1 P w K mg base CX0 2 T.aO.a T.aO.d ["land", "begin", "goal"] (spD [.sh,.sh,.sh] D6n):=by
 have lT:=@D6s P w K mg base T
 have lU:=T.bm.b
 refine F8 T.aO.F D0k rfl (λC cdv A outer s H E hr=>⟨_,(@C9 _ _ _ _ (@D8 _ _ _ _ _ (@S7 _ _ _ _ _ _ A9e (@E9 _ _ _ _ _ _ _ _ _ (A50 rfl) rfl T.dP A2c (@C3 _ _ _ _ _ _ (C2 (pv 1) (D6 (D0 (v:=V.int 1) rfl T.cz ⟨_,rfl⟩)) (λ_ _=>rfl)) (C3 (F6 K5 S6 (C2 (pv 2) (D6 (D0 (v:=V.int 1) rfl T.cz ⟨_,rfl⟩)) (λ_ _=>rfl)) (E4 (B0 lT (hr.mono DD) rfl T.bm.m T.bm.F.kp lU .nil A7 (B4 (A2 (pv 0)) E3 A0) (he:=A0) (hpl:=A3)))) E7 F4) A6) DD DD A6 ((A4 F4 A3)))))),λds Q hl h=>?_⟩)
 obtain⟨m,ws,b,g,rfl,ok,q⟩:=h
 right
 refine⟨m,ws,rfl,ok,λM hM=>?_⟩
 right
 exact q M hM
theorem C3z (T:Txt K mg):C1 P w K mg base CX0 10 T.aH.a T.aH.d ["land", "begin", "goal"] (spD [.sh,.sh,.sh] D6o):=by
 have kN:=@D6u P w K mg base T
 have kO:=T.aO.b
 have ft:=@D6t P w K mg base T
 have fu:=T.aq.b
 refine F8 T.aH.F A8e rfl (λC cdv A outer s H E hr=>⟨_,(@G5 _ _ _ _ _ _ (F3 (C0 (i:=3) A8e.nd rfl (B3 rfl) (E4 (B0 kN (hr.mono DD) rfl T.aO.m T.aO.F.kp kO .nil A7 (B4 (A2 (pv 0)) (B4 (A2 (pv 1)) (B4 (A2 (pv 2)) E3 A0) A0) A0) (he:=A0) (hpl:=(A4 A0 (A4 A0 A3))))))) (@G5 _ _ _ _ _ _ (@N0 _ _ _ _ _ _ _ _ _ (l9 (l8 (E4 (B0 ft (hr.mono DD) rfl T.aq.m T.aq.F.kp fu .nil A7 (B4 (A2 (pv 0)) (B4 (A2 (pv 3)) (B4 (A2 (pv 1)) (B4 (A2 (pv 2)) E3 A0) A0) A0) A0) (he:=A0) (hpl:=(A4 A0 (A4 A0 (A4 A0 A3)))))))) (C9 (D8 J0)) N8) (@G5 _ _ _ _ _ _ (@F3 _ _ _ _ _ (C0 (i:=4) A8e.nd rfl (B3 rfl) (S7 A9e (E9 (A50 rfl) rfl T.dP A2c (C3 (C2 (pv 1) (D6 (D0 (v:=V.int 1) rfl T.cz ⟨_,rfl⟩)) (λ_ _=>rfl)) (C3 (C2 (pv 2) (D6 (D0 (v:=V.int 1) rfl T.cz ⟨_,rfl⟩)) (λ_ _=>rfl)) E7 A6) A6) (he:=A6) (hpl:=(A4 A6 A3)))))) (@G5 _ _ _ _ _ _ (@e9 _ _ _ _ (@B1d _ _ _ _ _ (@A15 _ _ _ _ _ _ V5 (J5 T2 y4 (A2 (pv 4)) (A2 (pv 3)) (C8 _)) (@G5 _ _ _ _ _ _ (F3 (C0 (i:=5) A8e.nd rfl (B3 rfl) (F6 B3x B9p (F6 K5 S6 (A2 (pv 4)) (A2 (pv 3))) C5))) (@C9 _ _ _ _ (@N0 _ _ _ _ _ _ _ _ _ (l8 (E4 (B0 ft (hr.mono DD) rfl T.aq.m T.aq.F.kp fu .nil A7 (B4 (A2 (pv 0)) (B4 (A2 (pv 5)) (B4 (A2 (pv 1)) (B4 (A2 (pv 2)) E3 A0) A0) A0) A0) (he:=A0) (hpl:=(A4 A0 (A4 A0 (A4 A0 A3))))))) (C9 (F3 (C0 (i:=3) A8e.nd rfl (B3 rfl) (A2 (pv 5))))) (C9 (F3 (C0 (i:=4) A8e.nd rfl (B3 rfl) (F6 K5 S6 (A2 (pv 5)) C5)))))))))) (C9 (D8 (A2 (pv 4)))))))),λds Q hl h=>?_⟩)
 obtain⟨m,ws,b,g,rfl,ok,hb,hg,b0,b1,g0,g1,q⟩:=h
 left
 refine⟨m,ws,b,g,rfl,ok,λM hM=>?_⟩
 obtain⟨q1,q2⟩:=q M hM
 obtain⟨t0,t1⟩:=D6i ok hM
 have hbb:b.2<=mxI b.2 (g.2 + mtI m M):=by unfold mxI;split <;> lia
 have hbt:mxI b.2 (g.2 + mtI m M)<=12000000000000000000:=by unfold mxI;split <;> lia
 have hlo:mxI b.2 g.2<=mxI b.2 (g.2 + mtI m M):=by unfold mxI;split <;> split <;> lia
 have hbl:b.2<=mxI b.2 g.2:=by unfold mxI;split <;> lia
 generalize mxI b.2 (g.2 + mtI m M)=top at *
 refine go ?_;left
 refine⟨m,ws,top,b,g,rfl,ok,hb,hg,b0,hbb,OO,λt ht hn=>?_⟩
 cases e:enF t g with
 | false=>
  left
  exact q1 ⟨t,ht,hn,e⟩
 | true=>
  refine C7 (go ?_)
  right
  rw[show (if g.2 > b.2 then g.2 else b.2)=mxI b.2 g.2 from rfl]
  generalize mxI b.2 g.2=low at *
  refine go ?_
  (try unfold T4);(try unfold e8)
  refine⟨fun ρ'=>∃(S:Int) (z:Sl),ρ'=[Sl.sh (E8 m ws),Sl.sh (J1 b),Sl.sh (J1 g),Sl.sh (.int S),Sl.sh (.int S),z]/\low<=S/\S<=top/\A8n m ws S b g/\(S=low\/A3b m ws (S - 1) b g),?_,?_⟩
  ·unfold A9l
   refine⟨fun μ ρ=>∃(hi lo:Int) (z:Sl),ρ=[Sl.sh (E8 m ws),Sl.sh (J1 b),Sl.sh (J1 g),Sl.sh (.int hi),Sl.sh (.int lo),z]/\low<=lo/\lo<=hi/\hi<=top/\A8n m ws hi b g/\(lo=low\/A3b m ws (lo - 1) b g)/\μ=(hi - lo).toNat,⟨_,top,low,_,rfl,A0m _,hlo,A0m _,⟨t,ht,hn,e⟩,.inl rfl,rfl⟩,?_⟩
   rintro μ ρ ⟨hi,lo,z,rfl,h1,h2,h3,hT,hN,rfl⟩
   left
   by_cases c:lo < hi
   ·rw[decide_eq_true c]
    left
    try dsimp only[Blk]
    array_get_dec
    refine⟨⟨DD,DD⟩,?_⟩
    have d1:lo<=(lo + hi) / 2:=by lia
    have d2:(lo + hi) / 2 < hi:=by lia
    generalize (lo + hi) / 2=mi at *
    refine go ?_
    left
    refine⟨m,ws,mi,b,g,rfl,ok,hb,hg,b0,OO,OO,λu hu hun=>?_⟩
    cases e2:enF u g with
    | true=>
     left
     exact⟨(mi - lo).toNat,OO,mi,lo,_,rfl,h1,d1,OO,⟨u,hu,hun,e2⟩,hN,rfl⟩
    | false=>
     left
     exact⟨(hi - (mi + 1)).toNat,OO,hi,mi + 1,_,rfl,OO,OO,h3,hT,.inr (by rw[show mi + 1 - 1=mi by lia];exact⟨u,hu,hun,e2⟩),rfl⟩
   ·rw[decide_eq_false c]
    left
    have:lo=hi:=by lia
    subst this
    exact⟨lo,z,rfl,h1,h3,hT,hN⟩
  rintro ρ ⟨S,z,rfl,h1,h2,h3,h4⟩
  refine go ?_;left
  exact q2 S h1 h2 h3 h4
end
def C30 (C:Addr) (pre:Kst->List PyData->Prop) (post:Kst->List PyData->PyData->Prop):Sp:=λvs H Q _=>∃(F:Addr->Prop) (p d:Addr) (k:Kst) (us:List V) (ds:List PyData),vs=.ref p::us/\(∀b,H b=none->F b)/\E2 F C H p d k/\B2 TT0 H us ds/\pre k ds/\
 ∀r v H',post k ds r->E2 F C H' p d k->ThV TT0 H' v r->Frp p d H H'->Q v H'
def D6v (k:Kst) (ds:List PyData):Prop:=∃i:Nat,ds=[.int ((i:Nat):Int)]/\i < k.m/\KOk k.m k.st k.g k.kws
def D6w (k:Kst) (i:Nat) (r:PyData):Prop:=∃t trs,N9 k.m ((wsF k.kws).map S2) k.st (lkF k.st k.g) t/\A95 k.m ((wsF k.kws).map S2) k.st (lkF k.st k.g) t trs/\r=bkO ((trs[i]?).getD none)
def D6x (k:Kst) (ds:List PyData) (r:PyData):Prop:=∃i:Nat,ds=[.int ((i:Nat):Int)]/\D6w k i r
def D6y (k:Kst) (ds:List PyData):Prop:=∃b:Tb,ds=[.list (B7 b)]/\G1 k.m k.st b/\KOk k.m k.st k.g k.kws
def D6z (k:Kst) (ds:List PyData) (r:PyData) (k':Kst):Prop:=k'=k/\∃b t:Tb,ds=[.list (B7 b)]/\N9 k.m (wsF k.kws) k.st b t/\r=.list (B7 t)
def A1c (m:Nat) (b:Sp2):Prop:=b.1 < m/\0<=b.2/\b.2<=1000000000000000000
def B0j (m:Nat) (ws:List Wy) (b g:Sp2) (o:Option Int):Prop:=∃M,A0f ws M/\((o=none/\A3b m ws (mxI b.2 (g.2 + mtI m M)) b g)\/∃S,o=some S/\mxI b.2 g.2<=S/\S<=mxI b.2 (g.2 + mtI m M)/\A8n m ws S b g/\(S=mxI b.2 g.2\/A3b m ws (S - 1) b g))
def D60 (k:Kst) (ds:List PyData):Prop:=∃b g:Sp2,ds=[J1 b,J1 g]/\A1c k.m b/\A1c k.m g/\KOk k.m k.st k.g k.kws
def D61 (k:Kst) (ds:List PyData) (r:PyData):Prop:=∃(b g:Sp2) (o:Option Int),ds=[J1 b,J1 g]/\B0j k.m (wsF k.kws) b g o/\r=oD o
theorem D62 {F G:Addr->Prop} {C:Addr} {H H':Hp} {p d:Addr} {k:Kst} (kp:E2 F C H p d k) (kp':E2 G C H' p d k) (fr:Frp p d H H'):(∀b,H' b=none->O4 H b)/\∀b xs,H' b=some (.tup xs)->O4 H b:=by
 refine⟨λb hb=>.inl (A29 kp' fr hb),λb xs hb=>?_⟩
 cases z:H b with
 | none=>exact .inl z
 | some o=>
  have n:=S3 kp' hb
  have:=fr _ _ z n.1 n.2
  rw[hb] at this
  cases this
  exact .inr ⟨xs,z⟩
theorem D63 {G:Addr->Prop} {C:Addr} {H H':Hp} {p d l:Addr} {k:Kst} {xs:List V} (kp:E2 G C H' p d k) (fr:Frp p d H H') (g:O4 H l) (e:H' l=some (.lst xs)):H l=none:=by
 rcases g with g | ⟨ys,g⟩
 ·exact g
 ·rw[fr _ _ g (N2 kp e).1 (N2 kp e).2] at e;cases e
theorem C31 {F G:Addr->Prop} {H:Hp} (f:∀b xs,H b=some (.tup xs)->F b):∀{ws:List Wy} {us:List V},B2 G H us (ws.map K7)->B2 F H us (ws.map K7)
 | [],_,h=>by cases h;exact .nil
 | w::ws,_,h=>by
  cases h with
  | cons x r=>exact .cons (A5f x (λ_ _ e=>e) f) (C31 f r)
theorem D64 {F G:Addr->Prop} {H:Hp} {v:V} {m:Nat} {ws:List Wy} (t:ThV G H v (E8 m ws)) (f:∀b xs,H b=some (.tup xs)->F b) (fl:∀b xs,G b->TL H v b->H b=some (.lst xs)->F b):ThV F H v (E8 m ws):=by
 obtain⟨a,us,rfl,_,e,tu⟩:=W0 t
 obtain⟨v1,v2,rfl,t1,t2⟩:=Q7 tu
 cases t1
 obtain⟨l,ul,rfl,gl,el,tl⟩:=K9 t2
 exact .tup (f _ _ e) e (.cons (.int _) (.cons (.lst (fl _ _ gl (.inr ⟨a,_,rfl,e,by simp⟩) el) el (C31 f tl)) .nil))
section
variable {P:Program} {w:World} {K:A9} {mg:Str->Option Value} {base:Heap}
theorem C32 (T:Txt K mg):C1 P w K mg base CX0 10 T.cu T.cw ["self", "place"] (C30 T.ac D6v D6x):=by
 have bK:=@B0b P w K mg base T
 have bL:=A9y T
 have nO:=@D6h P w K mg base T
 have nP:=T.bJ.b
 refine T.dG.ok D0x (λvs H Q E h=>?_) (λcdv A outer s H vs Q E hr h=>?_)
 ·obtain⟨F,p,d,k,us,ds,rfl,_,_,tus,⟨i,rfl,_⟩,_⟩:=h
  obtain⟨u1,rfl,_⟩:=a9 tus
  rfl
 ·obtain⟨F,p,d,k,us,ds,rfl,hF,kp,tus,⟨i,rfl,hi,ok⟩,told⟩:=h
  obtain⟨u1,rfl,tu1⟩:=a9 tus
  cases tu1
  have kp0:=kp
  obtain⟨⟨dx,g,l,ug,ul,e1,g1,e2,t2,g3,e3,t3⟩,kvs,e4,kv⟩:=kp
  have fk:=ok.few
  have m2:=ok.m2
  have s1k:=ok.s1
  have lk:(B5 k.kws).length < 64:=by unfold B5;rw[C6];lia
  refine⟨_,(D7 (F7 (C4 D2 (B0 nO (hr.mono DD) rfl T.bJ.m T.bJ.F.kp nP .nil A7 (A1 (b9 (pv 0) T.ae T.cL bK (hr.mono DD) bL .nil A7) (A1 (O9 (pv 0) rfl) (A1 (O9 (pv 0) rfl) A5 M3) M3) D4) (he:=D4) (hpl:=(A4 M3 (A4 M3 A3)))) (pv 1) (λ_ _=>rfl)))),?_⟩
  try dsimp only[N6,Cx.nox]
  refine⟨_,rfl,p,dx,_,rfl,e1,P5 KK,F,p,d,k,[],[],rfl,hF,kp0,.nil,⟨rfl,lk⟩,λr v k' H1 po kp1 tv fr _=>?_⟩
  obtain⟨rfl,rfl⟩:=po
  have kp1':=kp1
  obtain⟨⟨dx1,g',l',ug',ul',f1,gg1,f2,tt2,gg3,f3,tt3⟩,kvs',f4,kv'⟩:=kp1
  refine⟨_,rfl,p,_,dx1,_,_,rfl,f1,T.ae,T.cK,B0a,_,rfl,p,_,dx1,_,_,rfl,f1,T.ae,T.bU,B2j,?_⟩
  refine Z8 (E:=E0) (λd=>∃t trs,N9 k'.m ((wsF k'.kws).map S2) k'.st (lkF k'.st k'.g) t/\A95 k'.m ((wsF k'.kws).map S2) k'.st (lkF k'.st k'.g) t trs/\d=.list (trs.map bkO)) (.cons tv.any (.cons (.int _) (.cons (ThV.lst trivial f2 (G3 tt2)) .nil))) ⟨k'.m,wsF k'.kws,k'.st,k'.g,rfl,ok.land,ok.s0,OO,ok.gt,λt trs a b=>⟨t,trs,a,b,rfl⟩⟩ λd2 v2 H2 hd2 tv2 s2=>?_
  obtain⟨t,trs,ht,htr,rfl⟩:=hd2
  obtain⟨l2,u2,rfl,_,el2,tu2⟩:=K9 tv2
  have lu2:u2.length=k'.m:=by rw[tu2.len,C6,htr.len]
  obtain⟨x,hx⟩:∃x,u2[i]?=some x:=⟨u2[i]'(OO),M4 _⟩
  obtain⟨dd,hdd,tx⟩:=A5e tu2 hx
  rw[K3] at hdd
  obtain⟨o,ho,rfl⟩:=A3h.mp hdd
  refine⟨_,rfl,l2,_,_,x,rfl,rfl,SqL.of el2,c9 hx,?_⟩
  exact told _ _ _ ⟨i,rfl,t,trs,ht,htr,by rw[ho];rfl⟩ (kp1'.same s2) tx λb o e n1 n2=>s2 _ _ (fr _ _ e n1 n2)
theorem D65 (T:Txt K mg):C1 P w K mg base CX0 9 T.du T.dv ["self", "base"] (j5 T.ac D6y D6z):=by
 have bK:=@B0b P w K mg base T
 have bL:=A9y T
 have cf:=@B2d P w K mg base T
 have cg:=T.aw.b
 refine T.fK.ok D0y (λvs H Q E h=>?_) (λcdv A outer s H vs Q E hr h=>?_)
 ·obtain⟨F,p,d,k,us,ds,rfl,_,_,tus,⟨b,rfl,_⟩,_⟩:=h
  obtain⟨u1,rfl,_⟩:=a9 tus
  rfl
 ·obtain⟨F,p,d,k,us,ds,rfl,hF,kp,tus,⟨b,rfl,hb,ok⟩,told⟩:=h
  obtain⟨u1,rfl,tu1⟩:=a9 tus
  obtain⟨ab,ub,rfl,_,eb,tub⟩:=K9 tu1
  have kp0:=kp
  obtain⟨⟨dx,g,l,ug,ul,e1,g1,e2,t2,g3,e3,t3⟩,kvs,e4,kv⟩:=kp
  have fk:=ok.few
  have s1k:=ok.s1
  have lk:(B5 k.kws).length < 64:=by unfold B5;rw[C6];lia
  refine⟨_,(D7 (F7 (B0 cf (hr.mono DD) rfl T.aT T.aw.F.kp cg .nil A7 (A1 (b9 (pv 0) T.ae T.cL bK (hr.mono DD) bL .nil A7) (A1 (O9 (pv 0) rfl) (A1 (pv 1) A5 A0) M3) D4) (he:=D4) (hpl:=(A4 M3 (A4 A0 A3)))))),?_⟩
  try dsimp only[N6,Cx.nox]
  refine⟨_,rfl,p,dx,_,rfl,e1,P5 KK,F,p,d,k,[],[],rfl,hF,kp0,.nil,⟨rfl,lk⟩,λr v k' H1 po kp1 tv fr ap=>?_⟩
  obtain⟨rfl,rfl⟩:=po
  have kp1':=kp1
  obtain⟨⟨dx1,g',l',ug',ul',f1,gg1,f2,tt2,gg3,f3,tt3⟩,kvs',f4,kv'⟩:=kp1
  have nb:=N2 kp0 eb
  obtain⟨⟨dx2,g2',l2',ug2,ul2,q1,qg,q2,_,ql,q3,_⟩,_⟩:=ap.2
  rw[f1] at q1
  unfold kfs at q1
  cases q1
  have hn:=D62 kp0 kp1' fr
  have fT:∀b xs,H1 b=some (.tup xs)->O4 H b/\b≠g'/\b≠l':=λb xs e=>⟨hn.2 b xs e,(λz=>by rw[z,f2] at e;cases e),λz=>by rw[z,f3] at e;cases e⟩
  have tvF:ThV (λb=>O4 H b/\b≠g'/\b≠l') H1 v (E8 k'.m (wsF k'.kws)):=D64 tv fT λb xs gb z e=>⟨gb,(λy=>qg (by rw[<-y];exact z)),λy=>ql (by rw[<-y];exact z)⟩
  refine⟨_,rfl,p,_,dx1,_,_,rfl,f1,T.ae,T.cK,B0a,_,rfl,?_⟩
  refine D5q (F:=λb=>O4 H b/\b≠g'/\b≠l') (E:=E0) ⟨λb hb=>⟨hn.1 b hb,(λz=>by rw[z,f2] at hb;cases hb),λz=>by rw[z,f3] at hb;cases hb⟩,fT⟩ (λd=>∃t,N9 k'.m (wsF k'.kws) k'.st b t/\d=.list (B7 t)) (.cons tvF (.cons (.int _) (.cons ⟨ab,ub,B7 b,rfl,rfl,(λq hq=>nomatch hq),fr _ _ eb nb.1 nb.2,G3 tub⟩ .nil))) ⟨k'.m,wsF k'.kws,k'.st,b,rfl,ok.land,ok.s0,OO,hb,λt a _=>⟨t,a,rfl⟩⟩ λd2 v2 H2 hd2 tv2 s2=>?_
  obtain⟨t,ht,rfl⟩:=hd2
  have kp2:=kp1'.same s2
  have fr2:Frp p d H H2:=λb o e n1 n2=>s2 _ _ (fr _ _ e n1 n2)
  obtain⟨l2,u2,rfl,gl2,el2,tu2⟩:=K9 tv2
  have tln:∀b xs,TL H2 (.ref l2) b->H2 b=some (.lst xs)->b=l2:=λb xs z e=>by
   rcases z with z | ⟨a,ys,z,z2,_⟩
   ·cases z;rfl
   ·cases z;rw[el2] at z2;cases z2
  refine told _ _ k' _ ⟨rfl,b,t,rfl,ht,rfl⟩ kp2 (.lst gl2.1 el2 (G3 tu2)) fr2 ⟨(λa x y e1 e2=>by cases e1;rw[el2] at e2;cases e2),?_⟩
  exact⟨⟨dx1,g',l',ug',ul',s2 _ _ f1,(λz=>gl2.2.1 (tln _ _ z (s2 _ _ f2)).symm),s2 _ _ f2,G3 tt2,(λz=>gl2.2.2 (tln _ _ z (s2 _ _ f3)).symm),s2 _ _ f3,G3 tt3⟩,kvs',s2 _ _ f4,kv'.mv λb xs e=>s2 _ _ e⟩
theorem D66 (T:Txt K mg):C1 P w K mg base CX0 11 T.bS T.bT ["self", "begin", "goal"] (C30 T.ac D60 D61):=by
 have bK:=@B0b P w K mg base T
 have bL:=A9y T
 have dJ:=@C3z P w K mg base T
 have dL:=T.aH.b
 refine T.cP.ok D0z (λvs H Q E h=>?_) (λcdv A outer s H vs Q E hr h=>?_)
 ·obtain⟨F,p,d,k,us,ds,rfl,_,_,tus,⟨b,g,rfl,_⟩,_⟩:=h
  obtain⟨u1,u2,rfl,_,_⟩:=Q7 tus
  rfl
 ·obtain⟨F,p,d,k,us,ds,rfl,hF,kp,tus,⟨b,g,rfl,hb,hg,ok⟩,told⟩:=h
  obtain⟨u1,u2,rfl,tu1,tu2⟩:=Q7 tus
  have kp0:=kp
  obtain⟨⟨dx,gg,l,ug,ul,e1,g1,e2,t2,g3,e3,t3⟩,kvs,e4,kv⟩:=kp
  have fk:=ok.few
  have lk:(B5 k.kws).length < 64:=by unfold B5;rw[C6];lia
  refine⟨_,(D7 (F7 (B0 dJ (hr.mono DD) rfl T.bD T.aH.F.kp dL .nil A7 (A1 (b9 (pv 0) T.ae T.cL bK (hr.mono DD) bL .nil A7) (A1 (pv 1) (A1 (pv 2) A5 A0) A0) D4) (he:=D4) (hpl:=(A4 A0 (A4 A0 A3)))))),?_⟩
  try dsimp only[N6,Cx.nox]
  refine⟨_,rfl,p,dx,_,rfl,e1,P5 KK,F,p,d,k,[],[],rfl,hF,kp0,.nil,⟨rfl,lk⟩,λr v k' H1 po kp1 tv fr _=>?_⟩
  obtain⟨rfl,rfl⟩:=po
  have sp1:∀{u:V} {c:Sp2},ThV TT0 H u (J1 c)->ThV TT0 H1 u (J1 c):=λ{u c} tc=>by
   obtain⟨a,us,rfl,_,e,tu⟩:=W0 (show ThV TT0 H u (.tuple ([((c.1:Nat):Int),c.2].map PyData.int)) from tc)
   exact .tup trivial (fr _ _ e (S3 kp0 e).1 (S3 kp0 e).2) (A8l tu)
  refine⟨_,rfl,_,rfl,Z8 (E:=E0) (λd=>∃o,B0j k'.m (wsF k'.kws) b g o/\d=oD o) (.cons tv.any (.cons (sp1 tu1) (.cons (sp1 tu2) .nil))) ⟨k'.m,wsF k'.kws,b,g,rfl,ok.land,hb.1,hg.1,hb.2.1,hb.2.2,hg.2.1,hg.2.2,λM hM=>⟨λhn=>⟨none,⟨M,hM,.inl ⟨rfl,hn⟩⟩,rfl⟩,λS a1 a2 a3 a4=>⟨some S,⟨M,hM,.inr ⟨S,rfl,a1,a2,a3,a4⟩⟩,rfl⟩⟩⟩ λd2 v2 H2 hd2 tv2 s2=>?_⟩
  obtain⟨o,ho,rfl⟩:=hd2
  exact told _ _ _ ⟨b,g,o,rfl,ho,rfl⟩ (kp1.same s2) tv2 λb o e n1 n2=>s2 _ _ (fr _ _ e n1 n2)
end
def D67:DSp:=λds Q=>∃(d:PyData) (m:Nat) (sc:Int),ds=[d,.int (m:Nat),.int sc]/\1<=m/\m<=900/\1<=sc/\sc<=1000000000000000000/\∀b:Sp2,A1c m b->Q (J1 b)
def D68 (C:Addr):Sp:=λvs H Q _=>∃(F G:Addr->Prop) (p d a dc:Addr) (k:Kst) (kw:Kw) (low:Tb) (vt:V) (i:Nat),vs=[.ref p,.ref a,vt,.int ((i:Nat):Int)]/\(∀b,H b=none->F b)/\E2 F C H p d k/\O6 G H a dc k.m k.st k.g kw/\kw.Perm k.kws/\(B5 kw).Nodup/\dc≠d/\KOk k.m k.st k.g k.kws/\X3 k.m k.st k.g k.kws low/\ThV TT0 H vt (.list (B7 low))/\i < k.m/\
 ∀H',E2 F C H' p d k->Frp p d H H'->Q (.bl true) H'
def D69 (C:Addr):Sp:=λvs H Q _=>∃(F:Addr->Prop) (p d:Addr) (k:Kst) (vl vb:V) (b:Tb),vs=[.ref p,vl,.int k.st,vb]/\(∀b,H b=none->F b)/\E2 F C H p d k/\ThV TT0 H vl (E8 k.m (wsF k.kws))/\ThV TT0 H vb (.list (B7 b))/\G1 k.m k.st b/\KOk k.m k.st k.g k.kws/\
 ∀H',E2 F C H' p d k->Frp p d H H'->Q (.bl true) H'
theorem D7a {F G:Addr->Prop} {C:Addr} {H:Hp} {p d:Addr} {k:Kst} (h:E2 F C H p d k) (h':E2 G C H p d k):E2 (λb=>F b/\G b) C H p d k:=by
 obtain⟨⟨dx,g,l,ug,ul,e1,g1,e2,t2,g3,e3,t3⟩,z⟩:=h
 obtain⟨⟨dx',g',l',ug',ul',e1',g1',e2',t2',g3',e3',t3'⟩,z'⟩:=h'
 rw[e1] at e1'
 unfold kfs at e1'
 cases e1'
 exact⟨⟨dx,g,l,ug,ul,e1,⟨g1,g1'⟩,e2,t2,⟨g3,g3'⟩,e3,t3⟩,z⟩
theorem D7b {C:Addr} {H:Hp} {p d l:Addr} {F:Addr->Prop} {k:Kst} {xs ys:List V} (h:E2 (λb=>F b/\b≠l) C H p d k) (e:H l=some (.lst xs)):E2 F C (upd H l (.lst ys)) p d k:=
 h.mv (λb o eb n=>by
  refine (B8 λz=>?_).trans eb
  rw[z,e] at eb
  cases eb
  exact (n _ rfl).2 z) λ_ z=>z.1
theorem C33 {F:Addr->Prop} {H H':Hp} (s:∀b xs,H b=some (.tup xs)->H' b=some (.tup xs)):∀{ws:List Wy} {us:List V},B2 F H us (ws.map K7)->B2 TT0 H' us (ws.map K7)
 | [],_,h=>by cases h;exact .nil
 | w::ws,_,h=>by
  cases h with
  | cons x r=>exact .cons (A5f x s λ_ _ _=>trivial) (C33 s r)
theorem C34 {F G:Addr->Prop} {C:Addr} {H H':Hp} {p d:Addr} {k:Kst} {v:V} {m:Nat} {ws:List Wy} (kp:E2 F C H p d k) (fr:Frp p d H H') (t:ThV G H v (E8 m ws)):ThV TT0 H' v (E8 m ws):=by
 obtain⟨a,us,rfl,_,e,tu⟩:=W0 t
 obtain⟨v1,v2,rfl,t1,t2⟩:=Q7 tu
 cases t1
 obtain⟨l,ul,rfl,_,el,tl⟩:=K9 t2
 have mt:∀b xs,H b=some (.tup xs)->H' b=some (.tup xs):=λb xs e=>fr _ _ e (S3 kp e).1 (S3 kp e).2
 exact .tup trivial (mt _ _ e) (.cons (.int _) (.cons (.lst trivial (fr _ _ el (N2 kp el).1 (N2 kp el).2) (C33 mt tl)) .nil))
theorem kpi {F:Addr->Prop} {C:Addr} {H:Hp} {p d:Addr} {k:Kst} (h:E2 F C H p d k):∃dx g l,H p=some (.ins C dx (kfs k.m k.st g d l)):=by
 obtain⟨⟨dx,g,l,_,_,e1,_⟩,_⟩:=h
 exact⟨dx,g,l,e1⟩
theorem B65 {F:Addr->Prop} {C:Addr} {H H':Hp} {p d:Addr} {k:Kst} {v:V} {t:Tb} (kp:E2 F C H p d k) (fr:Frp p d H H') (h:ThV TT0 H v (.list (B7 t))):ThV TT0 H' v (.list (B7 t)):=by
 obtain⟨a,us,rfl,_,e,tu⟩:=K9 h
 exact .lst trivial (fr _ _ e (N2 kp e).1 (N2 kp e).2) (G3 tu)
section
variable {P:Program} {w:World} {K:A9} {mg:Str->Option Value} {base:Heap}
theorem D7c (T:Txt K mg):C1 P w K mg base CX0 4 T.cR.a T.cR.d ["_law_hand_here", "_law_many_here", "_law_scale_here"] (spD [.hd,.sh,.sh] D67):=by
 have ai:=@A1w P w K mg base T
 have aj:=T.ah.b
 refine F8 T.cR.F D07 rfl (λC cdv A outer s H E hr=>⟨_,(@C9 _ _ _ _ (@D8 _ _ _ _ _ (@U2 _ _ _ _ _ _ (@C3 _ _ _ _ _ _ (E4 (B0 ai (hr.mono DD) rfl T.ah.m T.ah.F.kp aj .nil A7 (Y2 (pv 0) (B4 (A2 (pv 1)) E3 A0) A0) (he:=A0) (hpl:=(A4 A0 A3)))) (@C3 _ _ _ _ _ _ (@S7 _ _ _ _ _ _ A02 (E9 (A0v rfl) rfl T.cN A0w (C3 (F6 Z0 m6 C5 C5) (C3 (E4 (B0 ai (hr.mono DD) rfl T.ah.m T.ah.F.kp aj .nil A7 (Y2 (pv 0) (B4 (F6 W5 A0z C5 (A2 (pv 2))) E3 F4) A0) (he:=A0) (hpl:=(A4 F4 A3)))) E7 D4) F4) (he:=F4) (hpl:=(A4 D4 A3)))) E7 D4) D4)))),λds Q hl h=>?_⟩)
 obtain⟨d,m,sc,rfl,m1,m2,c1,c2,q⟩:=h
 left
 refine⟨rfl,_,rfl,OO,OO,λa a0 a1=>?_⟩
 obtain⟨a',rfl,ha⟩:=D41 a0 a1
 left
 refine⟨⟨DD,DD,DD⟩,rfl,by unfold A17;lia,_,rfl,OO,OO,λu u0 u1=>⟨DD,?_⟩⟩
 have e:(10:Int) ^ (18:Int).toNat=1000000000000000000:=by decide
 rw[e]
 exact q (a',_) ⟨ha,by show (0:Int)<=if u < 1000000000000000000 then u else 1000000000000000000;split <;> lia,by show (if u < 1000000000000000000 then u else 1000000000000000000:Int)<=_;split <;> lia⟩
theorem C35 (T:Txt K mg):C1 P w K mg base CX0 11 T.aE.a T.aE.d ["_law_keeper", "_law_state_here", "_law_table_here", "_law_place"] (D68 T.ac):=by
 have dM:=@C32 P w K mg base T
 have dN:=C11 T
 have bM:=@B2s P w K mg base T
 have bN:=T.am.b
 have qA:=@D52 P w K mg base T
 have qB:=T.cF.b
 refine T.aE.F.ok B6l (λvs H Q E h=>?_) (λcdv A outer s H vs Q E hr h=>?_)
 ·obtain⟨F,G,p,d,a,dc,k,kw,low,vt,i,rfl,_⟩:=h
  rfl
 ·obtain⟨F,G,p,d,a,dc,k,kw,low,vt,i,rfl,hF,kp,sa,pm,nd,ne,ok,lr,tt,hi,told⟩:=h
  obtain⟨t0,ht0,rfl⟩:=lr
  have eW:wsF kw=wsF k.kws:=B60 pm nd
  have fk:=ok.few
  have hk':(B5 kw).length < 64:=by rw[(A28 pm).length_eq];unfold B5;rw[C6];lia
  refine⟨_,(B9 (C0 (i:=4) B6l.nd rfl (B3 rfl) (g9 (pv 0) T.ae T.cX dM (hr.mono DD) dN .nil A7 (A1 (pv 3) A5 A0) (hst:=A0) (hpl:=A3)))
   (B9 (M5 (K1 (J3 V8 (C4 D2 (pv 2) (pv 3) (λ_ _=>rfl)) A0p (C8 _))
   (D7 (F7 (A5y V8 (pv 4) A0p (C8 _))))
   K4))
   (B9 (M5 (K1 (PW.pt (A0r (b5 (b4 (E9 C6w rfl T.au A0x (A1 (pv 4) (A1 (A0q (v:=V.ty "tuple") rfl T.iZ B3z rfl) A5 A0) A0) (he:=A0) (hpl:=(A4 A0 A3))))) (A14 (J3 B76 (E9 U0 rfl T.aN T3 (A1 (pv 4) A5 A0) (he:=A0) (hpl:=A3)) A8 (C8 _)))))
   (D7 (F7 A0o))
   K4))
   (B9 (C0 (i:=5) B6l.nd rfl (B3 rfl) (B0 qA (hr.mono DD) rfl T.cF.m T.cF.F.kp qB .nil A7 (A1 (B0 bM (hr.mono DD) rfl T.am.m T.am.F.kp bN .nil A7 (A1 (pv 1) A5 A0) (he:=A0) (hpl:=A3)) (A1 (C4 D2 (pv 1) A8 (λ_ _=>rfl)) (A1 (pv 3) (A1 (C4 D2 (pv 2) (pv 3) (λ_ _=>rfl)) (A1 (C4 X8 (pv 4) A8 (λ_ _=>rfl)) A5 A6) A6) A0) A6) D4) (he:=D4) (hpl:=(A4 A6 (A4 A0 (A4 A6 (A4 A6 A3)))))))
   (B9 (M5 (K1 (PW.pt (A0r (J3 V8 (pv 5) A0p (C8 _)) (A0r (J3 B76 (C4 D2 (pv 5) A8 (λ_ _=>rfl)) (C4 X8 (pv 4) A8 (λ_ _=>rfl)) (C8 _)) (A14 (J3 V8 (C4 D2 (pv 5) A8 (λ_ _=>rfl)) A0p (C8 _))))))
   (D7 (F7 A0o))
   K4))
   (D7 (F7 (B7q (A5y A3m (C4 D2 (C4 D2 (pv 1) A8 (λ_ _=>rfl)) (C4 X8 (pv 4) A8 (λ_ _=>rfl)) (λ_ _=>rfl)) A0p (C8 _)) (B7p (A5y A86 (C4 D2 (pv 5) A8 (λ_ _=>rfl)) (C4 D2 (C4 D2 (pv 1) A8 (λ_ _=>rfl)) (C4 X8 (pv 4) A8 (λ_ _=>rfl)) (λ_ _=>rfl)) (C8 _))))))))))),?_⟩
  try dsimp only[N6,Cx.nox]
  refine j3 λW hW=>?_
  obtain⟨dx,g0,l0,ep⟩:=kpi kp
  refine⟨_,rfl,p,dx,_,rfl,ep,P5 KK,_,rfl,F,p,d,k,[.int ((i:Nat):Int)],[.int ((i:Nat):Int)],rfl,hF,kp,.cons (.int _) .nil,⟨i,rfl,hi,ok⟩,λr v H1 po kp1 tv fr=>?_⟩
  obtain⟨i',ei,t,trs,ht,htr,rfl⟩:=po
  have:i'=i:=by
   injection ei with ei _
   injection ei with ei
   lia
  subst this
  cases ht0.uniq ht
  unfold Y8
  dsimp only[L2.start,g4,p7,E5,A5s,B29,Nat.sub]
  have sa1:=B0i sa kp ne fr
  have hg:=ok.gt
  have gl0:=hg.len
  have tl:=ht.tab.len
  obtain⟨at',ut,rfl,_,et,tut⟩:=K9 (B65 kp fr tt)
  have lut:ut.length=k.m:=by rw[tut.len,Y5];unfold lkF;rw[C6];exact tl
  obtain⟨x,hx⟩:∃x,ut[i']?=some x:=⟨ut[i']'(OO),M4 _⟩
  obtain⟨dd,hdd,tx⟩:=A5e tut hx
  have ex:(B7 (lkF k.st t0))[i']?=some (oD (gt (lkF k.st t0) i')):=by
   unfold B7
   rw[K3,A41 (by unfold lkF;rw[C6];lia)];rfl
  rw[ex] at hdd
  cases hdd
  cases eD:gt (lkF k.st t0) i' with
  | none=>
   rw[eD] at tx
   cases tx
   have e1:gt t0 i'=none:=by
    rw[B2e] at eD
    cases z:gt t0 i' with
    | none=>rfl
    | some y=>rw[z] at eD;cases eD
   rw[htr.no i' hi e1] at tv
   cases (show ThV TT0 H1 v .none from tv)
   refine @G8 W _ _ _ _ _ hW λW hW=>?_
   refine⟨λ_ _=>False,⟨_,rfl,_,rfl,at',_,_,_,rfl,rfl,SqL.of et,c9 hx,rfl,_,rfl,G0 ⟨_,rfl,rfl,?_⟩⟩,λ_ _ z=>z.elim⟩
   exact told H1 kp1 fr
  | some y=>
   rw[eD] at tx
   cases tx
   have e1:gt t0 i'=some (k.st - y):=by
    rw[B2e] at eD
    cases z:gt t0 i' with
    | none=>rw[z] at eD;cases eD
    | some u=>
     rw[z] at eD
     have:k.st - u=y:=Option.some.inj eD
     congr 1;lia
   obtain⟨rd,hr,hok⟩:=htr.yes i' _ e1
   obtain⟨y0,hy0,hy1⟩:=hok.arr
   have yb:=(B2f ht.tab).bd _ _ eD
   obtain⟨gv,hgv,hgy⟩:∃gv,gt k.g rd.1=some gv/\y0=k.st - gv:=by
    rw[B2e] at hy0
    cases eg:gt k.g rd.1 with
    | none=>rw[eg] at hy0;cases hy0
    | some gv=>rw[eg] at hy0;exact⟨gv,rfl,(Option.some.inj hy0).symm⟩
   have gb:=hg.bd _ _ hgv
   obtain⟨z,hz,hzl⟩:=D6a OO OO hy1
   rw[show k.st - (k.st - y)=y by lia] at hz
   have hrl:rd.1 < k.m:=by
    rcases Nat.lt_or_ge rd.1 k.m with c | c
    ·exact c
    ·rw[A40 (by rw[gl0];exact c)] at hgv;cases hgv
   rw[hr] at tv
   obtain⟨tu,uu,rfl,_,eu,tuu⟩:=W0 (show ThV TT0 H1 v (.tuple [.int ((rd.1:Nat):Int),.list ((bkP rd.2).map G4)]) from tv)
   obtain⟨v1,v2,rfl,tv1,tv2⟩:=Q7 tuu
   cases tv1
   refine @G8 W _ _ _ _ _ hW λW hW=>?_
   refine⟨fun σ' H'=>σ'=[some (.ref p),some (.ref a),some (.ref at'),some (.int ((i':Nat):Int)),some (.ref tu),none]/\H1=H',⟨_,rfl,_,rfl,at',_,_,_,rfl,rfl,SqL.of et,c9 hx,rfl,_,rfl,?_⟩,?_⟩
   ·rw[show decide (V.int y=V.non)=false from decide_eq_false λz=>by cases z]
    exact C7 ⟨rfl,rfl⟩
   rintro σ' _ ⟨rfl,rfl⟩
   refine @G8 W _ _ _ _ _ hW λW hW=>?_
   refine⟨fun σ' H'=>σ'=[some (.ref p),some (.ref a),some (.ref at'),some (.int ((i':Nat):Int)),some (.ref tu),none]/\H1=H',?_,?_⟩
   ·refine⟨_,rfl,_,_,_,_,_,rfl,rfl,.tup eu,B4f (.tuple []) _ rfl,_,rfl,C7 ?_⟩
    exact⟨_,rfl,tu,_,rfl,.inr (SqT.of eu),rfl,_,rfl,C7 ⟨rfl,rfl⟩⟩
   rintro σ' _ ⟨rfl,rfl⟩
   have sa1':=sa1
   obtain⟨⟨gl,ug,e1s,f1,f2,e2s,t2s⟩,kvs,e3s,kv⟩:=sa1
   refine @G8 W _ _ _ _ _ hW λW hW=>?_
   refine⟨_,rfl,G,a,dc,k.m,k.st,k.g,kw,rfl,sa1',hk',λvl H2 tvl s2=>?_⟩
   rw[eW] at tvl
   refine⟨_,rfl,a,_,_,_,rfl,rfl,SqL.of (s2 _ _ e1s),rfl,_,rfl,_,rfl,_,rfl,at',_,_,_,rfl,rfl,SqL.of (s2 _ _ et),c9 hx,_,rfl,.inr (.inl ⟨tu,_,1,_,rfl,rfl,SqT.of (s2 _ _ eu),rfl,?_⟩)⟩
   refine Z8 (E:=E0) (λd=>d=.list [.int ((rd.1:Nat):Int),.int z]) (.cons tvl.any (.cons (.int _) (.cons (.int _) (.cons (.int _) (.cons (tv2.keep s2) .nil))))) ⟨k.m,wsF k.kws,k.st,y,z,i',rd.1,bkP rd.2,rfl,ok.land,yb.1,yb.2,D54 hok.trp,(λpt h=>by have:=D6b hok.thin pt h;lia),hz,rfl⟩ λd3 v3 H3 hd3 tv3 s3=>?_
   subst hd3
   obtain⟨af,uf,rfl,_,ef,tuf⟩:=K9 tv3
   obtain⟨w1,w2,rfl,tw1,tw2⟩:=Q7 tuf
   cases tw1
   cases tw2
   have s13:=s2.tr s3
   refine @G8 W _ _ _ _ _ hW λW hW=>?_
   refine⟨fun σ' H'=>σ'=[some (.ref p),some (.ref a),some (.ref at'),some (.int ((i':Nat):Int)),some (.ref tu),some (.ref af)]/\H3=H',?_,?_⟩
   ·refine⟨_,rfl,rfl,_,rfl,?_⟩
    rw[show decide (V.ref af=V.non)=false from decide_eq_false λz=>by cases z]
    refine C7 ⟨_,rfl,af,_,_,_,rfl,rfl,SqL.of ef,rfl,_,rfl,.inr (.inl ⟨tu,_,0,_,rfl,rfl,SqT.of (s13 _ _ eu),rfl,rfl,_,rfl,?_⟩)⟩
    rw[decide_eq_true rfl]
    refine C7 ⟨_,rfl,af,_,_,_,rfl,rfl,SqL.of ef,rfl,rfl,_,rfl,?_⟩
    rw[show decide (V.int z=V.non)=false from decide_eq_false λz=>by cases z]
    exact C7 ⟨rfl,rfl⟩
   rintro σ' _ ⟨rfl,rfl⟩
   have lug:ug.length=k.m:=by rw[t2s.len,Y5];exact gl0
   obtain⟨xg,hxg⟩:∃xg,ug[rd.1]?=some xg:=⟨ug[rd.1]'(OO),M4 _⟩
   obtain⟨dg,hdg,txg⟩:=A5e t2s hxg
   have exg:(B7 k.g)[rd.1]?=some (oD (gt k.g rd.1)):=by
    unfold B7
    rw[K3,A41 (OO)];rfl
   rw[exg,hgv] at hdg
   cases hdg
   cases txg
   have gx:∀Qv:VK,Qv (.int gv) H3->tOp (A87 K) (tOp (A87 K) (U7 1) (tC (V.int 2))) (tOp (rIx K) (U7 4) (tC (V.int 0))) [some (.ref p),some (.ref a),some (.ref at'),some (.int ((i':Nat):Int)),some (.ref tu),some (.ref af)] H3 Qv:=λQv q=>⟨_,rfl,a,_,_,_,rfl,rfl,SqL.of (s13 _ _ e1s),rfl,_,rfl,.inr (.inl ⟨tu,_,0,_,rfl,rfl,SqT.of (s13 _ _ eu),rfl,gl,_,_,_,rfl,rfl,SqL.of (s13 _ _ e2s),c9 hxg,q⟩)⟩
   subst hW
   refine gx _ ⟨rfl,?_⟩
   rw[show decide (V.int gv=V.non)=false from decide_eq_false λz=>by cases z]
   refine⟨_,rfl,G0 ⟨_,rfl,af,_,_,_,rfl,rfl,SqL.of ef,rfl,gx _ ⟨_,_,rfl,rfl,?_⟩⟩⟩
   show Q (.bl (decide (gv<=z))) H3
   rw[decide_eq_true (show gv<=z by lia)]
   exact told H3 (kp1.same s13) λb o e n1 n2=>s13 _ _ (fr _ _ e n1 n2)
theorem D7d (T:Txt K mg):C1 P w K mg base CX0 10 T.aM.a T.aM.d ["_law_keeper", "_law_land", "_law_store_here", "_law_base"] (D69 T.ac):=by
 have mq:=@D65 P w K mg base T
 have mr:=D1f T
 have cf:=@B2d P w K mg base T
 have cg:=T.aw.b
 refine T.aM.F.ok B6m (λvs H Q E h=>?_) (λcdv A outer s H vs Q E hr h=>?_)
 ·obtain⟨F,p,d,k,vl,vb,b,rfl,_⟩:=h
  rfl
 ·obtain⟨F,p,d,k,vl,vb,b,rfl,hF,kp,tvl,tvb,hb,ok,told⟩:=h
  have fk:=ok.few
  have s1k:=ok.s1
  refine⟨_,(B9 (C0 (i:=4) B6m.nd rfl (B3 rfl) (W6 Z3 rfl T.aD V0 (A1 (pv 3) A5 A0) (he:=A0) (hpl:=A3)))
   (B9 (C0 (i:=5) B6m.nd rfl (B3 rfl) (g9 (pv 0) T.ae T.ij mq (hr.mono DD) mr .nil A7 (A1 (pv 4) A5 A0) (hst:=A0) (hpl:=A3)))
   (B9 (M5 (K1 (J3 (i8 (K2 hr)) (pv 5) (B0 cf (hr.mono DD) rfl T.aT T.aw.F.kp cg .nil A7 (A1 (pv 1) (A1 (pv 2) (A1 (pv 3) A5 A0) A0) A0) (he:=A0) (hpl:=(A4 A0 (A4 A0 A3)))) (C8 _))
   (D7 (F7 A0o))
   K4))
   (B9 (V6 (r8 A1j A8z A80 A3r (pv 5) (A1 A8 A5 E6)))
   (D7 (F7 (A5y (A2b (K2 hr)) (pv 4) (pv 3) (C8 _)))))))),?_⟩
  try dsimp only[N6,Cx.nox]
  obtain⟨ab,ub,rfl,_,eb,tub⟩:=K9 tvb
  refine⟨_,rfl,ab,ub,rfl,.inl (SqL.of eb),λlh hlh=>?_⟩
  unfold Y8
  dsimp only[L2.start,g4,p7,E5,A5s,B29,Nat.sub]
  obtain⟨H1,hH1⟩:∃H1,H1=upd H lh (.lst ub):=⟨_,rfl⟩
  rw[<-hH1]
  have s1:Same H H1:=by rw[hH1];exact Same.upd hlh
  have elh:H1 lh=some (.lst ub):=by rw[hH1];exact B6
  have nab:lh≠ab:=λz=>by rw[z,eb] at hlh;cases hlh
  clear hH1
  have kp1:=kp.same s1
  have hF1:∀b,H1 b=none->F b:=λb hb=>hF _ (s1.early hb)
  obtain⟨dx,g0,l0,ep⟩:=kpi kp1
  refine⟨_,rfl,p,dx,_,rfl,ep,P5 KK,_,rfl,F,p,d,k,[.ref lh],[.list (B7 b)],rfl,hF1,kp1,.cons (.lst trivial elh (G3 tub)) .nil,⟨b,rfl,hb,ok⟩,λr v k' H2 po kp2 tv fr ap=>?_⟩
  obtain⟨rfl,b',t,eb',ht,rfl⟩:=po
  have:b=b':=by
   injection eb' with eb' _
   injection eb' with eb'
   exact B2q eb'
  subst this
  obtain⟨lf,uf,rfl,gf,ef,tuf⟩:=K9 tv
  have nlf:H1 lf=none:=D63 kp2 fr gf ef
  have ntl:=ht.tab.len
  have m2:=ok.m2
  have luf:uf.length<=12:=by rw[tuf.len,Y5];lia
  have tvl2:=C34 kp1 fr (tvl.keep s1)
  have LT:=G7.tab t
  have LB:=G7.tab b
  have nb1:=N2 kp1 (s1 _ _ eb)
  have eb2:=fr _ _ (s1 _ _ eb) nb1.1 nb1.2
  have nh1:=N2 kp1 elh
  have eh2:=fr _ _ elh nh1.1 nh1.2
  have nlh:lh≠lf:=λz=>by rw[z,nlf] at elh;cases elh
  have nba:ab≠lf:=λz=>by have:=s1 _ _ eb;rw[z,nlf] at this;cases this
  refine⟨fun σ' H'=>σ'=[some (.ref p),some vl,some (.int k'.st),some (.ref ab),some (.ref lh),some (.ref lf)]/\Same H2 H',?_,?_⟩
  ·refine⟨_,rfl,_,rfl,_,rfl,_,rfl,Z8 (E:=E0) (λd=>d=.list (B7 t)) (.cons tvl2 (.cons (.int _) (.cons ⟨ab,ub,B7 b,rfl,rfl,(λq hq=>nomatch hq),eb2,G3 tub⟩ .nil))) ⟨k'.m,wsF k'.kws,k'.st,b,rfl,ok.land,ok.s0,OO,hb,λt2 h2 _=>by rw[h2.uniq ht]⟩ λd3 v3 H3 hd3 tv3 s3=>?_⟩
   subst hd3
   refine⟨_,_,ThV.dat (F:=TT0) (.lst trivial (s3 _ _ ef) (G3 tuf)) LT.1,ThV.dat tv3 LT.1,LT.1,LT.1,LT.dep DD _,_,rfl,?_⟩
   rw[LT.same]
   exact C7 ⟨rfl,s3⟩
  rintro σ' H3 ⟨rfl,s3⟩
  refine⟨_,rfl,.inl ⟨rfl,_,SqL.of (s3 _ _ ef)⟩,lf,uf,_,rfl,rfl,s3 _ _ ef,by rw[sizeLine_eq];lia,?_⟩
  have k4:∀b o,H3 b=some o->b≠lf->upd H3 lf (.lst (uf++[.int 7])) b=some o:=λb o e n=>by rw[B8 n];exact e
  refine⟨_,rfl,_,rfl,_,_,ThV.dat (F:=TT0) (.lst trivial (k4 _ _ (s3 _ _ eh2) nlh) (G3 tub)) LB.1,ThV.dat (F:=TT0) (.lst trivial (k4 _ _ (s3 _ _ eb2) nba) (G3 tub)) LB.1,LB.1,LB.1,LB.dep DD _,?_⟩
  rw[LB.same]
  refine told _ (D7b (A1a ((D7a kp2 ap.2).same s3) λc _ z _=>⟨z.1,λe=>z.2 (by rw[e];exact .inl rfl)⟩) (s3 _ _ ef)) λb o e n1 n2=>k4 _ _ (s3 _ _ (fr _ _ (s1 _ _ e) n1 n2)) λz=>by
   have:=s1 _ _ e
   rw[z,nlf] at this;cases this
end
def prD (x:Sp2×Sp2):PyData:=.tuple [J1 x.1,J1 x.2]
theorem B2t {H H':Hp} {u:V} {c:Sp2} (s:∀b xs,H b=some (.tup xs)->H' b=some (.tup xs)) (tc:ThV TT0 H u (J1 c)):ThV TT0 H' u (J1 c):=by
 obtain⟨a,us,rfl,_,e,tu⟩:=W0 (show ThV TT0 H u (.tuple ([((c.1:Nat):Int),c.2].map PyData.int)) from tc)
 exact .tup trivial (s _ _ e) (A8l tu)
theorem C36 {H H':Hp} (s:∀b xs,H b=some (.tup xs)->H' b=some (.tup xs)):∀{prs:List (Sp2×Sp2)} {us:List V},B2 TT0 H us (prs.map prD)->B2 TT0 H' us (prs.map prD)
 | [],_,h=>by cases h;exact .nil
 | x::prs,_,h=>by
  cases h with
  | cons y r=>
   obtain⟨a,us,rfl,_,e,tu⟩:=W0 (show ThV TT0 H _ (.tuple [J1 x.1,J1 x.2]) from y)
   obtain⟨v1,v2,rfl,t1,t2⟩:=Q7 tu
   exact .cons (.tup trivial (s _ _ e) (.cons (B2t s t1) (.cons (B2t s t2) .nil))) (C36 s r)
structure RCx (F G:Addr->Prop) (C p d a dc:Addr) (k:Kst) (kw:Kw) (vl vt vb vp:V) (low b:Tb) (prs:List (Sp2×Sp2)) (H:Hp):Prop where
 hF:∀b,H b=none->F b
 kp:E2 F C H p d k
 sa:O6 G H a dc k.m k.st k.g kw
 ne:dc≠d
 tl:ThV TT0 H vl (E8 k.m (wsF k.kws))
 tt:ThV TT0 H vt (.list (B7 low))
 tb:ThV TT0 H vb (.list (B7 b))
 tp:ThV TT0 H vp (.list (prs.map prD))
theorem RCx.fr {F G:Addr->Prop} {C p d a dc:Addr} {k:Kst} {kw:Kw} {vl vt vb vp:V} {low b:Tb} {prs:List (Sp2×Sp2)} {H H':Hp} (c:RCx F G C p d a dc k kw vl vt vb vp low b prs H) (kp':E2 F C H' p d k) (fr:Frp p d H H'):RCx F G C p d a dc k kw vl vt vb vp low b prs H':=by
 refine⟨λb hb=>c.hF _ (A29 kp' fr hb),kp',B0i c.sa c.kp c.ne fr,c.ne,C34 c.kp fr c.tl,B65 c.kp fr c.tt,B65 c.kp fr c.tb,?_⟩
 obtain⟨l,us,rfl,_,e,tu⟩:=K9 c.tp
 exact .lst trivial (fr _ _ e (N2 c.kp e).1 (N2 c.kp e).2) (C36 (λb xs e=>fr _ _ e (S3 c.kp e).1 (S3 c.kp e).2) tu)
theorem RCx.keep {F G:Addr->Prop} {C p d a dc:Addr} {k:Kst} {kw:Kw} {vl vt vb vp:V} {low b:Tb} {prs:List (Sp2×Sp2)} {H H':Hp} (c:RCx F G C p d a dc k kw vl vt vb vp low b prs H) (s:Same H H'):RCx F G C p d a dc k kw vl vt vb vp low b prs H':=c.fr (c.kp.same s) λb o e _ _=>s _ _ e
theorem C37 {a b:Sp2} (h:J1 a=J1 b):a=b:=by
 obtain⟨a1,a2⟩:=a
 obtain⟨b1,b2⟩:=b
 injection h with h
 injection h with h1 h2
 injection h2 with h2 _
 injection h1 with h1
 injection h2 with h2
 have h1:((a1:Nat):Int)=((b1:Nat):Int):=h1
 have h2:a2=b2:=h2
 rw[h2,show a1=b1 by lia]
theorem D7e {t t':Tb} {g:Sp2} (h:leT t t') (e:enF t g=true):enF t' g=true:=by
 unfold enF at e ⊢
 cases z:gt t g.1 with
 | none=>rw[z] at e;cases e
 | some l=>
  rw[z] at e
  have hl:g.2<=l:=of_decide_eq_true e
  have:=h g.1
  rw[z] at this
  cases z':gt t' g.1 with
  | none=>rw[z'] at this;exact absurd this n6
  | some l'=>
   rw[z'] at this
   have:=T5.mp this
   exact decide_eq_true (OO)
theorem B66 {m:Nat} {ws:List Wy} {S S':Int} {b g:Sp2} (hb:b.1 < m) (b0:0<=b.2) (b1:b.2<=S) (hs:S<=S') (h:A8n m ws S b g) (h':A3b m ws S' b g):False:=by
 obtain⟨t,h1,_,h2⟩:=h
 obtain⟨t',k1,_,k2⟩:=h'
 rw[D7e (C85 OO hs (C3y hb b0 b1) (C83 _) (B4x _) h1 k1) h2] at k2
 cases k2
theorem B0j.uniq {m:Nat} {ws:List Wy} {b g:Sp2} {o o':Option Int} (hb:A1c m b) (h:B0j m ws b g o) (k:B0j m ws b g o'):o=o':=by
 obtain⟨M,hM,h⟩:=h
 obtain⟨N,hN,k⟩:=k
 cases hM.uniq hN
 have hlo:b.2<=mxI b.2 g.2:=by unfold mxI;split <;> lia
 have key:∀S S',mxI b.2 g.2<=S->A8n m ws S b g->(S'=mxI b.2 g.2\/A3b m ws (S' - 1) b g)->S'<=S:=λS S' h1 h2 h3=>by
  rcases h3 with h3 | h3
  ·lia
  ·rcases Int.lt_or_le S S' with c | c
   ·exact (B66 hb.1 hb.2.1 OO OO h2 h3).elim
   ·exact c
 rcases h with ⟨rfl,h1⟩ | ⟨S,rfl,h1,h2,h3,h4⟩
 ·rcases k with ⟨rfl,k1⟩ | ⟨S',rfl,k1,k2,k3,k4⟩
  ·rfl
  ·exact (B66 hb.1 hb.2.1 OO k2 k3 h1).elim
 ·rcases k with ⟨rfl,k1⟩ | ⟨S',rfl,k1,k2,k3,k4⟩
  ·exact (B66 hb.1 hb.2.1 OO h2 h3 k1).elim
  ·have a1:=key S S' h1 h3 k4
   have a2:=key S' S k1 k3 h4
   congr 1;lia
def D7f (C:Addr):Sp:=λvs H Q _=>∃(F G:Addr->Prop) (p d a dc:Addr) (k:Kst) (kw:Kw) (vb vp:V) (b:Tb) (prs:List (Sp2×Sp2)),vs=[.ref p,.ref a,vb,vp]/\(∀b,H b=none->F b)/\E2 F C H p d k/\O6 G H a dc k.m k.st k.g kw/\kw.Perm k.kws/\(B5 kw).Nodup/\dc≠d/\KOk k.m k.st k.g k.kws/\X3 k.m k.st k.g k.kws k.low/\ThV TT0 H vb (.list (B7 b))/\G1 k.m k.st b/\ThV TT0 H vp (.list (prs.map prD))/\prs.length<=9/\(∀x∈prs,A1c k.m x.1/\A1c k.m x.2)/\
 ∀H',E2 F C H' p d k->Frp p d H H'->Q (.bl true) H'
section
variable {P:Program} {w:World} {K:A9} {mg:Str->Option Value} {base:Heap}
theorem D7g (T:Txt K mg):C1 P w K mg base CX0 12 T.cm.a T.cm.d ["_law_keeper", "_law_state_here", "_law_base", "_law_pairs"] (D7f T.ac):=by
 have kb:=@D66 P w K mg base T
 have kd:=D1g T
 have pG:=@D4h P w K mg base T
 have pH:=D1e T
 have bM:=@B2s P w K mg base T
 have bN:=T.am.b
 have qI:=@D5r P w K mg base T
 have qJ:=T.dh.b
 have eQ:=@C35 P w K mg base T
 have eR:=T.aE.b
 have ke:=@D7d P w K mg base T
 have kf:=T.aM.b
 have dj:=@B2g P w K mg base T
 have dk:=T.bj.b
 have dJ:=@C3z P w K mg base T
 have dL:=T.aH.b
 refine T.cm.F.ok A9w (λvs H Q E h=>?_) (λcdv A outer s H vs Q E hr h=>?_)
 ·obtain⟨F,G,p,d,a,dc,k,kw,vb,vp,b,prs,rfl,_⟩:=h
  rfl
 ·obtain⟨F,G,p,d,a,dc,k,kw,vb,vp,b,prs,rfl,hF,kp,sa,pm,nd,ne,ok,lr,tvb,hb,tvp,hl9,hsp,told⟩:=h
  have eW:wsF kw=wsF k.kws:=B60 pm nd
  have fk:=ok.few
  have s1k:=ok.s1
  have hk':(B5 kw).length < 64:=by rw[(A28 pm).length_eq];unfold B5;rw[C6];lia
  refine⟨_,(B9 (C0 (i:=4) A9w.nd rfl (B3 rfl) (B0 bM (hr.mono DD) rfl T.am.m T.am.F.kp bN .nil A7 (A1 (pv 1) A5 A0) (he:=A0) (hpl:=A3)))
   (B9 (C0 (i:=5) A9w.nd rfl (Or.inr rfl) (B0 dj (hr.mono DD) rfl T.bC T.bj.F.kp dk .nil A7 (A1 (pv 4) (A1 (C4 D2 (pv 1) A8 (λ_ _=>rfl)) (A1 (C4 D2 (pv 1) A8 (λ_ _=>rfl)) A5 A6) A6) A0) (he:=A0) (hpl:=(A4 A6 (A4 A6 A3)))))
   (B9 (M5 (K1 (PW.pt (A0r (b5 (b4 (B0 qI (hr.mono DD) rfl T.dh.m T.dh.F.kp qJ .nil A7 (A1 (pv 0) (A1 (pv 1) A5 A0) A0) (he:=A0) (hpl:=(A4 A0 A3))))) (A14 (J3 (i8 (K2 hr)) (b9 (pv 0) T.ae T.jV pG (hr.mono DD) pH .nil A7) (pv 5) (C8 _)))))
   (D7 (F7 A0o))
   K4))
   (B9 (M5 (K1 (b5 (b4 (B0 ke (hr.mono DD) rfl T.aM.m T.aM.F.kp kf .nil A7 (A1 (pv 0) (A1 (pv 4) (A1 (C4 D2 (pv 1) A8 (λ_ _=>rfl)) (A1 (pv 2) A5 A0) A6) A0) A0) (he:=A0) (hpl:=(A4 A0 (A4 A6 (A4 A0 A3)))))))
   (D7 (F7 A0o))
   K4))
   (B9 (l3 V5 rfl (A0s (pv 3)) (A3l (n:=2) rfl (X7 (Q3 (i:=6) A9w.nd rfl (B3 rfl)) (X7 (Q3 (i:=7) A9w.nd rfl (B3 rfl)) A3k)))
   (D7 (K1 (J3 (i8 (K2 hr)) (g9 (pv 0) T.ae T.eE kb (hr.mono DD) kd .nil A7 (A1 (pv 6) (A1 (pv 7) A5 A0) A0) (hst:=A0) (hpl:=(A4 A0 A3))) (B0 dJ (hr.mono DD) rfl T.bD T.aH.F.kp dL .nil A7 (A1 (pv 4) (A1 (pv 6) (A1 (pv 7) A5 A0) A0) A0) (he:=A0) (hpl:=(A4 A0 (A4 A0 A3)))) (C8 _))
   (D7 (F7 A0o))
   K4)))
   (D7 (F7 (E9 (B86 rfl) rfl T.nC B9a (A1 (W8 (Q0.new (N:=["_law_keeper", "_law_state_here", "_law_base", "_law_pairs", "_law_land", "_law_table_here", "_law_begin", "_law_goal"]) (osc:=B1 B12) KK) rfl (A16 rfl T.cj (A1 (C4 D2 (pv 1) A8 (λ_ _=>rfl)) A5 A6)) (λ_=>A2a) (λ_=>(B0 eQ (hr.mono DD) rfl T.aE.m T.aE.F.kp eR .nil A7 (A1 (pv 0) (A1 (pv 1) (A1 (pv 5) (A1 (pv 8) A5 A0) A0) A0) A0) (he:=A0) (hpl:=(A4 A0 (A4 A0 (A4 A0 A3))))))) A5 A0y) (he:=A0y) (hpl:=A3))))))))),?_⟩
  try dsimp only[N6,Cx.nox]
  refine j3 λW hW=>?_
  have sa0:=sa
  obtain⟨⟨gl,ug,e1,f1,f2,e2,t2⟩,kvs,e3,kv⟩:=sa
  refine⟨_,rfl,G,a,dc,k.m,k.st,k.g,kw,rfl,sa0,hk',λvl H1 tvl s1=>?_⟩
  rw[eW] at tvl
  refine @G8 W _ _ _ _ _ hW λW hW=>?_
  refine⟨_,rfl,_,rfl,a,_,_,_,rfl,rfl,SqL.of (s1 _ _ e1),rfl,_,rfl,a,_,_,_,rfl,rfl,SqL.of (s1 _ _ e1),rfl,[E8 k.m (wsF k.kws),.int k.st,.list (B7 k.g)],(λd=>∃t,N9 k.m ((wsF k.kws).map S2) k.st (lkF k.st k.g) t/\d=.list (B7 (lkF k.st t))),.cons tvl.any (.cons (.int _) (.cons (.lst trivial (s1 _ _ e2) (G3 t2)) .nil)),⟨k.m,wsF k.kws,k.st,k.g,rfl,ok.land,ok.s0,OO,ok.gt,λt ht=>⟨t,ht,rfl⟩⟩,λd2 vt H2 hd2 tvt s2=>?_⟩
  obtain⟨t,ht,rfl⟩:=hd2
  have lrt:X3 k.m k.st k.g k.kws (lkF k.st t):=⟨t,ht,rfl⟩
  have elow:=lr.uniq lrt
  unfold Y8
  dsimp only[L2.start,g4,p7,E5,A5s,B29,Nat.sub]
  have s12:=s1.tr s2
  have c2:RCx F G T.ac p d a dc k kw vl vt vb vp (lkF k.st t) b prs H2:=⟨λb hb=>hF _ (s12.early hb),kp.same s12,sa0.mv (λb o e _ _=>s12 _ _ e) (λ_ z=>z),ne,tvl.any.keep s2,tvt.any,tvb.keep s12,tvp.keep s12⟩
  have fr2:Frp p d H H2:=λb o e _ _=>s12 _ _ e
  clear sa0 e1 e2 e3 kv t2 tvl tvt s1 s2 tvb tvp kp hF
  have LT:=G7.tab (lkF k.st t)
  refine @G8 W _ _ _ _ _ hW λW hW=>?_
  refine⟨fun σ' H'=>σ'=[some (.ref p),some (.ref a),some vb,some vp,some vl,some vt,none,none]/\RCx F G T.ac p d a dc k kw vl vt vb vp (lkF k.st t) b prs H'/\Frp p d H H',?_,?_⟩
  ·refine⟨_,rfl,_,rfl,F,G,p,d,a,dc,k,kw,rfl,c2.hF,c2.kp,c2.sa,pm,nd,ne,by unfold B5;rw[C6];lia,λH3 kp3 fr3=>⟨_,rfl,C7 ?_⟩⟩
   have c3:=c2.fr kp3 fr3
   obtain⟨dx,g0,l0,ep⟩:=kpi c3.kp
   refine⟨_,rfl,p,dx,_,rfl,ep,P5 KK,F,p,d,k,[],[],rfl,c3.hF,c3.kp,.nil,rfl,λr v k' H4 po kp4 tv fr4 _=>?_⟩
   obtain⟨rfl,rfl⟩:=po
   have c4:=c3.fr kp4 fr4
   rw[elow] at tv
   refine⟨_,rfl,_,_,ThV.dat tv LT.1,ThV.dat c4.tt LT.1,LT.1,LT.1,LT.dep DD _,_,rfl,?_⟩
   rw[LT.same]
   exact C7 ⟨rfl,c4,λb o e n1 n2=>fr4 _ _ (fr3 _ _ (fr2 _ _ e n1 n2) n1 n2) n1 n2⟩
  clear c2 fr2
  rintro σ' H5 ⟨rfl,c5,fr5⟩
  refine @G8 W _ _ _ _ _ hW λW hW=>?_
  refine⟨fun σ' H'=>σ'=[some (.ref p),some (.ref a),some vb,some vp,some vl,some vt,none,none]/\RCx F G T.ac p d a dc k kw vl vt vb vp (lkF k.st t) b prs H'/\Frp p d H H',?_,?_⟩
  ·obtain⟨⟨gl,ug,e1,f1,f2,e2,t2⟩,kvs,e3,kv⟩:=c5.sa
   refine⟨_,rfl,_,rfl,_,rfl,a,_,_,_,rfl,rfl,SqL.of e1,rfl,_,rfl,F,p,d,k,vl,vb,b,rfl,c5.hF,c5.kp,c5.tl,c5.tb,hb,ok,λH6 kp6 fr6=>⟨_,rfl,C7 ⟨rfl,c5.fr kp6 fr6,λb o e n1 n2=>fr6 _ _ (fr5 _ _ e n1 n2) n1 n2⟩⟩⟩
  clear c5 fr5
  rintro σ' H7 ⟨rfl,c7,fr7⟩
  obtain⟨ap,up,rfl,_,eap,tup⟩:=K9 c7.tp
  have lup:up.length=prs.length:=by rw[tup.len,C6]
  refine @G8 W _ _ _ _ _ hW λW hW=>?_
  refine⟨_,rfl,ap,rfl,⟨_,SqL.of eap⟩,?_⟩
  refine B7z (K:=K) (a:=ap) (xs:=up) (λi σ' H'=>∃x6 x7,σ'=[some (.ref p),some (.ref a),some vb,some (.ref ap),some vl,some vt,x6,x7]/\RCx F G T.ac p d a dc k kw vl vt vb (.ref ap) (lkF k.st t) b prs H'/\H' ap=some (.lst up)/\Frp p d H H') ⟨none,none,rfl,c7,eap,fr7⟩ ?_ ?_ ?_
  ·rintro i σ' H' hi ⟨x6,x7,rfl,c,e,fr⟩
   exact SqL.of e
  ·rintro i x σ' H' hx ⟨x6,x7,rfl,c,e,fr⟩
   obtain⟨a2,u2,ez,_,e2,tu2⟩:=K9 c.tp
   cases ez
   rw[e] at e2
   cases e2
   obtain⟨dd,hdd,tx⟩:=A5e tu2 hx
   rw[K3] at hdd
   obtain⟨z,hz,rfl⟩:=A3h.mp hdd
   obtain⟨hz1,hz2⟩:=hsp z (R6 hz)
   obtain⟨tz,uz,rfl,_,etz,tuz⟩:=W0 (show ThV TT0 H' x (.tuple [J1 z.1,J1 z.2]) from tx)
   obtain⟨w1,w2,rfl,tw1,tw2⟩:=Q7 tuz
   refine⟨tz,_,rfl,SqT.of etz,rfl,w1,_,rfl,w2,_,rfl,rfl,?_⟩
   obtain⟨dx,g0,l0,ep⟩:=kpi c.kp
   refine⟨_,rfl,p,dx,_,rfl,ep,P5 KK,_,rfl,_,rfl,F,p,d,k,[w1,w2],[J1 z.1,J1 z.2],rfl,c.hF,c.kp,.cons tw1 (.cons tw2 .nil),⟨z.1,z.2,rfl,hz1,hz2,ok⟩,λr v H8 po kp8 tv fr8=>?_⟩
   obtain⟨b1,g1,o,eds,ho,rfl⟩:=po
   have:b1=z.1/\g1=z.2:=by
    injection eds with q1 q2
    injection q2 with q2 _
    exact⟨(C37 q1).symm,(C37 q2).symm⟩
   obtain⟨rfl,rfl⟩:=this
   have c8:=c.fr kp8 fr8
   have mt:∀b xs,H' b=some (.tup xs)->H8 b=some (.tup xs):=λb xs e=>fr8 _ _ e (S3 c.kp e).1 (S3 c.kp e).2
   have LO:=G7.o (n:=0) o
   refine⟨_,rfl,_,rfl,_,rfl,Z8 (E:=E0) (λd=>d=oD o) (.cons c8.tl (.cons (B2t mt tw1) (.cons (B2t mt tw2) .nil))) ⟨k.m,wsF k.kws,z.1,z.2,rfl,ok.land,hz1.1,hz2.1,hz1.2.1,hz1.2.2,hz2.2.1,hz2.2.2,λM hM=>⟨λhn=>by rw[ho.uniq hz1 ⟨M,hM,.inl ⟨rfl,hn⟩⟩];rfl,λS a1 a2 a3 a4=>by rw[ho.uniq hz1 ⟨M,hM,.inr ⟨S,rfl,a1,a2,a3,a4⟩⟩];rfl⟩⟩ λd9 v9 H9 hd9 tv9 s9=>?_⟩
   subst hd9
   refine⟨_,_,ThV.dat (tv.keep s9) LO.1,ThV.dat tv9 LO.1,LO.1,LO.1,LO.dep DD _,_,rfl,?_⟩
   rw[LO.same]
   exact C7 ⟨_,_,rfl,c8.keep s9,s9 _ _ (fr8 _ _ e (N2 c.kp e).1 (N2 c.kp e).2),λb o e n1 n2=>s9 _ _ (fr8 _ _ (fr _ _ e n1 n2) n1 n2)⟩
  clear c7 fr7
  rintro σ' H8 ⟨x6,x7,rfl,c8,_,fr8⟩
  obtain⟨⟨gl,ug,e1,f1,f2,e2,t2⟩,kvs,e3,kv⟩:=c8.sa
  have m2:=ok.m2
  subst hW
  refine⟨_,rfl,a,_,_,_,rfl,rfl,SqL.of e1,rfl,_,rfl,OO,OO,?_⟩
  refine B3v (n:=((k.m:Nat):Int).toNat) (λq ys Hn=>RCx F G T.ac p d a dc k kw vl vt vb (.ref ap) (lkF k.st t) b prs Hn/\Frp p d H Hn/\ys=(E5 q true).map V.bl) ?_ ⟨c8,fr8,rfl⟩ ?_ ?_ ?_
  ·rw[sizeLine_eq];lia
  ·rintro q ys Hn hq ⟨_,_,rfl⟩
   rw[C6,A10];exact F9 _
  ·rintro q ys Hn hq ⟨cn,frn,rfl⟩ ca
   unfold A19
   refine G0 ⟨_,rfl,_,rfl,_,rfl,_,rfl,F,G,p,d,a,dc,k,kw,lkF k.st t,vt,q,by rw[Int.zero_add];rfl,cn.hF,cn.kp,cn.sa,pm,nd,ne,ok,lrt,cn.tt,OO,λH9 kp9 fr9=>⟨cn.fr kp9 fr9,λb o e n1 n2=>fr9 _ _ (frn _ _ e n1 n2) n1 n2,by rw[List.replicate_succ',R7];rfl⟩⟩
  rintro ys Hn ⟨cn,frn,rfl⟩ b2 hb2
  refine⟨b2,_,rfl,SqL.of B6,?_⟩
  rw[show (E5 ((k.m:Nat):Int).toNat true).all id=true by
   rw[List.all_eq_true];intro x hx;rw[(List.mem_replicate.mp hx).2];rfl]
  exact told _ (cn.kp.same (Same.upd hb2)) λb o e n1 n2=>Same.upd hb2 _ _ (frn _ _ e n1 n2)
end
structure L92 (F:Addr->Prop) (C hd hl a dc p d:Addr) (kk:Kst) (H:Hp):Prop where
 hnd:Hd H hd hl
 fF:∀b,F b->b≠hd
 new:∀b,H b=none->F b
 sta:O6 F H a dc kk.m kk.st kk.g kk.kws
 kp:E2 F C H p d kk
 ne:dc≠d
 ok:KOk kk.m kk.st kk.g kk.kws
 low:X3 kk.m kk.st kk.g kk.kws kk.low
section
variable {F G:Addr->Prop} {C hd hl a dc p d:Addr} {kk:Kst} {H H':Hp}
theorem L92.draw (L:L92 F C hd hl a dc p d kk H) (k:∀b o,H b=some o->b≠hd->H' b=some o) (h:Hd H' hd hl):L92 F C hd hl a dc p d kk H':=by
 have nh:∀b o,H b=some o->(∀xs,o=.lst xs->F b)->b≠hd:=λb o e n=>by
  by_cases c:∃xs,o=.lst xs
  ·obtain⟨xs,c⟩:=c
   exact L.fF _ (n xs c)
  ·exact A8m L.hnd e λxs z=>c ⟨xs,z⟩
 refine { L with hnd:=h,new:=λb hb=>L.new b ?_,sta:=L.sta.mv (λb o e n _=>k _ _ e (nh b o e n)) (λ_ z=>z),kp:=L.kp.mv (λb o e n=>k _ _ e (nh b o e n)) (λ_ z=>z) }
 cases z:H b with
 | none=>rfl
 | some o=>
  by_cases c:b=hd
  ·obtain⟨_,_,_,_,_,_,_,_,e⟩:=h
   rw[c,e] at hb;cases hb
  ·rw[k _ _ z c] at hb;cases hb
theorem L92.keep (L:L92 F C hd hl a dc p d kk H) (k:Same H H'):L92 F C hd hl a dc p d kk H':=L.draw (λb o e _=>k _ _ e) (L.hnd.same k)
theorem L92.fr (L:L92 F C hd hl a dc p d kk H) (kp:E2 F C H' p d kk) (fr:Frp p d H H'):L92 F C hd hl a dc p d kk H':={ L with hnd:=B2r L.hnd L.kp fr,new:=λb hb=>L.new _ (A29 kp fr hb),sta:=B0i L.sta L.kp L.ne fr,kp:=kp }
theorem L92.next {H3 H4:Hp} {a' dc':Addr} {dd:S4} {b:Tb} (L:L92 F C hd hl a dc p d kk H) (sa3:O6 (λb=>H b=none) H3 a' dc' (K8 kk dd).m (K8 kk dd).st (K8 kk dd).g (K8 kk dd).kws) (n3:H dc'=none) (s3:Same H H3) (dok:A0d kk dd) (kp4:E2 F C H4 p d { K8 kk dd with low:=b }) (fr4:Frp p d H3 H4) (lb:X3 (K8 kk dd).m (K8 kk dd).st (K8 kk dd).g (K8 kk dd).kws b):L92 F C hd hl a' dc' p d { K8 kk dd with low:=b } H4:=by
 have L3:=L.keep s3
 have ne3:dc'≠d:=λz=>(A1z L.kp).2.2 (by rw[<-z];exact n3)
 exact⟨B2r L3.hnd L3.kp fr4,L.fF,λb hb=>L3.new _ (A29 kp4 fr4 hb),B0i (sa3.mv (λb o e _ _=>e) λb hb=>L.new _ hb) L3.kp ne3 fr4,kp4,ne3,A5h L.ok dok,lb⟩
theorem L92.off {l:Addr} (L:L92 F C hd hl a dc p d kk H) (n:H l=none) (s:Same H H') (e':H' l≠none):L92 (λb=>F b/\b≠l) C hd hl a dc p d kk H':=by
 have L':=L.keep s
 refine⟨L'.hnd,λb hb=>L.fF b hb.1,λb hb=>⟨L'.new b hb,λz=>e' (by rw[<-z];exact hb)⟩,?_,?_,L.ne,L.ok,L.low⟩
 ·obtain⟨⟨gl,ug,e1,f1,f2,e2,t2⟩,z⟩:=L.sta
  have:O6 (λb=>F b/\b≠l) H a dc kk.m kk.st kk.g kk.kws:=⟨⟨gl,ug,e1,⟨f1,λz=>by rw[z,n] at e1;cases e1⟩,⟨f2,λz=>by rw[z,n] at e2;cases e2⟩,e2,t2⟩,z⟩
  exact this.mv (λb o e _ _=>s _ _ e) λ_ z=>z
 ·exact (A1a L.kp λb xs g e=>⟨g,λz=>by rw[z,n] at e;cases e⟩).same s
theorem L92.on {l:Addr} (L:L92 (λb=>F b/\b≠l) C hd hl a dc p d kk H) (fF:∀b,F b->b≠hd):L92 F C hd hl a dc p d kk H:=⟨L.hnd,fF,λb hb=>(L.new b hb).1,L.sta.mv (λb o e _ _=>e) λ_ z=>z.1,A1a L.kp λ_ _ g _=>g.1,L.ne,L.ok,L.low⟩
theorem L92.put {l:Addr} {xs ys:List V} (L:L92 (λb=>F b/\b≠l) C hd hl a dc p d kk H) (n1:hd≠l) (n2:hl≠l) (e:H l=some (.lst xs)):L92 (λb=>F b/\b≠l) C hd hl a dc p d kk (upd H l (.lst ys)):=by
 have k:∀b o,H b=some o->b≠l->upd H l (.lst ys) b=some o:=λb o e n=>by rw[B8 n];exact e
 have nl:∀b o,H b=some o->(∀zs,o=.lst zs->F b/\b≠l)->b≠l:=λb o eb n=>by
  intro z
  rw[z,e] at eb
  cases eb
  exact (n _ rfl).2 z
 refine { L with hnd:=?_,new:=λb hb=>L.new b (D3k hb).2,sta:=L.sta.mv (λb o eb n _=>k _ _ eb (nl b o eb n)) (λ_ z=>z),kp:=L.kp.mv (λb o eb n=>k _ _ eb (nl b o eb n)) (λ_ z=>z) }
 obtain⟨ns,q,b,c,u,v,h1,h2,h3⟩:=L.hnd
 exact⟨ns,q,b,c,u,v,k _ _ h1 n2,h2,k _ _ h3 n1⟩
end
theorem B67:∀(ls:List Int) (j:Nat),(ls.map V.int).eraseIdx j=(ls.eraseIdx j).map V.int
 | [],_=>rfl
 | _::_,0=>rfl
 | x::ls,j + 1=>by
  show V.int x::(ls.map V.int).eraseIdx j=V.int x::(ls.eraseIdx j).map V.int
  rw[B67 ls j]
theorem D7h {ls:List Int} (nd:ls.Nodup) {j:Nat} (hj:j < ls.length):(ls.eraseIdx j).Nodup/\ls[j]∉ls.eraseIdx j/\(ls.eraseIdx j).length + 1=ls.length/\∀x∈ls.eraseIdx j,x∈ls:=by
 have hp:(ls[j]::ls.eraseIdx j).Perm ls:=by
  have:∀(ls:List Int) (j:Nat) (h:j < ls.length),(ls[j]::ls.eraseIdx j).Perm ls:=by
   intro ls
   induction ls with
   | nil=>intro j h;cases h
   | cons x xs ih=>
    intro j h
    cases j with
    | zero=>exact A3j.refl _
    | succ j=>
     show (xs[j]'(by simpa using h)::x::xs.eraseIdx j).Perm (x::xs)
     exact (A3j.swap x _ _).trans (A3j.cons x (ih j (by simpa using h)))
  exact this ls j hj
 have n2:=A8r.mp (hp.nodup_iff.mpr nd)
 have hl:=hp.length_eq
 rw[J8] at hl
 exact⟨n2.2,n2.1,hl,λx hx=>hp.mem_iff.mp (D3 _ hx)⟩
def D7i (C:Addr):Sp:=λvs H Q _=>∃(hd hl a dc p d:Addr) (kk:Kst) (sc:Int),vs=[.ref hd,.ref p,.ref a,.int sc]/\L92 (λb=>b≠hd) C hd hl a dc p d kk H/\kk.kws=[]/\(1<=sc/\sc<=1000000000000000000)/\
 ∀a' dc' kk' H',L92 (λb=>b≠hd) C hd hl a' dc' p d kk' H'->kk'.m=kk.m->Q (.ref a') H'
def D7j (ls:List Int):Prop:=∀(j:Nat) (x:Int),ls[j]?=some x->5 * ((j:Nat):Int) + 1<=x/\x<=5 * ((j:Nat):Int) + 5
section
variable {P:Program} {w:World} {K:A9} {mg:Str->Option Value} {base:Heap}
theorem D7k (T:Txt K mg):C1 P w K mg base CX0 13 T.eN.a T.eN.d ["_law_hand_here", "_law_keeper", "_law_state_here", "_law_scale_here"] (D7i T.ac):=by
 have kP:=@C3i P w K mg base T
 have kQ:=T.bR.b
 have qC:=@C3h P w K mg base T
 have qD:=T.fL.b
 have ai:=@A1w P w K mg base T
 have aj:=T.ah.b
 have gH:=@C3d P w K mg base T
 have gJ:=T.ba.b
 refine T.eN.F.ok A8h (λvs H Q E h=>?_) (λcdv A outer s H vs Q E hr h=>?_)
 ·obtain⟨hd,hl,a,dc,p,d,kk,sc,rfl,_⟩:=h
  rfl
 ·obtain⟨hd,hl,a,dc,p,d,kk,sc,rfl,L,e0,hsc,told⟩:=h
  have drw:∀(n:Int) (Hx:Hp) (Qv:VK),0 < n->n < 100000000000000000000000000000000000000->Hd Hx hd hl->(∀r Hy,0<=r->r < n->(∀b o,Hx b=some o->b≠hd->Hy b=some o)->Hd Hy hd hl->Qv (.int r) Hy)->spD [.hd,.sh] A9z [.ref hd,.int n] Hx Qv E0:=λn Hx Qv n0 n1 hx q=>
   j4 (E:=E0) (λd=>∃r:Int,(0<=r/\r < n)/\d=.int r) hx (.cons (.int _) .nil) ⟨n,rfl,n0,OO,λr r0 r1=>⟨r,⟨r0,r1⟩,rfl⟩⟩ λd v Hy hd' tv ky hy=>by
    obtain⟨r,⟨r0,r1⟩,rfl⟩:=hd'
    cases tv
    exact q r Hy r0 r1 (λb o e n=>ky b o e λq hq=>by cases hq;exact n) hy
  have chg:∀(Hx:Hp) (Qv:VK),Hd Hx hd hl->(∀r Hy,-1000000000000000000<=r->r<=1000000000000000000->(∀b o,Hx b=some o->b≠hd->Hy b=some o)->Hd Hy hd hl->Qv (.int r) Hy)->spD [.hd,.sh] B6y [.ref hd,.int sc] Hx Qv E0:=λHx Qv hx q=>
   j4 (E:=E0) (λd=>∃r:Int,(-1000000000000000000<=r/\r<=1000000000000000000)/\d=.int r) hx (.cons (.int _) .nil) ⟨_,sc,rfl,OO,hsc.2,λr r0 r1=>⟨r,⟨OO,OO⟩,rfl⟩⟩ λd v Hy hd' tv ky hy=>by
    obtain⟨r,⟨r0,r1⟩,rfl⟩:=hd'
    cases tv
    exact q r Hy r0 r1 (λb o e n=>ky b o e λq hq=>by cases hq;exact n) hy
  refine⟨_,(B9 (B03 (i:=4) A8h.nd rfl (B3 rfl) (Q0.new (N:=["_law_hand_here", "_law_keeper", "_law_state_here", "_law_scale_here", "_law_labels", "_law_label", "_law_start", "_law_deed_here"]) (osc:=B1 B13) KK) rfl (A16 rfl T.cj (A1 (B0 ai (hr.mono DD) rfl T.ah.m T.ah.F.kp aj .nil A7 (A1 (pv 0) (A1 A8 A5 E6) A0) (he:=A0) (hpl:=(A4 E6 A3))) A5 D4)) (λ_=>A2a) (λ_=>(J2 K5 (J2 K5 A8 (J2 W5 A8 (pv 8))) (B0 ai (hr.mono DD) rfl T.ah.m T.ah.F.kp aj .nil A7 (A1 (pv 0) (A1 A8 A5 E6) A0) (he:=A0) (hpl:=(A4 E6 A3))))))
   (B9 (A15 V5 (J3 p8 (E9 U0 rfl T.aN T3 (A1 (pv 4) A5 A0) (he:=A0) (hpl:=A3)) A8 (C8 _))
   (B9 (C0 (i:=5) A8h.nd rfl (B3 rfl) (r8 A1j PySem.F.slot_list_pop PySem.F.type_list_pop B8x (pv 4) (A1 (B0 ai (hr.mono DD) rfl T.ah.m T.ah.F.kp aj .nil A7 (A1 (pv 0) (A1 (E9 U0 rfl T.aN T3 (A1 (pv 4) A5 A0) (he:=A0) (hpl:=A3)) A5 D4) A0) (he:=A0) (hpl:=(A4 D4 A3))) A5 D4)))
   (B9 (C0 (i:=6) A8h.nd rfl (B3 rfl) (B0 ai (hr.mono DD) rfl T.ah.m T.ah.F.kp aj .nil A7 (A1 (pv 0) (A1 (C4 D2 (pv 2) A8 (λ_ _=>rfl)) A5 A6) A0) (he:=A0) (hpl:=(A4 A6 A3))))
   (B9 (C0 (i:=7) A8h.nd rfl (B3 rfl) (R8 (A1 Y7 (A1 (U9 (A1 (pv 5) (A1 (pv 6) (A1 (B0 ai (hr.mono DD) rfl T.ah.m T.ah.F.kp aj .nil A7 (A1 (pv 0) (A1 (C4 D2 (pv 2) A8 (λ_ _=>rfl)) A5 A6) A0) (he:=A0) (hpl:=(A4 A6 A3))) (A1 (B0 gH (hr.mono DD) rfl T.ba.m T.ba.F.kp gJ .nil A7 (A1 (pv 0) (A1 (pv 3) A5 A0) A0) (he:=A0) (hpl:=(A4 A0 A3))) A5 D4) D4) A0) A0)) A5 l6) E6)))
   (B9 (C0 (i:=2) A8h.nd rfl (B3 rfl) (B0 kP (hr.mono DD) rfl T.bR.m T.bR.F.kp kQ .nil A7 (A1 (pv 2) (A1 (pv 7) A5 A0) A0) (he:=A0) (hpl:=(A4 A0 A3))))
   (D7 (V6 (B0 qC (hr.mono DD) rfl T.fL.m T.fL.F.kp qD .nil A7 (A1 (pv 1) (A1 (pv 7) A5 A0) A0) (he:=A0) (hpl:=(A4 A0 A3))))))))))
   (D7 (F7 (pv 2))))),?_⟩
  try dsimp only[N6,Cx.nox]
  refine⟨_,rfl,drw 41 _ _ DD DD L.hnd λn H1 n0 n1 k1 d1=>⟨_,rfl,OO,OO,?_⟩⟩
  have L1:=L.draw k1 d1
  refine B3v (n:=n.toNat) (λi ys Hn=>∃ls:List Int,ys=ls.map V.int/\ls.length=i/\D7j ls/\L92 (λb=>b≠hd) T.ac hd hl a dc p d kk Hn) ?_ ⟨[],rfl,rfl,(λj x e=>nomatch e),L1⟩ ?_ ?_ ?_
  ·rw[sizeLine_eq];lia
  ·rintro i ys Hn hi ⟨ls,rfl,e,_⟩
   rw[C6];lia
  ·rintro i ys Hn hi ⟨ls,rfl,e,hL,Ln⟩ ca
   unfold A19
   refine G0 ⟨_,rfl,_,_,rfl,rfl,by unfold A17;lia,_,_,rfl,rfl,_,rfl,drw 5 _ _ DD DD Ln.hnd λu H2 u0 u1 k2 d2=>⟨_,_,rfl,rfl,ls++[1 + 5 * (0 + ((i:Nat):Int)) + u],?_,?_,?_,Ln.draw k2 d2⟩⟩
   ·rw[R7];rfl
   ·rw[U6,B2y,e]
   ·intro j x ex
    by_cases c:j < ls.length
    ·rw[A3d c] at ex
     exact hL j x ex
    ·rw[A5k (OO)] at ex
     have:j - ls.length=0:=by
      rcases Nat.eq_zero_or_pos (j - ls.length) with z | z
      ·exact z
      ·rw[A11 (by rw[B2y];lia)] at ex;cases ex
     rw[this] at ex
     have hj:j=i:=by lia
     cases ex
     subst hj
     lia
  rintro ys Hn ⟨ls,rfl,en,hL,Ln⟩ l hl'
  obtain⟨H2,hH2⟩:∃H2,H2=upd Hn l (.lst (ls.map V.int)):=⟨_,rfl⟩
  rw[<-hH2]
  have sn:Same Hn H2:=by rw[hH2];exact Same.upd hl'
  have el:H2 l=some (.lst (ls.map V.int)):=by rw[hH2];exact B6
  have LL2:=Ln.off hl' sn (by rw[el];exact λz=>nomatch z)
  have nhl:=Ln.hnd.ne hl'
  unfold Y8
  dsimp only[L2.start,g4,p7,E5,A5s,B29,Nat.sub]
  have lnd:ls.Nodup:=List.pairwise_iff_getElem.mpr λi j hi hj hij z=>by
   have a1:=hL i _ (M4 hi)
   have a2:=hL j _ (M4 hj)
   rw[z] at a1
   lia
  have lok:∀x∈ls,a8 x:=λx hx=>by
   obtain⟨j,hj,e⟩:=A5q.mp hx
   have a1:=hL j x (by rw[M4 hj,e])
   unfold a8
   lia
  refine⟨fun μ σ Hx=>∃(ls':List Int) (a dc:Addr) (kk':Kst) (x5 x6 x7:Option V),μ=ls'.length/\σ=[some (.ref hd),some (.ref p),some (.ref a),some (.int sc),some (.ref l),x5,x6,x7]/\Hx l=some (.lst (ls'.map V.int))/\L92 (λb=>b≠hd/\b≠l) T.ac hd hl a dc p d kk' Hx/\ls'.Nodup/\(∀x∈ls',a8 x/\G6 kk'.kws x=none)/\kk'.kws.length + ls'.length<=40/\kk'.m=kk.m,⟨ls.length,ls,a,dc,kk,none,none,none,rfl,rfl,el,LL2,lnd,λx hx=>⟨lok x hx,by rw[e0];rfl⟩,by rw[e0,A3g];lia,rfl⟩,?_⟩
  clear LL2 el sn hH2 hl' Ln L1 L lnd lok hL
  rintro μ σ Hx ⟨ls',a,dc,kk',x5,x6,x7,rfl,rfl,el,L,nd,hls,hl40,em⟩
  refine⟨_,rfl,l,_,rfl,.inl (SqL.of el),_,_,rfl,rfl,_,rfl,?_⟩
  show if decide ((0:Int) < (((ls'.map V.int).length:Nat):Int))=true then _ else _
  rw[C6]
  by_cases c0:ls'.length=0
  ·rw[decide_eq_false (OO)]
   exact C7 ⟨_,rfl,told a dc kk' Hx (L.on λb z=>z) em⟩
  rw[decide_eq_true (OO)]
  refine G0 ⟨fun σ' H'=>∃(ls2:List Int) (a dc:Addr) (kk':Kst) (x5 x6 x7:Option V),ls2.length < ls'.length/\σ'=[some (.ref hd),some (.ref p),some (.ref a),some (.int sc),some (.ref l),x5,x6,x7]/\H' l=some (.lst (ls2.map V.int))/\L92 (λb=>b≠hd/\b≠l) T.ac hd hl a dc p d kk' H'/\ls2.Nodup/\(∀x∈ls2,a8 x/\G6 kk'.kws x=none)/\kk'.kws.length + ls2.length<=40/\kk'.m=kk.m,?_,?_⟩
  ·rintro σ' H' ⟨ls2,a,dc,kk',x5,x6,x7,h1,h2⟩
   exact⟨ls2.length,h1,ls2,a,dc,kk',x5,x6,x7,rfl,h2⟩
  have m1:=L.ok.m1
  have m2:=L.ok.m2
  refine⟨_,rfl,.inl ⟨rfl,_,SqL.of el⟩,_,rfl,_,rfl,l,_,rfl,.inl (SqL.of el),?_⟩
  rw[C6]
  refine drw _ _ _ OO OO L.hnd λr H3 r0 r1 k3 d3=>?_
  obtain⟨j,rfl,hj⟩:∃j:Nat,r=((j:Nat):Int)/\j < ls'.length:=⟨r.toNat,OO,OO⟩
  have L3:=L.draw k3 d3
  have el3:=k3 _ _ el nhl.1
  refine⟨l,_,((j:Nat):Int),j,.int (ls'[j]),rfl,rfl,el3,OO,OO,?_,by rw[K3,M4 hj];rfl,?_⟩
  ·rw[C6]
   exact (seqIndex_of OO OO).trans (by rw[B0k])
  rw[show (ls'.map V.int).eraseIdx j=(ls'.eraseIdx j).map V.int from B67 _ _]
  obtain⟨nd2,nj,ll,sub⟩:=D7h nd hj
  have LP:L92 (λb=>b≠hd/\b≠l) T.ac hd hl a dc p d kk' (upd H3 l (.lst ((ls'.eraseIdx j).map V.int))):=L3.put nhl.1.symm nhl.2.symm el3
  obtain⟨H4,hH4⟩:∃H4,H4=upd H3 l (.lst ((ls'.eraseIdx j).map V.int)):=⟨_,rfl⟩
  rw[<-hH4] at LP ⊢
  have el4:H4 l=some (.lst ((ls'.eraseIdx j).map V.int)):=by rw[hH4];exact B6
  clear hH4 L3 el3
  dsimp only[g4]
  obtain⟨lokj,lnj⟩:=hls _ (List.getElem_mem hj)
  generalize ls'[j]=x at lokj lnj nj ⊢
  obtain⟨⟨gl,ug,e1,f1,f2,e2,t2⟩,kvs,e3,kv⟩:=LP.sta
  refine⟨_,rfl,_,rfl,a,_,_,_,rfl,rfl,SqL.of e1,rfl,drw _ _ _ OO OO LP.hnd λr5 H5 r50 r51 k5 d5=>?_⟩
  have L5:=LP.draw k5 d5
  have el5:=k5 _ _ el4 nhl.1
  have e15:=k5 _ _ e1 f1.1
  dsimp only[g4]
  refine⟨_,rfl,_,rfl,_,rfl,_,rfl,a,_,_,_,rfl,rfl,SqL.of e15,rfl,drw _ _ _ OO OO d5 λr6 H6 r60 r61 k6 d6=>?_⟩
  have L6:=L5.draw k6 d6
  have el6:=k6 _ _ el5 nhl.1
  refine⟨_,rfl,_,rfl,chg _ _ d6 λc H7 c0 c1 k7 d7=>?_⟩
  have L7:=L6.draw k7 d7
  have el7:=k7 _ _ el6 nhl.1
  refine⟨by show 4<=sizeLine;decide,λq1 hq1=>⟨by show 2<=sizeLine;decide,λq2 hq2=>?_⟩⟩
  obtain⟨i5,rfl⟩:∃i:Nat,r5=((i:Nat):Int):=⟨r5.toNat,OO⟩
  obtain⟨i6,rfl⟩:∃i:Nat,r6=((i:Nat):Int):=⟨r6.toNat,OO⟩
  have sq1:Same H7 (upd H7 q1 (.lst [.int x,.int ((i5:Nat):Int),.int ((i6:Nat):Int),.int c])):=Same.upd hq1
  have sq2:=Same.upd (o:=.tup [.str (Str.ofString "lay"),.ref q1]) hq2
  have s78:=sq1.tr sq2
  have e82:=sq2 q1 _ B6
  obtain⟨H8,hH8⟩:∃H8,H8=upd (upd H7 q1 (.lst [.int x,.int ((i5:Nat):Int),.int ((i6:Nat):Int),.int c])) q2 (.tup [.str (Str.ofString "lay"),.ref q1]):=⟨_,rfl⟩
  have e81:H8 q2=some (.tup [.str (Str.ofString "lay"),.ref q1]):=by rw[hH8];exact B6
  rw[<-hH8] at s78 e82 ⊢
  have td:ThV TT0 H8 (.ref q2) (B2p (.lay x (i5,i6,c))):=.tup trivial e81 (.cons (.str _) (.cons (.lst trivial e82 (.cons (.int _) (.cons (.int _) (.cons (.int _) (.cons (.int _) .nil))))) .nil))
  have L8:=L7.keep s78
  have el8:=s78 _ _ el7
  clear hH8 sq1 sq2 hq1 hq2
  dsimp only[g4]
  have dok:A0d kk' (.lay x (i5,i6,c)):=⟨lokj,lnj,⟨by show i5 < kk'.m;lia,by show i6 < kk'.m;lia,c0,c1⟩,OO⟩
  refine⟨_,rfl,_,rfl,_,a,dc,kk',.ref q2,.lay x (i5,i6,c),rfl,L8.sta,OO,td,dok,λa' dc' H9 sa9 n9 s9=>?_⟩
  dsimp only[g4]
  have L9:=L8.keep s9
  refine⟨_,rfl,_,rfl,_,p,d,kk',.ref q2,.lay x (i5,i6,c),rfl,L9.new,L9.kp,td.keep s9,L9.ok,L9.low.tab.len,dok,λr v k' H10 po kp10 tv fr10 ap=>?_⟩
  obtain⟨b,lb,rfl,rfl⟩:=po
  have L10:=L8.next sa9 n9 s9 dok kp10 fr10 lb
  have el9:=s9 _ _ el8
  refine⟨ls'.eraseIdx j,a',dc',_,_,_,_,OO,rfl,fr10 _ _ el9 (N2 L9.kp el9).1 (N2 L9.kp el9).2,L10,nd2,λy hy=>⟨(hls y (sub y hy)).1,by
   show G6 (X2 kk'.kws x (i5,i6,c)) y=none
   rw[D5e,if_neg λz=>nj (by rw[<-z];exact hy)]
   exact (hls y (sub y hy)).2⟩,?_,em⟩
  show (X2 kk'.kws x (i5,i6,c)).length + _<=40
  rw[B2l lnj,U6,B2y]
  lia
end
theorem D7l {kws:Kw} (nd:(B5 kws).Nodup):(B5 kws).map (λx=>(x,(G6 kws x).getD (0,0,0)))=kws:=by
 unfold B5
 rw[j8]
 conv=>rhs;rw[<-List.map_id kws]
 exact A5t λq hq=>by
  show (q.1,(G6 kws q.1).getD (0,0,0))=q
  rw[B0g nd hq];rfl
theorem C38:∀(r:Kw) (j:Nat),(B5 r).eraseIdx j=B5 (r.eraseIdx j)
 | [],_=>rfl
 | _::_,0=>rfl
 | q::r,j + 1=>by
  show q.1::(B5 r).eraseIdx j=q.1::B5 (r.eraseIdx j)
  rw[C38 r j]
theorem C39:∀(r:Kw) (j:Nat) (h:j < r.length),(r[j]::r.eraseIdx j).Perm r
 | x::xs,0,_=>A3j.refl _
 | x::xs,j + 1,h=>by
  show (xs[j]'(by simpa using h)::x::xs.eraseIdx j).Perm (x::xs)
  exact (A3j.swap x _ _).trans (A3j.cons x (C39 xs j (by simpa using h)))
theorem C4a {F:Addr->Prop} {H:Hp}:∀n:Nat,B2 F H (E5 n V.non) (B7 (E5 n none))
 | 0=>.nil
 | n + 1=>.cons .non (C4a n)
theorem KOk.none {m:Nat} {st:Int} {g:Tb} {kws:Kw} (o:KOk m st g kws):KOk m st (E5 m none) []:=⟨o.m1,o.m2,o.s0,o.s1,⟨A10,λp x e=>by rw[A43] at e;cases e⟩,List.nodup_nil,O7 _,λq hq=>by cases hq⟩
def D7m (C:Addr):Sp:=λvs H Q _=>∃(hd hl a dc:Addr) (m:Nat) (st:Int) (g:Tb) (kws:Kw),vs=[.ref hd,.ref a]/\Hd H hd hl/\O6 (λb=>b≠hd) H a dc m st g kws/\KOk m st g kws/\
 ∀p d kk H',Hd H' hd hl->E2 (λb=>b≠hd) C H' p d kk->kk.m=m->kk.st=st->kk.g=g->kws.Perm kk.kws->X3 kk.m kk.st kk.g kk.kws kk.low->(∀b o,H b=some o->b≠hd->H' b=some o)->H d=none->Q (.ref p) H'
section
variable {P:Program} {w:World} {K:A9} {mg:Str->Option Value} {base:Heap}
theorem D7n (T:Txt K mg):C1 P w K mg base CX0 13 T.cc.a T.cc.d ["_law_hand_here", "_law_state_here"] (D7m T.ac):=by
 have jK:=@C3b P w K mg base T
 have jL:=C1x T
 have kJ:=@C29 P w K mg base T
 have kK:=C1y T
 have kL:=@C3a P w K mg base T
 have kM:=C1z T
 have ai:=@A1w P w K mg base T
 have aj:=T.ah.b
 refine T.cc.F.ok A49 (λvs H Q E h=>?_) (λcdv A outer s H vs Q E hr h=>?_)
 ·obtain⟨hd,hl,a,dc,m,st,g,kws,rfl,_⟩:=h
  rfl
 ·obtain⟨hd,hl,a,dc,m,st,g,kws,rfl,hh,sa,ok,told⟩:=h
  have drw:∀(n:Int) (Hx:Hp) (Qv:VK),0 < n->n < 100000000000000000000000000000000000000->Hd Hx hd hl->(∀r Hy,0<=r->r < n->(∀b o,Hx b=some o->b≠hd->Hy b=some o)->Hd Hy hd hl->Qv (.int r) Hy)->spD [.hd,.sh] A9z [.ref hd,.int n] Hx Qv E0:=λn Hx Qv n0 n1 hx q=>
   j4 (E:=E0) (λd=>∃r:Int,(0<=r/\r < n)/\d=.int r) hx (.cons (.int _) .nil) ⟨n,rfl,n0,OO,λr r0 r1=>⟨r,⟨r0,r1⟩,rfl⟩⟩ λd v Hy hd' tv ky hy=>by
    obtain⟨r,⟨r0,r1⟩,rfl⟩:=hd'
    cases tv
    exact q r Hy r0 r1 (λb o e n=>ky b o e λq hq=>by cases hq;exact n) hy
  have few:=ok.few
  have m1:=ok.m1
  have m2:=ok.m2
  have lk:(B5 kws).length < 64:=by unfold B5;rw[C6];lia
  refine⟨_,(B9 (C0 (i:=2) A49.nd rfl (B3 rfl) (B8f T.ik jK (hr.mono DD) rfl T.hZ jL .nil A7 (A1 (C4 D2 (pv 1) A8 (λ_ _=>rfl)) (A1 (C4 D2 (pv 1) A8 (λ_ _=>rfl)) (A1 (W8 (Q0.new (N:=["_law_hand_here", "_law_state_here", "_law_keeper", "_law_labels", "_law_label", "_law_start", "_law_end", "_law_change_here"]) (osc:=B1 B11) KK) rfl (A0s (C4 D2 (pv 1) A8 (λ_ _=>rfl))) (λ_=>A2a) (λ_=>A0p)) A5 A0y) A6) A6) (he:=A6) (hpl:=(A4 A6 (A4 A0y A3)))))
   (B9 (C0 (i:=3) A49.nd rfl (B3 rfl) (E9 (A66 rfl) rfl T.cx A54 (A1 (C4 D2 (pv 1) A8 (λ_ _=>rfl)) A5 A6) (he:=A6) (hpl:=A3)))
   (B9 (A15 V5 (J3 p8 (E9 U0 rfl T.aN T3 (A1 (pv 3) A5 A0) (he:=A0) (hpl:=A3)) A8 (C8 _))
   (B9 (C0 (i:=4) A49.nd rfl (B3 rfl) (r8 A1j PySem.F.slot_list_pop PySem.F.type_list_pop B8x (pv 3) (A1 (B0 ai (hr.mono DD) rfl T.ah.m T.ah.F.kp aj .nil A7 (A1 (pv 0) (A1 (E9 U0 rfl T.aN T3 (A1 (pv 3) A5 A0) (he:=A0) (hpl:=A3)) A5 D4) A0) (he:=A0) (hpl:=(A4 D4 A3))) A5 D4)))
   (B9 (V7 (A07 (u1 (K2 hr)) (C4 D2 (pv 1) A8 (λ_ _=>rfl)) (pv 4) (λ_ _=>rfl)) (A3l (n:=3) rfl (X7 (Q3 (i:=5) A49.nd rfl (B3 rfl)) (X7 (Q3 (i:=6) A49.nd rfl (B3 rfl)) (X7 (Q3 (i:=7) A49.nd rfl (B3 rfl)) A3k)))))
   (D7 (V6 (g9 (pv 2) T.ae T.jz kJ (hr.mono DD) kK .nil A7 (A1 (pv 4) (A1 (pv 5) (A1 (pv 6) (A1 (pv 7) A5 A0) A0) A0) A0) (hst:=A0) (hpl:=(A4 A0 (A4 A0 (A4 A0 A3))))))))))
   (B9 (V6 (g9 (pv 2) T.ae T.jC kL (hr.mono DD) kM .nil A7 (A1 (W6 Z3 rfl T.aD V0 (A1 (C4 D2 (pv 1) A8 (λ_ _=>rfl)) A5 A6) (he:=A6) (hpl:=A3)) A5 D4) (hst:=D4) (hpl:=A3)))
   (D7 (F7 (pv 2))))))),?_⟩
  try dsimp only[N6,Cx.nox]
  refine j3 λW hW=>?_
  have sa0:=sa
  obtain⟨⟨gl,ug,e1,f1,f2,e2,t2⟩,kvs,e3,kv⟩:=sa
  have lug:ug.length=m:=by rw[t2.len,Y5];exact ok.gt.len
  refine⟨_,rfl,a,_,_,_,rfl,rfl,SqL.of e1,rfl,_,rfl,a,_,_,_,rfl,rfl,SqL.of e1,rfl,_,rfl,a,_,_,_,rfl,rfl,SqL.of e1,rfl,gl,rfl,⟨ug,SqL.of e2⟩,?_⟩
  refine A53 (xs:=ug) (λi ys Hn=>Hn=H/\ys=E5 i V.non) ?_ ⟨rfl,rfl⟩ ?_ ?_ ?_
  ·rw[lug,sizeLine_eq];lia
  ·rintro i ys Hn hi ⟨rfl,rfl⟩
   exact⟨by rw[A10];exact F9 _,SqL.of e2⟩
  ·rintro i x ys Hn hx ⟨rfl,rfl⟩ ca
   unfold A19
   exact G0 ⟨rfl,by rw[List.replicate_succ']⟩
  rintro ys Hn ⟨rfl,rfl⟩ lg hlg
  intro p dx hp hdx npx
  rw[lug] at hp hdx ⊢
  have s8:Same Hn (upd Hn lg (.lst (E5 m V.non))):=Same.upd hlg
  obtain⟨H8,hH8⟩:∃H8,H8=upd Hn lg (.lst (E5 m V.non)):=⟨_,rfl⟩
  rw[<-hH8] at hp hdx s8 ⊢
  have elg:H8 lg=some (.lst (E5 m V.non)):=by rw[hH8];exact B6
  clear hH8
  have s9:Same H8 (upd H8 dx (.own p)):=Same.upd hdx
  have hp9:upd H8 dx (.own p) p=none:=by rw[B8 (λz=>npx z.symm)];exact hp
  have s10:=Same.upd (o:=.ins T.ac dx []) hp9
  refine⟨p,dx,m,st,E5 m none,.ref lg,rfl,B6,.lst trivial (s10 _ _ (s9 _ _ elg)) (C4a m),ok.none,λd low H9 lr nd kp fr=>⟨rfl,?_⟩⟩
  have sH:Same Hn H9:=λb o e=>fr _ _ (s10 _ _ (s9 _ _ (s8 _ _ e))) λz=>by rw[z] at e;rw[s8 _ _ e] at hp;cases hp
  have d9:=hh.same sH
  have nd0:Hn d=none:=by
   cases z:Hn d with
   | none=>rfl
   | some o=>rw[s10 _ _ (s9 _ _ (s8 _ _ z))] at nd;cases nd
  have np0:Hn p=none:=by
   cases z:Hn p with
   | none=>rfl
   | some o=>rw[s8 _ _ z] at hp;cases hp
  have kp9:E2 (λb=>b≠hd) T.ac H9 p d ⟨m,st,E5 m none,[],low⟩:=kp.mv (λb o e _=>e) λb hb=>by
   obtain⟨o,eo⟩:=hh.at1
   intro z
   rw[z,s10 _ _ (s9 _ _ (s8 _ _ eo))] at hb;cases hb
  clear kp fr s10 s9 hp9 s8 elg hdx hp npx hlg
  unfold Y8
  dsimp only[L2.start,g4,p7,E5,A5s,B29,Nat.sub]
  refine @G8 W _ _ _ _ _ hW λW hW=>?_
  refine⟨_,rfl,a,_,_,_,rfl,rfl,SqL.of (sH _ _ e1),rfl,dc,kvs,_,rfl,sH _ _ e3,kv.keys,lk,λl ms hl1 hpm hs=>?_⟩
  have ems:=A5g hpm hs
  subst ems
  obtain⟨HL,hHL⟩:∃HL,HL=upd H9 l (.lst ((srt (B5 kws)).map V.int)):=⟨_,rfl⟩
  rw[<-hHL]
  have sL:Same H9 HL:=by rw[hHL];exact Same.upd hl1
  have elL:HL l=some (.lst ((srt (B5 kws)).map V.int)):=by rw[hHL];exact B6
  clear hHL
  have nhl:=d9.ne hl1
  have nLn:¬ Hn l≠none:=λz=>by
   cases y:Hn l with
   | none=>exact z y
   | some o=>rw[sH _ _ y] at hl1;cases hl1
  have nea:a≠hd:=f1
  have ngl:gl≠hd:=f2
  have ndc:dc≠hd:=A8m hh e3 λxs z=>by cases z
  have kpL:E2 (λb=>b≠hd/\b≠l) T.ac HL p d ⟨m,st,E5 m none,[],low⟩:=(A1a kp9 λb xs g e=>⟨g,λz=>by rw[z,hl1] at e;cases e⟩).same sL
  dsimp only[g4]
  obtain⟨r0,hr0⟩:∃r0:Kw,r0=(srt (B5 kws)).map λx=>(x,(G6 kws x).getD (0,0,0)):=⟨_,rfl⟩
  have rk:B5 r0=srt (B5 kws):=by
   rw[hr0]
   unfold B5
   rw[j8]
   conv=>rhs;rw[<-List.map_id (srt _)]
   exact A5t λx _=>rfl
  have rp:r0.Perm kws:=by
   have:=(Z9 (B5 kws)).map λx=>(x,(G6 kws x).getD (0,0,0))
   rw[D7l ok.nd] at this
   rw[hr0];exact this
  rw[<-rk] at elL
  refine @G8 W _ _ _ _ _ hW λW hW=>?_
  refine⟨fun μ σ Hx=>∃(r:Kw) (kk:Kst) (x4 x5 x6 x7:Option V),μ=r.length/\σ=[some (.ref hd),some (.ref a),some (.ref p),some (.ref l),x4,x5,x6,x7]/\Hx l=some (.lst ((B5 r).map V.int))/\Hd Hx hd hl/\E2 (λb=>b≠hd/\b≠l) T.ac Hx p d kk/\(∀b,Hx b=none->b≠hd/\b≠l)/\(kk.m=m/\kk.st=st/\kk.g=E5 m none)/\(kk.kws++r).Perm kws/\KOk kk.m kk.st kk.g kk.kws/\X3 kk.m kk.st kk.g kk.kws kk.low/\∀b o,Hn b=some o->b≠hd->Hx b=some o,⟨r0.length,r0,_,none,none,none,none,rfl,rfl,elL,d9.same sL,kpL,(λb hb=>⟨((d9.same sL).ne hb).1,λz=>by rw[z,elL] at hb;cases hb⟩),⟨rfl,rfl,rfl⟩,rp,ok.none,lr,λb o e _=>sL _ _ (sH _ _ e)⟩,?_⟩
  clear kpL elL sL kp9 d9 sH rp rk hr0 lr
  rintro μ σ Hx ⟨r,kk,x4,x5,x6,x7,rfl,rfl,el,dx,kp,new,⟨em,es,eg⟩,pm,okk,lr,fr⟩
  refine⟨_,rfl,l,_,rfl,.inl (SqL.of el),_,_,rfl,rfl,_,rfl,?_⟩
  show if decide ((0:Int) < ((((B5 r).map V.int).length:Nat):Int))=true then _ else _
  have lkr:((B5 r).map V.int).length=r.length:=by unfold B5;rw[C6,C6]
  rw[lkr]
  by_cases c0:r.length=0
  ·rw[decide_eq_false (OO)]
   refine C7 ?_
   have er:r=[]:=List.length_eq_zero_iff.mp c0
   rw[er,A1f] at pm
   have e1x:=fr _ _ e1 nea
   have e2x:=fr _ _ e2 ngl
   obtain⟨dx',g0,l0,ep⟩:=kpi kp
   subst hW
   refine⟨_,rfl,p,dx',_,rfl,ep,P5 KK,_,rfl,a,_,_,_,rfl,rfl,SqL.of e1x,rfl,gl,ug,rfl,.inl (SqL.of e2x),λlq hlq=>?_⟩
   have sq:Same Hx (upd Hx lq (.lst ug)):=Same.upd hlq
   have kpq:=kp.same sq
   refine⟨_,p,d,kk,[.ref lq],[.list (B7 g)],rfl,(λb hb=>new _ (sq.early hb)),kpq,.cons (.lst trivial B6 (G3 t2)) .nil,⟨.aim g,⟨g,rfl⟩,rfl,okk,lr.tab.len,by show G1 kk.m kk.st g;rw[em,es];exact ok.gt⟩,λrr v k' H2 po kp2 tv fr2 ap=>?_⟩
   obtain⟨dd',⟨g',rfl⟩,eds,b,lb,rfl,rfl⟩:=po
   have:g=g':=by
    injection eds with eds _
    injection eds with eds
    exact B2q eds
   subst this
   exact⟨_,rfl,told p d _ H2 (B2r (dx.same sq) kpq fr2) (A1a kp2 λ_ _ z _=>z.1) em es rfl pm.symm lb (λb o e n=>fr2 _ _ (sq _ _ (fr _ _ e n)) (λz=>by rw[z,np0] at e;cases e) λz=>by rw[z,nd0] at e;cases e) nd0⟩
  rw[decide_eq_true (OO)]
  refine G0 ⟨fun σ' H'=>∃(r2:Kw) (kk:Kst) (x4 x5 x6 x7:Option V),r2.length < r.length/\σ'=[some (.ref hd),some (.ref a),some (.ref p),some (.ref l),x4,x5,x6,x7]/\H' l=some (.lst ((B5 r2).map V.int))/\Hd H' hd hl/\E2 (λb=>b≠hd/\b≠l) T.ac H' p d kk/\(∀b,H' b=none->b≠hd/\b≠l)/\(kk.m=m/\kk.st=st/\kk.g=E5 m none)/\(kk.kws++r2).Perm kws/\KOk kk.m kk.st kk.g kk.kws/\X3 kk.m kk.st kk.g kk.kws kk.low/\∀b o,Hn b=some o->b≠hd->H' b=some o,?_,?_⟩
  ·rintro σ' H' ⟨r2,kk,x4,x5,x6,x7,h1,h2⟩
   exact⟨r2.length,h1,r2,kk,x4,x5,x6,x7,rfl,h2⟩
  have pl:=pm.length_eq
  rw[U6] at pl
  refine⟨_,rfl,.inl ⟨rfl,_,SqL.of el⟩,_,rfl,_,rfl,l,_,rfl,.inl (SqL.of el),?_⟩
  rw[lkr]
  refine drw _ _ _ OO OO dx λu H3 u0 u1 k3 d3=>?_
  obtain⟨j,rfl,hj⟩:∃j:Nat,u=((j:Nat):Int)/\j < r.length:=⟨u.toNat,OO,OO⟩
  have el3:=k3 _ _ el nhl.1
  have lkk:(B5 r).length=r.length:=by unfold B5;rw[C6]
  obtain⟨x,w,hjw⟩:∃x w,r[j]=(x,w):=⟨_,_,rfl⟩
  have hkx:(B5 r)[j]?=some x:=by unfold B5;rw[K3,M4 hj,hjw];rfl
  refine⟨l,_,((j:Nat):Int),j,.int x,rfl,rfl,el3,OO,OO,?_,by rw[K3,hkx];rfl,?_⟩
  ·rw[lkr]
   exact (seqIndex_of OO OO).trans (by rw[B0k])
  rw[show ((B5 r).map V.int).eraseIdx j=(B5 (r.eraseIdx j)).map V.int by rw[B67,C38]]
  have ep:=C39 r j hj
  rw[hjw] at ep
  have ell:=ep.length_eq
  rw[J8] at ell
  obtain⟨H4,hH4⟩:∃H4,H4=upd H3 l (.lst ((B5 (r.eraseIdx j)).map V.int)):=⟨_,rfl⟩
  rw[<-hH4]
  have kH4:∀b o,H3 b=some o->b≠l->H4 b=some o:=λb o e n=>by rw[hH4,B8 n];exact e
  have el4:H4 l=some (.lst ((B5 (r.eraseIdx j)).map V.int)):=by rw[hH4];exact B6
  have d4:Hd H4 hd hl:=by
   obtain⟨ns,q,b,c,u,v,h1,h2,h3⟩:=d3
   exact⟨ns,q,b,c,u,v,kH4 _ _ h1 nhl.2.symm,h2,kH4 _ _ h3 nhl.1.symm⟩
  have nh:∀b o,Hx b=some o->(∀xs,o=.lst xs->b≠hd/\b≠l)->b≠hd/\b≠l:=λb o e n=>by
   by_cases c:∃xs,o=.lst xs
   ·obtain⟨xs,c⟩:=c
    exact n xs c
   ·exact⟨A8m dx e λxs z=>c ⟨xs,z⟩,λz=>by rw[z,el] at e;cases e;exact c ⟨_,rfl⟩⟩
  have kp4:E2 (λb=>b≠hd/\b≠l) T.ac H4 p d kk:=kp.mv (λb o e n=>kH4 _ _ (k3 _ _ e (nh b o e n).1) (nh b o e n).2) λ_ z=>z
  have fr4:∀b o,Hn b=some o->b≠hd->H4 b=some o:=λb o e n=>kH4 _ _ (k3 _ _ (fr _ _ e n) n) λz=>by
   have:=fr _ _ e n
   rw[z] at e
   exact nLn (by rw[e];exact λz=>nomatch z)
  have new4:∀b,H4 b=none->b≠hd/\b≠l:=λb hb=>⟨(d4.ne hb).1,λz=>by rw[z,el4] at hb;cases hb⟩
  clear hH4
  dsimp only[g4]
  have hmem:(x,w)∈kws:=pm.mem_iff.mp (A0h _ (ep.mem_iff.mp D9))
  have gw:=B0g ok.nd hmem
  obtain⟨okx,okw⟩:=ok.way _ hmem
  rcases kv.val x with ⟨_,z⟩ | ⟨v0,w1,hv,hw1,tv0⟩
  ·rw[gw] at z;cases z
  rw[gw] at hw1
  cases hw1
  obtain⟨tw,uw,rfl,_,etw,tuw⟩:=W0 (show ThV TT0 Hn v0 (.tuple [.int ((w.1:Nat):Int),.int ((w.2.1:Nat):Int),.int w.2.2]) from tv0)
  obtain⟨v1,v2,v3,rfl,tv1,tv2,tv3⟩:=B61 tuw
  cases tv1
  cases tv2
  cases tv3
  have ntw:tw≠hd:=A8m hh etw λxs z=>by cases z
  refine⟨_,rfl,a,_,_,_,rfl,rfl,SqL.of (fr4 _ _ e1 nea),rfl,_,rfl,dc,_,rfl,by rw[<-hv];exact U5.k (k:=Sum.inl x) (fr4 _ _ e3 ndc),tw,_,rfl,SqT.of (fr4 _ _ etw ntw),rfl,_,_,rfl,_,_,rfl,_,_,rfl,rfl,?_⟩
  obtain⟨dx',g0,l0,epp⟩:=kpi kp4
  have nodup:=(A28 pm).nodup_iff.mpr ok.nd
  have gn:G6 kk.kws x=none:=by
   cases z:G6 kk.kws x with
   | none=>rfl
   | some w'=>
    exfalso
    have m1:=A26 z
    have hk:B5 (kk.kws++r)=B5 kk.kws++B5 r:=by unfold B5;rw[R7]
    rw[hk] at nodup
    exact (List.nodup_append.mp nodup).2.2 x (S5.mpr ⟨_,m1,rfl⟩) x (R6 hkx) rfl
  have dok:A0d kk (.lay x w):=⟨okx,gn,by rw[em];exact okw,OO⟩
  refine⟨_,rfl,p,dx',_,rfl,epp,P5 KK,_,rfl,_,rfl,_,rfl,_,rfl,_,p,d,kk,[.int x,.int ((w.1:Nat):Int),.int ((w.2.1:Nat):Int),.int w.2.2],S4.args (.lay x w),rfl,new4,kp4,.cons (.int _) (.cons (.int _) (.cons (.int _) (.cons (.int _) .nil))),⟨.lay x w,⟨x,w,rfl⟩,rfl,okk,lr.tab.len,dok⟩,λrr v k' H5 po kp5 tv fr5 ap=>?_⟩
  obtain⟨dd',⟨x',w',rfl⟩,eds,b,lb,rfl,rfl⟩:=po
  obtain⟨rfl,rfl⟩:=C3g eds
  refine⟨r.eraseIdx j,_,_,_,_,_,OO,rfl,fr5 _ _ el4 (N2 kp4 el4).1 (N2 kp4 el4).2,B2r d4 kp4 fr5,kp5,(λb hb=>new4 _ (A29 kp5 fr5 hb)),⟨em,es,eg⟩,?_,A5h okk dok,lb,λb o e n=>fr5 _ _ (fr4 _ _ e n) (λz=>by rw[z,np0] at e;cases e) λz=>by rw[z,nd0] at e;cases e⟩
  show (X2 kk.kws x w++r.eraseIdx j).Perm kws
  rw[B2l gn,A8t]
  exact (A3j.append_left _ ep).trans pm
end
def B2u (K:A9):Sp:=λvs H Q _=>∃(a:Addr) (ns:List Int),vs=[.ref a]/\SqL K H a (ns.map V.int)/\ns.length<=63/\∀H',Q (.bl true) H'
theorem C4b {F:Addr->Prop} {H H':Hp} {u:V} {c:Sp2} (s:∀b xs,H b=some (.tup xs)->H' b=some (.tup xs)) (tc:ThV F H u (J1 c)):ThV F H' u (J1 c):=by
 obtain⟨a,us,rfl,g,e,tu⟩:=W0 (show ThV F H u (.tuple ([((c.1:Nat):Int),c.2].map PyData.int)) from tc)
 exact .tup g (s _ _ e) (A8l tu)
section
variable {P:Program} {w:World} {K:A9} {mg:Str->Option Value} {base:Heap}
theorem D7o (T:Txt K mg):C1 P w K mg base CX0 14 T.lK.a T.lK.d ["_law_script"] (B2u K):=by
 have qT:=@D1h P w K mg base T
 have qU:=T.eI.b
 have jK:=@C3b P w K mg base T
 have jL:=C1x T
 have dM:=@C32 P w K mg base T
 have dN:=C11 T
 have qC:=@C3h P w K mg base T
 have qD:=T.fL.b
 have qK:=@D46 P w K mg base T
 have qL:=T.df.b
 have kP:=@C3i P w K mg base T
 have kQ:=T.bR.b
 have qV:=@D5d P w K mg base T
 have qW:=T.eM.b
 have bM:=@B2s P w K mg base T
 have bN:=T.am.b
 have eQ:=@C35 P w K mg base T
 have eR:=T.aE.b
 have nz:=@D7g P w K mg base T
 have nA:=T.cm.b
 have qX:=@D7k P w K mg base T
 have qY:=T.eN.b
 have pI:=@D7n P w K mg base T
 have pJ:=T.cc.b
 have dj:=@B2g P w K mg base T
 have dk:=T.bj.b
 have ai:=@A1w P w K mg base T
 have aj:=T.ah.b
 have je:=@C3e P w K mg base T
 have jf:=T.bu.b
 have qM:=@D4z P w K mg base T
 have qN:=T.cY.b
 have qO:=@D40 P w K mg base T
 have qP:=T.cZ.b
 have pK:=@D7c P w K mg base T
 have pL:=T.cR.b
 refine T.lK.F.ok Z6 (λvs H Q E h=>?_) (λcdv A outer s H vs Q E hr h=>?_)
 ·obtain⟨a,ns,rfl,_⟩:=h
  rfl
 ·obtain⟨a,ns,rfl,hS,hlen,told⟩:=h
  refine⟨_,(B9 (C0 (i:=1) Z6.nd rfl (B3 rfl) (B0 qT (hr.mono DD) rfl T.eI.m T.eI.F.kp qU .nil A7 (A1 (pv 0) A5 A0) (he:=A0) (hpl:=A3)))
   (B9 (C0 (i:=2) Z6.nd rfl (B3 rfl) (J2 K5 A8 (B0 ai (hr.mono DD) rfl T.ah.m T.ah.F.kp aj .nil A7 (A1 (pv 1) (A1 (C4 D2 (U9 (A1 A8 (A1 A8 (A1 A8 (A1 A8 A5 E6) E6) E6) E6)) (B0 ai (hr.mono DD) rfl T.ah.m T.ah.F.kp aj .nil A7 (A1 (pv 1) (A1 A8 A5 E6) A0) (he:=A0) (hpl:=(A4 E6 A3))) (λ_ _=>rfl)) A5 A6) A0) (he:=A0) (hpl:=(A4 A6 A3)))))
   (B9 (C0 (i:=3) Z6.nd rfl (B3 rfl) (B0 qM (hr.mono DD) rfl T.cY.m T.cY.F.kp qN .nil A7 (A1 (pv 1) A5 A0) (he:=A0) (hpl:=A3)))
   (B9 (C0 (i:=4) Z6.nd rfl (B3 rfl) (B0 qO (hr.mono DD) rfl T.cZ.m T.cZ.F.kp qP .nil A7 (A1 (pv 1) (A1 (pv 3) A5 A0) A0) (he:=A0) (hpl:=(A4 A0 A3))))
   (B9 (C0 (i:=5) Z6.nd rfl (B3 rfl) (B0 qK (hr.mono DD) rfl T.df.m T.df.F.kp qL .nil A7 (A1 (pv 2) (A1 (pv 4) (A1 (B0 je (hr.mono DD) rfl T.bu.m T.bu.F.kp jf .nil A7 (A1 (pv 1) (A1 (pv 2) (A1 (pv 4) A5 A0) A0) A0) (he:=A0) (hpl:=(A4 A0 (A4 A0 A3)))) A5 D4) A0) A0) (he:=A0) (hpl:=(A4 A0 (A4 D4 A3)))))
   (B9 (C0 (i:=6) Z6.nd rfl (B3 rfl) (B8f T.ik jK (hr.mono DD) rfl T.hZ jL .nil A7 (A1 (pv 2) (A1 (pv 4) (A1 (W6 Z3 rfl T.aD V0 (A1 (C4 D2 (pv 5) A8 (λ_ _=>rfl)) A5 A6) (he:=A6) (hpl:=A3)) A5 D4) A0) A0) (he:=A0) (hpl:=(A4 A0 (A4 D4 A3)))))
   (B9 (M5 (K1 (PW.pt (A82 (J3 b7 (B0 ai (hr.mono DD) rfl T.ah.m T.ah.F.kp aj .nil A7 (A1 (pv 1) (A1 A8 A5 E6) A0) (he:=A0) (hpl:=(A4 E6 A3))) A8 (C8 _)) (A81 (J3 T2 (pv 2) A8 (C8 _)))))
   (D7 (C0 (i:=5) Z6.nd rfl (B3 rfl) (B0 qX (hr.mono DD) rfl T.eN.m T.eN.F.kp qY .nil A7 (A1 (pv 1) (A1 (pv 6) (A1 (pv 5) (A1 (pv 3) A5 A0) A0) A0) A0) (he:=A0) (hpl:=(A4 A0 (A4 A0 (A4 A0 A3)))))))
   K4))
   (B9 (l3 V5 rfl (A16 rfl T.cj (A1 (B0 ai (hr.mono DD) rfl T.ah.m T.ah.F.kp aj .nil A7 (A1 (pv 1) (A1 A8 A5 E6) A0) (he:=A0) (hpl:=(A4 E6 A3))) A5 D4)) (Q3 (i:=7) Z6.nd rfl (B3 rfl))
   (B9 (V6 (g9 (pv 6) T.ae T.cX dM (hr.mono DD) dN .nil A7 (A1 (B0 ai (hr.mono DD) rfl T.ah.m T.ah.F.kp aj .nil A7 (A1 (pv 1) (A1 (pv 2) A5 A0) A0) (he:=A0) (hpl:=(A4 A0 A3))) A5 D4) (hst:=D4) (hpl:=A3)))
   (B9 (C0 (i:=8) Z6.nd rfl (B3 rfl) (B0 qV (hr.mono DD) rfl T.eM.m T.eM.F.kp qW .nil A7 (A1 (pv 1) (A1 (pv 5) (A1 (pv 3) (A1 (J2 W5 A8 (pv 3)) A5 F4) A0) A0) A0) (he:=A0) (hpl:=(A4 A0 (A4 A0 (A4 F4 A3))))))
   (B9 (C0 (i:=5) Z6.nd rfl (B3 rfl) (B0 kP (hr.mono DD) rfl T.bR.m T.bR.F.kp kQ .nil A7 (A1 (pv 5) (A1 (pv 8) A5 A0) A0) (he:=A0) (hpl:=(A4 A0 A3))))
   (B9 (V6 (B0 qC (hr.mono DD) rfl T.fL.m T.fL.F.kp qD .nil A7 (A1 (pv 6) (A1 (pv 8) A5 A0) A0) (he:=A0) (hpl:=(A4 A0 A3))))
   (D7 (K1 (J3 b7 (B0 ai (hr.mono DD) rfl T.ah.m T.ah.F.kp aj .nil A7 (A1 (pv 1) (A1 A8 A5 E6) A0) (he:=A0) (hpl:=(A4 E6 A3))) A8 (C8 _))
   (B9 (C0 (i:=9) Z6.nd rfl (B3 rfl) (B0 dj (hr.mono DD) rfl T.bC T.bj.F.kp dk .nil A7 (A1 (B0 bM (hr.mono DD) rfl T.am.m T.am.F.kp bN .nil A7 (A1 (pv 5) A5 A0) (he:=A0) (hpl:=A3)) (A1 (C4 D2 (pv 5) A8 (λ_ _=>rfl)) (A1 (C4 D2 (pv 5) A8 (λ_ _=>rfl)) A5 A6) A6) D4) (he:=D4) (hpl:=(A4 A6 (A4 A6 A3)))))
   (D7 (K1 (b5 (b4 (B0 eQ (hr.mono DD) rfl T.aE.m T.aE.F.kp eR .nil A7 (A1 (pv 6) (A1 (pv 5) (A1 (pv 9) (A1 (B0 ai (hr.mono DD) rfl T.ah.m T.ah.F.kp aj .nil A7 (A1 (pv 1) (A1 (pv 2) A5 A0) A0) (he:=A0) (hpl:=(A4 A0 A3))) A5 D4) A0) A0) A0) (he:=A0) (hpl:=(A4 A0 (A4 A0 (A4 D4 A3)))))))
   (D7 (F7 A0o))
   K4)))
   K4)))))))
   (B9 (C0 (i:=10) Z6.nd rfl (B3 rfl) (B0 je (hr.mono DD) rfl T.bu.m T.bu.F.kp jf .nil A7 (A1 (pv 1) (A1 (pv 2) (A1 (C4 D2 (pv 5) A8 (λ_ _=>rfl)) A5 A6) A0) A0) (he:=A0) (hpl:=(A4 A0 (A4 A6 A3)))))
   (B9 (C0 (i:=11) Z6.nd rfl (B3 rfl) (B0 pK (hr.mono DD) rfl T.cR.m T.cR.F.kp pL .nil A7 (A1 (pv 1) (A1 (pv 2) (A1 (pv 3) A5 A0) A0) A0) (he:=A0) (hpl:=(A4 A0 (A4 A0 A3)))))
   (B9 (C0 (i:=12) Z6.nd rfl (B3 rfl) (B0 pK (hr.mono DD) rfl T.cR.m T.cR.F.kp pL .nil A7 (A1 (pv 1) (A1 (pv 2) (A1 (pv 3) A5 A0) A0) A0) (he:=A0) (hpl:=(A4 A0 (A4 A0 A3)))))
   (B9 (M5 (K1 (b5 (b4 (B0 nz (hr.mono DD) rfl T.cm.m T.cm.F.kp nA .nil A7 (A1 (pv 6) (A1 (pv 5) (A1 (pv 10) (A1 (U9 (A1 (R8 (A1 (pv 11) (A1 (pv 12) A5 A0) A0)) (A1 (R8 (A1 (pv 11) (A1 (pv 11) A5 A0) A0)) (A1 (R8 (A1 (pv 12) (A1 (pv 11) A5 A0) A0)) (A1 (R8 (A1 (pv 11) (A1 (pv 12) A5 A0) A0)) A5 l7) l7) l7) l7)) A5 l6) A0) A0) A0) (he:=A0) (hpl:=(A4 A0 (A4 A0 (A4 l6 A3)))))))
   (D7 (F7 A0o))
   K4))
   (D7 (F7 (B0 nz (hr.mono DD) rfl T.cm.m T.cm.F.kp nA .nil A7 (A1 (B0 pI (hr.mono DD) rfl T.cc.m T.cc.F.kp pJ .nil A7 (A1 (pv 1) (A1 (pv 5) A5 A0) A0) (he:=A0) (hpl:=(A4 A0 A3))) (A1 (pv 5) (A1 (pv 10) (A1 (U9 (A1 (R8 (A1 (pv 11) (A1 (pv 12) A5 A0) A0)) A5 l7)) A5 l6) A0) A0) D4) (he:=D4) (hpl:=(A4 A0 (A4 A0 (A4 l6 A3))))))))))))))))))),?_⟩
  try dsimp only[N6,Cx.nox]
  refine j3 λW hW=>?_
  refine⟨_,rfl,a,ns,rfl,hS,λhd hl H1 _ _ d1 _=>?_⟩
  have drw:∀(n:Int) (Hx:Hp) (Qv:VK),0 < n->n < 100000000000000000000000000000000000000->Hd Hx hd hl->(∀r Hy,0<=r->r < n->(∀b o,Hx b=some o->b≠hd->Hy b=some o)->Hd Hy hd hl->Qv (.int r) Hy)->spD [.hd,.sh] A9z [.ref hd,.int n] Hx Qv E0:=λn Hx Qv n0 n1 hx q=>
   j4 (E:=E0) (λd=>∃r:Int,(0<=r/\r < n)/\d=.int r) hx (.cons (.int _) .nil) ⟨n,rfl,n0,OO,λr r0 r1=>⟨r,⟨r0,r1⟩,rfl⟩⟩ λd v Hy hd' tv ky hy=>by
    obtain⟨r,⟨r0,r1⟩,rfl⟩:=hd'
    cases tv
    exact q r Hy r0 r1 (λb o e n=>ky b o e λq hq=>by cases hq;exact n) hy
  refine @G8 W _ _ _ _ _ hW λW hW=>?_
  refine⟨_,rfl,by show 4<=sizeLine;decide,λl4 hl4=>?_⟩
  have s4:Same H1 _:=Same.upd (o:=.lst [.int 6,.int 6,.int 6,.int 12]) hl4
  have n4:l4≠hd:=(d1.ne hl4).1
  refine⟨_,rfl,drw 4 _ _ DD DD (d1.same s4) λu H2 u0 u4 k2 d2=>?_⟩
  obtain⟨c,hc,c0,c1⟩:∃c,atI [V.int 6,V.int 6,V.int 6,V.int 12] u=some (V.int c)/\0 < c/\c<=12:=by
   rcases (show u=0\/u=1\/u=2\/u=3 by lia) with rfl | rfl | rfl | rfl
   ·exact⟨6,rfl,DD,DD⟩
   ·exact⟨6,rfl,DD,DD⟩
   ·exact⟨6,rfl,DD,DD⟩
   ·exact⟨12,rfl,DD,DD⟩
  refine⟨l4,_,_,_,rfl,rfl,SqL.of (k2 _ _ B6 n4),hc,drw c _ _ c0 OO d2 λm0 H3 m00 m01 k3 d3=>?_⟩
  obtain⟨m,hm⟩:∃m:Nat,1 + m0=((m:Nat):Int):=⟨(1 + m0).toNat,OO⟩
  refine⟨_,_,rfl,rfl,?_⟩
  dsimp only
  rw[hm]
  clear k2 k3 s4 d2 hc
  refine @G8 W _ _ _ _ _ hW λW hW=>?_
  refine⟨_,rfl,D3i (E:=E0) (λd=>∃r:Int,(1<=r/\r<=1000000000000000000)/\d=.int r) d3 ⟨_,rfl,λr r0 r1=>⟨r,⟨r0,r1⟩,rfl⟩⟩ λd v H4 hd' tv _ d4=>?_⟩
  obtain⟨sc,⟨sc0,sc1⟩,rfl⟩:=hd'
  cases tv
  refine @G8 W _ _ _ _ _ hW λW hW=>?_
  refine⟨_,rfl,_,rfl,j4 (E:=E0) (λd=>∃r:Int,(0<=r/\r<=100000000000000000000)/\d=.int r) d4 (.cons (.int _) .nil) ⟨_,sc,rfl,OO,sc1,λr r0 r1=>⟨r,⟨r0,r1⟩,rfl⟩⟩ λd v H5 hd' tv _ d5=>?_⟩
  obtain⟨st,⟨st0,st1⟩,rfl⟩:=hd'
  cases tv
  refine @G8 W _ _ _ _ _ hW λW hW=>?_
  refine⟨_,rfl,_,rfl,_,rfl,_,rfl,_,rfl,j4 (E:=E0) (λd=>∃t,G1 m st t/\d=.list (B7 t)) d5 (.cons (.int _) (.cons (.int _) .nil)) ⟨_,m,st,rfl,OO,st0,OO,λt ht=>⟨t,ht,rfl⟩⟩ λd vg H6 hd' tg _ d6=>?_⟩
  obtain⟨g,tg0,rfl⟩:=hd'
  refine⟨m,st,g,vg,rfl,tg.any,λas dc H7 sa ndc s7=>?_⟩
  have d7:=d6.same s7
  have ok0:KOk m st g []:=⟨OO,OO,st0,st1,tg0,List.nodup_nil,O7 _,λq hq=>by cases hq⟩
  have sa7:O6 (λb=>b≠hd) H7 as dc m st g []:=sa.mv (λb o e _ _=>e) λb hb=>(d6.ne hb).1
  refine @G8 W _ _ _ _ _ hW λW hW=>?_
  have sa8:=sa7
  obtain⟨⟨gl,ug,e1,f1,f2,e2,t2⟩,kvs,e3,kv⟩:=sa7
  refine⟨_,rfl,_,rfl,_,rfl,as,_,_,_,rfl,rfl,SqL.of e1,rfl,gl,ug,rfl,.inl (SqL.of e2),λlg hlg=>?_⟩
  have s8:Same H7 (upd H7 lg (.lst ug)):=Same.upd hlg
  intro p dx hp hdx npx
  obtain⟨H8,hH8⟩:∃H8,H8=upd H7 lg (.lst ug):=⟨_,rfl⟩
  rw[<-hH8] at hp hdx s8 ⊢
  have elg:H8 lg=some (.lst ug):=by rw[hH8];exact B6
  clear hH8
  have s9:Same H8 (upd H8 dx (.own p)):=Same.upd hdx
  have hp9:upd H8 dx (.own p) p=none:=by rw[B8 (λz=>npx z.symm)];exact hp
  have s10:=Same.upd (o:=.ins T.ac dx []) hp9
  refine⟨p,dx,m,st,g,.ref lg,rfl,B6,.lst trivial (s10 _ _ (s9 _ _ elg)) (G3 t2),ok0,λd low H9 lr nd kp fr=>⟨rfl,?_⟩⟩
  have pd:p≠d/\_:=A1z kp
  have sH:Same H7 H9:=λb o e=>fr _ _ (s10 _ _ (s9 _ _ (s8 _ _ e))) λz=>by rw[z] at e;rw[s8 _ _ e] at hp;cases hp
  have d9:=d7.same sH
  have L9:L92 (λb=>b≠hd) T.ac hd hl as dc p d ⟨m,st,g,[],low⟩ H9:=by
   refine⟨d9,λ_ z=>z,λb hb=>(d9.ne hb).1,sa8.mv (λb o e _ _=>sH _ _ e) λ_ z=>z,kp.mv (λb o e _=>e) (λb hb=>?_),?_,ok0,lr⟩
   ·obtain⟨o,eo⟩:=d7.at1
    intro z
    rw[z,s10 _ _ (s9 _ _ (s8 _ _ eo))] at hb;cases hb
   ·intro z
    rw[<-z,s10 _ _ (s9 _ _ (s8 _ _ e3))] at nd;cases nd
  obtain⟨kk,hks⟩:∃kk:Kst,kk=⟨m,st,g,[],low⟩:=⟨_,rfl⟩
  have ekm:kk.m=m:=by rw[hks]
  have ekw:kk.kws=[]:=by rw[hks]
  rw[<-hks] at L9
  clear hks sH fr kp pd s10 s9 hp9 s8 elg hdx hp npx hlg sa8 e1 e2 e3 kv t2 f1 f2 d7 sa s7 d6 d5 d4 d3 lr nd ok0
  refine @G8 W _ _ _ _ _ hW λW hW=>?_
  refine⟨fun σ' H'=>∃(as dc:Addr) (kk:Kst),σ'=[some (.ref a),some (.ref hd),some (.int ((m:Nat):Int)),some (.int sc),some (.int st),some (.ref as),some (.ref p),none,none,none,none,none,none]/\L92 (λb=>b≠hd) T.ac hd hl as dc p d kk H'/\kk.m=m,?_,?_⟩
  ·refine B6z (λ_ H2=>L92 (λb=>b≠hd) T.ac hd hl as dc p d kk H2) (λQx hQ=>?_) (λb H2 L2=>?_)
   ·refine⟨_,rfl,drw 6 _ _ DD DD L9.hnd λr H2 _ _ k2 d2=>⟨rfl,_,rfl,?_⟩⟩
    have L2:=L9.draw k2 d2
    generalize decide (V.int r=V.int 0)=bb
    cases bb with
    | false=>exact C7 (hQ false _ L2)
    | true=>exact G0 ⟨_,rfl,_,_,rfl,rfl,_,rfl,hQ _ _ L2⟩
   ·cases b with
    | false=>exact C7 ⟨as,dc,kk,rfl,L2,ekm⟩
    | true=>exact G0 ⟨_,rfl,_,rfl,_,rfl,_,rfl,hd,hl,as,dc,p,d,kk,sc,rfl,L2,ekw,⟨sc0,sc1⟩,λa' dc' kk' H' L' em=>⟨a',dc',kk',rfl,L',em.trans ekm⟩⟩
  clear L9 d9 ekm ekw
  rintro σ' H10 ⟨as,dc,kk,rfl,L10,ekm⟩
  refine @G8 W _ _ _ _ _ hW λW hW=>?_
  refine⟨_,rfl,drw 13 _ _ DD DD L10.hnd λn H11 n0 n13 k11 d11=>?_⟩
  have L11:=L10.draw k11 d11
  clear L10
  refine⟨_,rfl,OO,OO,?_⟩
  refine C5j (n:=n.toNat) (λi σ' H'=>∃(as dc:Addr) (kk:Kst) (x7 x8 x9:Option V),σ'=[some (.ref a),some (.ref hd),some (.int ((m:Nat):Int)),some (.int sc),some (.int st),some (.ref as),some (.ref p),x7,x8,x9,none,none,none]/\L92 (λb=>b≠hd) T.ac hd hl as dc p d kk H'/\kk.m=m) ⟨as,dc,kk,none,none,none,rfl,L11,ekm⟩ ?_ ?_
  ·clear L11 ekm
   rintro i σ' H' hi ⟨as,dc,kk,x7,x8,x9,rfl,L,ekm⟩
   try dsimp only[g4]
   have m1:=L.ok.m1
   have fw:=L.ok.few
   obtain⟨dx,g0,l0,ep⟩:=kpi L.kp
   refine⟨_,rfl,p,dx,_,rfl,ep,P5 KK,_,rfl,_,rfl,drw ((m:Nat):Int) _ _ OO OO L.hnd λr H2 r0 r1 k2 d2=>?_⟩
   have L2:=L.draw k2 d2
   obtain⟨j,rfl⟩:∃j:Nat,r=((j:Nat):Int):=⟨r.toNat,OO⟩
   refine⟨_,p,d,kk,[.int ((j:Nat):Int)],[.int ((j:Nat):Int)],rfl,L2.new,L2.kp,.cons (.int _) .nil,⟨j,rfl,OO,L2.ok⟩,λrr v H3 po kp3 tv fr3=>?_⟩
   have L3:=L2.fr kp3 fr3
   clear tv po fr3 kp3 L2 k2 d2
   refine⟨_,rfl,_,rfl,_,rfl,_,rfl,_,_,rfl,rfl,.inl ⟨DD,DD⟩,?_⟩
   refine⟨_,hd,hl,as,dc,kk,sc,4 * sc,rfl,L3.hnd,L3.fF,L3.sta,L3.ok,⟨OO,sc1⟩,⟨OO,OO⟩,λdd v H4 dok il tv k4 d4=>?_⟩
   have L4:=L3.draw k4 d4
   try dsimp only[g4]
   refine⟨_,rfl,_,rfl,_,as,dc,kk,v,dd,rfl,L4.sta,OO,tv.any,dok,λas' dc' H5 sa5 n5 s5=>?_⟩
   have L5:=L4.keep s5
   try dsimp only[g4]
   refine⟨_,rfl,_,rfl,_,p,d,kk,v,dd,rfl,L5.new,L5.kp,tv.any.keep s5,L5.ok,L5.low.tab.len,dok,λrr v6 k6 H6 po kp6 tv6 fr6 ap6=>?_⟩
   obtain⟨b,lb,rfl,rfl⟩:=po
   have L6:=L4.next sa5 n5 s5 dok kp6 fr6 lb
   have mt:(K8 kk dd).m=kk.m:=by cases dd <;> rfl
   obtain⟨k7,hk7⟩:∃k7:Kst,k7={ K8 kk dd with low:=b }:=⟨_,rfl⟩
   have em7:k7.m=m:=by rw[hk7];exact mt.trans ekm
   rw[<-hk7] at L6
   clear hk7 kp6 tv6 fr6 ap6 lb sa5 n5 s5 L5 L4 L3 L dok il tv k4 d4 mt
   refine⟨_,rfl,drw 4 _ _ DD DD L6.hnd λr7 H7 _ _ k8 d8=>⟨rfl,_,rfl,?_⟩⟩
   have L7:=L6.draw k8 d8
   clear L6 k8 d8
   generalize decide (V.int r7=V.int 0)=bb
   cases bb with
   | false=>exact C7 ⟨as',dc',k7,_,_,_,rfl,L7,em7⟩
   | true=>
    refine G0 ?_
    have f7:=L7.ok.few
    have s7k:=L7.ok.s1
    have sta7:=L7.sta
    obtain⟨⟨gl,ug,e1,f1,f2,e2,t2⟩,kvs,e3,kv⟩:=L7.sta
    refine⟨_,rfl,_,as',dc',k7.m,k7.st,k7.g,k7.kws,rfl,sta7,by unfold B5;rw[C6];lia,λvl H8 tvl s8=>?_⟩
    refine⟨_,rfl,as',_,_,_,rfl,rfl,SqL.of (s8 _ _ e1),rfl,_,rfl,as',_,_,_,rfl,rfl,SqL.of (s8 _ _ e1),rfl,[E8 k7.m (wsF k7.kws),.int k7.st,.list (B7 k7.g)],(λd=>∃t,N9 k7.m ((wsF k7.kws).map S2) k7.st (lkF k7.st k7.g) t/\d=.list (B7 (lkF k7.st t))),.cons tvl.any (.cons (.int _) (.cons (.lst trivial (s8 _ _ e2) (G3 t2)) .nil)),⟨k7.m,wsF k7.kws,k7.st,k7.g,rfl,L7.ok.land,L7.ok.s0,OO,L7.ok.gt,λt ht=>⟨t,ht,rfl⟩⟩,λd9 vt H9 hd9 tvt s9=>?_⟩
    obtain⟨t,ht,rfl⟩:=hd9
    have L9:=(L7.keep s8).keep s9
    try dsimp only[g4]
    refine⟨_,rfl,_,rfl,_,rfl,_,rfl,_,rfl,drw ((m:Nat):Int) _ _ OO OO L9.hnd λr H10 r0 r1 k10 d10=>?_⟩
    have LX:=L9.draw k10 d10
    obtain⟨j,rfl⟩:∃j:Nat,r=((j:Nat):Int):=⟨r.toNat,OO⟩
    have tvt':ThV TT0 H10 vt (.list (B7 (lkF k7.st t))):=by
     obtain⟨at',ut,rfl,gt',et,tut⟩:=K9 tvt
     refine .lst trivial (k10 _ _ et ?_) (G3 tut)
     rcases gt' with z | ⟨xs,z⟩
     ·exact ((L7.keep s8).hnd.ne z).1
     ·exact A8m (L7.keep s8).hnd z λxs z=>by cases z
    refine⟨_,_,p,d,as',dc',k7,k7.kws,lkF k7.st t,vt,j,rfl,LX.new,LX.kp,LX.sta,A3j.refl _,LX.ok.nd,LX.ne,LX.ok,⟨t,ht,rfl⟩,tvt',OO,λH11 kp11 fr11=>⟨_,rfl,C7 ⟨as',dc',k7,_,_,_,rfl,LX.fr kp11 fr11,em7⟩⟩⟩
  clear L11 ekm
  rintro σ' H12 ⟨as,dc,kk,x7,x8,x9,rfl,L,ekm⟩
  have m1:=L.ok.m1
  have m2:=L.ok.m2
  have s0k:=L.ok.s0
  have s1k:=L.ok.s1
  obtain⟨⟨gl,ug,e1,_⟩,_⟩:=L.sta
  subst hW
  refine⟨_,rfl,_,rfl,_,rfl,as,_,_,_,rfl,rfl,SqL.of e1,rfl,j4 (E:=E0) (λd=>∃t,G1 m kk.st t/\d=.list (B7 t)) L.hnd (.cons (.int _) (.cons (.int _) .nil)) ⟨_,m,kk.st,rfl,OO,s0k,OO,λt ht=>⟨t,ht,rfl⟩⟩ λd' vb H13 hd' tvb k13 d13=>?_⟩
  obtain⟨bt,hbt,rfl⟩:=hd'
  have k13':∀b o,H12 b=some o->b≠hd->H13 b=some o:=λb o e n=>k13 b o e λq hq=>by cases hq;exact n
  have L13:=L.draw k13' d13
  clear L e1
  refine⟨_,rfl,_,rfl,_,rfl,j4 (E:=E0) (λd=>∃b,A1c m b/\d=J1 b) d13 (.cons (.int _) (.cons (.int _) .nil)) ⟨_,m,sc,rfl,OO,OO,sc0,sc1,λb hb=>⟨b,hb,rfl⟩⟩ λd' v1 H14 hd' tv1 k14 d14=>?_⟩
  obtain⟨b1,hb1,rfl⟩:=hd'
  have k14':∀b o,H13 b=some o->b≠hd->H14 b=some o:=λb o e n=>k14 b o e λq hq=>by cases hq;exact n
  have L14:=L13.draw k14' d14
  refine⟨_,rfl,_,rfl,_,rfl,j4 (E:=E0) (λd=>∃b,A1c m b/\d=J1 b) d14 (.cons (.int _) (.cons (.int _) .nil)) ⟨_,m,sc,rfl,OO,OO,sc0,sc1,λb hb=>⟨b,hb,rfl⟩⟩ λd' v2 H15 hd' tv2 k15 d15=>?_⟩
  obtain⟨b2,hb2,rfl⟩:=hd'
  have k15':∀b o,H14 b=some o->b≠hd->H15 b=some o:=λb o e n=>k15 b o e λq hq=>by cases hq;exact n
  have L15:=L14.draw k15' d15
  have tb15:ThV (λb=>b≠hd) H15 vb (.list (B7 bt)):=tvb.mv λb o z e=>⟨z,k15' _ _ (k14' _ _ e z) z⟩
  have t115:ThV (λb=>b≠hd) H15 v1 (J1 b1):=tv1.mv λb o z e=>⟨z,k15' _ _ e z⟩
  clear L13 L14 tvb tv1 k13 k14 k15 k13' k14' k15' d13 d14
  have hsp:∀{x:Sp2×Sp2},(x.1=b1\/x.1=b2)->(x.2=b1\/x.2=b2)->A1c kk.m x.1/\A1c kk.m x.2:=λ{x} h1 h2=>by
   rw[ekm]
   exact⟨by rcases h1 with h | h <;> rw[h] <;> assumption,by rcases h2 with h | h <;> rw[h] <;> assumption⟩
  refine⟨fun σ' H'=>σ'=[some (.ref a),some (.ref hd),some (.int ((m:Nat):Int)),some (.int sc),some (.int st),some (.ref as),some (.ref p),x7,x8,x9,some vb,some v1,some v2]/\L92 (λb=>b≠hd) T.ac hd hl as dc p d kk H'/\ThV (λb=>b≠hd) H' vb (.list (B7 bt))/\ThV (λb=>b≠hd) H' v1 (J1 b1)/\ThV (λb=>b≠hd) H' v2 (J1 b2),?_,?_⟩
  ·refine⟨_,rfl,_,rfl,_,rfl,_,rfl,_,rfl,by show 2<=sizeLine;decide,λq1 h1=>⟨_,rfl,_,rfl,by show 2<=sizeLine;decide,λq2 h2=>⟨_,rfl,_,rfl,by show 2<=sizeLine;decide,λq3 h3=>⟨_,rfl,_,rfl,by show 2<=sizeLine;decide,λq4 h4=>⟨by show 4<=sizeLine;decide,λql h5=>?_⟩⟩⟩⟩⟩
   have s1:=Same.upd (o:=.tup [v1,v2]) h1
   have s2:=Same.upd (o:=.tup [v1,v1]) h2
   have s3:=Same.upd (o:=.tup [v2,v1]) h3
   have s4:=Same.upd (o:=.tup [v1,v2]) h4
   have s5:=Same.upd (o:=.lst [.ref q1,.ref q2,.ref q3,.ref q4]) h5
   have s25:=((s2.tr s3).tr s4).tr s5
   have s35:=(s3.tr s4).tr s5
   have s45:=s4.tr s5
   have s15:=s1.tr s25
   have LQ:=L15.keep s15
   have u1:=t115.any.keep s15
   have u2:=tv2.any.keep s15
   refine⟨_,_,p,d,as,dc,kk,kk.kws,vb,.ref ql,bt,[(b1,b2),(b1,b1),(b2,b1),(b1,b2)],rfl,LQ.new,LQ.kp,LQ.sta,A3j.refl _,LQ.ok.nd,LQ.ne,LQ.ok,LQ.low,tb15.any.keep s15,by rw[ekm];exact hbt,.lst trivial B6 (.cons (.tup trivial (s25 _ _ B6) (.cons u1 (.cons u2 .nil))) (.cons (.tup trivial (s35 _ _ B6) (.cons u1 (.cons u1 .nil))) (.cons (.tup trivial (s45 _ _ B6) (.cons u2 (.cons u1 .nil))) (.cons (.tup trivial (s5 _ _ B6) (.cons u1 (.cons u2 .nil))) .nil)))),by show 4<=9;decide,λx hx=>?_,λH' kp' fr'=>⟨_,rfl,C7 ⟨rfl,LQ.fr kp' fr',?_,?_,?_⟩⟩⟩
   ·simp only[N3,List.not_mem_nil,or_false] at hx
    rcases hx with rfl | rfl | rfl | rfl
    ·exact hsp (.inl rfl) (.inr rfl)
    ·exact hsp (.inl rfl) (.inl rfl)
    ·exact hsp (.inr rfl) (.inl rfl)
    ·exact hsp (.inl rfl) (.inr rfl)
   ·obtain⟨ab,ub,rfl,gb,eb,tub⟩:=K9 (tb15.keep s15)
    exact .lst gb (fr' _ _ eb (N2 LQ.kp eb).1 (N2 LQ.kp eb).2) (G3 tub)
   ·exact C4b (λb xs e=>fr' _ _ e (S3 LQ.kp e).1 (S3 LQ.kp e).2) (t115.keep s15)
   ·exact C4b (λb xs e=>fr' _ _ e (S3 LQ.kp e).1 (S3 LQ.kp e).2) (tv2.keep s15)
  clear L15 tb15 t115 tv2 d15
  rintro σ' H16 ⟨rfl,L16,tb,tq1,tq2⟩
  obtain⟨⟨gl',ug',e1,_⟩,kvs,e3,_⟩:=L16.sta
  refine⟨_,rfl,_,rfl,hd,hl,as,dc,kk.m,kk.st,kk.g,kk.kws,rfl,L16.hnd,L16.sta,L16.ok,λp' d' kk' H17 hh' kp' em es eg pm lr fr nd=>?_⟩
  have t1':ThV (λb=>b≠hd) H17 v1 (J1 b1):=tq1.mv λb o z e=>⟨z,fr _ _ e z⟩
  have t2':ThV (λb=>b≠hd) H17 v2 (J1 b2):=tq2.mv λb o z e=>⟨z,fr _ _ e z⟩
  have tb':ThV (λb=>b≠hd) H17 vb (.list (B7 bt)):=tb.mv λb o z e=>⟨z,fr _ _ e z⟩
  have sa':O6 (λb=>b≠hd) H17 as dc kk.m kk.st kk.g kk.kws:=D5f L16.sta L16.hnd fr
  have ned:dc≠d':=λz=>by rw[z,nd] at e3;cases e3
  have okk:KOk kk'.m kk'.st kk'.g kk'.kws:=B0h.ok (a:=kk) ⟨em,es,eg,pm⟩ L16.ok
  refine⟨_,rfl,_,rfl,_,rfl,_,rfl,by show 2<=sizeLine;decide,λq1 h1=>⟨by show 1<=sizeLine;decide,λql h5=>?_⟩⟩
  have s1:=Same.upd (o:=.tup [v1,v2]) h1
  have s5:=Same.upd (o:=.lst [.ref q1]) h5
  have s15:=s1.tr s5
  refine⟨_,_,p',d',as,dc,kk',kk.kws,vb,.ref ql,bt,[(b1,b2)],rfl,(λb hb=>(hh'.ne (s15.early hb)).1),kp'.same s15,by rw[em,es,eg];exact sa'.mv (λb o e _ _=>s15 _ _ e) (λ_ z=>z),pm,L16.ok.nd,ned,okk,lr,tb'.any.keep s15,by rw[em,es,ekm];exact hbt,.lst trivial B6 (.cons (.tup trivial (s5 _ _ B6) (.cons (t1'.any.keep s15) (.cons (t2'.any.keep s15) .nil))) .nil),by show 1<=9;decide,λx hx=>?_,λH' _ _=>told H'⟩
  rw[A1h.mp hx,em]
  exact hsp (.inl rfl) (.inr rfl)
theorem all_mk {l:PySem.W.OpenLaw} {w:World} {K:A9} {h:Heap} {mg:Str->Option Value} {fa:Addr} (X:K.In h) (G:h.Ns mainGlobals mg) (hfa:mg "law" = some (.ref fa))
  (h0:FH K "is_whole" B47)
  (h1:FH K "is_store" B48)
  (h2:FH K "is_level" B49)
  (h3:FH K "stepped" B5a)
  (h4:FH K "levels_along" B5b)
  (h5:FH K "is_place" B5c)
  (h6:FH K "is_change" B5d)
  (h7:FH K "is_way" B5e)
  (h8:FH K "turned_land" B1k)
  (h9:FH K "changes_of" B1l)
  (h10:FH K "most_taken" B1m)
  (h11:FH K "is_table" B1n)
  (h12:FH K "is_more" B5f)
  (h13:FH K "behind_way" B5g)
  (h14:FH K "is_within" B5h)
  (h15:FH K "effect_of_none" B5i)
  (h16:FH K "effect_of_one" B5j)
  (h17:FH K "effect_of" B5k)
  (h18:FH K "passed" B5l)
  (h19:FH K "joined" B5m)
  (h20:FH K "first_row" B5n)
  (h21:FH K "row_behind" B5o)
  (h22:FH K "walk_to" B5p)
  (h23:FH K "behind_ways" B5q)
  (h24:FH K "behind_part" B5r)
  (h25:FH K "end_of" B5s)
  (h26:FH K "backward" B1o)
  (h27:FH K "rows_from" B5t)
  (h28:FH K "still_rises" B5u)
  (h29:FH K "rising_walk" B1p)
  (h30:FH K "parted_at_round" B1q)
  (h31:FH K "parts_by" B5v)
  (h32:FH K "filling_parts" B5w)
  (h33:FH K "settled" B1r)
  (h35:FH K "trip_to" B1s)
  (h36:FH K "trips_to" B1t)
  (h37:FH K "lacking" B1u)
  (h39:FH K "trips_on" B1v)
  (h40:FH K "base_at" B5x)
  (h41:FH K "has_enough" B5y)
  (h42:FH K "comes_through" B5z)
  (h43:FH K "store_enough" B50)
  (h45:FH K "is_label" B51)
  (h46:FH K "places_below" B1w)
  (h47:FH K "_law_hand" B52)
  (h48:FH K "_law_next" B53)
  (h49:FH K "_law_take" B54)
  (h50:FH K "_law_draw" B55)
  (h51:FH K "_law_scale" B56)
  (h52:FH K "_law_change" B57)
  (h53:FH K "_law_store" B58)
  (h54:FH K "_law_table" B1x)
  (h55:FH K "_law_effect" B59)
  (h56:FH K "_law_times" B6a)
  (h57:FH K "_law_arrive" B6b)
  (h58:FH K "_law_is_whole" B6c)
  (h59:FH K "_law_state" B6d)
  (h60:FH K "_law_own_land" B1y)
  (h61:FH K "_law_deed" B1z)
  (h62:FH K "_law_after" B6e)
  (h63:FH K "_law_do" B6f)
  (h64:FH K "_law_asked" B10)
  (h65:FH K "_law_at_once" B11)
  (h66:FH K "_law_trip_right" B6g)
  (h67:FH K "_law_highest_right" B6h)
  (h68:FH K "_law_right" B12)
  (h69:FH K "_law_spot" B6i)
  (h70:FH K "_law_many" B13)
  {f34:Addr} {od34 an34:Option Addr} {sl34:Array (Option Value)} {oc34 kV34 dc34 pm34 cd34 ct34:Value} (a34:K0 K mainGlobals "highest" = some (some (.ref f34))) (l34:K.lookup f34=some ⟨oc34,od34,.func (P6 "highest" "highest" (P9 A7u) (P0 A7u) (B1 A7u) .none kV34 dc34 pm34 an34 cd34 ct34),sl34⟩) (c34:T0 K cd34 "highest" = true) (k34:Q4 K (.ref f34)=true)
  {f38:Addr} {od38 an38:Option Addr} {sl38:Array (Option Value)} {oc38 kV38 dc38 pm38 cd38 ct38:Value} (a38:K0 K mainGlobals "least" = some (some (.ref f38))) (l38:K.lookup f38=some ⟨oc38,od38,.func (P6 "least" "least" (P9 A7v) (P0 A7v) (B1 A7v) .none kV38 dc38 pm38 an38 cd38 ct38),sl38⟩) (c38:T0 K cd38 "least" = true) (k38:Q4 K (.ref f38)=true)
  {f44:Addr} {od44 an44:Option Addr} {sl44:Array (Option Value)} {oc44 kV44 dc44 pm44 cd44 ct44:Value} (a44:K0 K mainGlobals "least_store" = some (some (.ref f44))) (l44:K.lookup f44=some ⟨oc44,od44,.func (P6 "least_store" "least_store" (P9 A7w) (P0 A7w) (B1 A7w) .none kV44 dc44 pm44 an44 cd44 ct44),sl44⟩) (c44:T0 K cd44 "least_store" = true) (k44:Q4 K (.ref f44)=true)
  {f71:Addr} {od71 an71:Option Addr} {sl71:Array (Option Value)} {oc71 kV71 dc71 pm71 cd71 ct71:Value} (a71:K0 K mainGlobals "law" = some (some (.ref f71))) (l71:K.lookup f71=some ⟨oc71,od71,.func (P6 "law" "law" (P9 A1u) (P0 A1u) (B1 A1u) .none kV71 dc71 pm71 an71 cd71 ct71),sl71⟩) (c71:T0 K cd71 "law" = true) (k71:Q4 K (.ref f71)=true)
  {tk_MANY:Tok} (q_MANY:K0 K mainGlobals "MANY" = some (some (.int 0 tk_MANY)))
  {tk_WAYS:Tok} (q_WAYS:K0 K mainGlobals "WAYS" = some (some (.int 1 tk_WAYS)))
  {tk_START:Tok} (q_START:K0 K mainGlobals "START" = some (some (.int 0 tk_START)))
  {tk_END:Tok} (q_END:K0 K mainGlobals "END" = some (some (.int 1 tk_END)))
  {tk_CHANGE:Tok} (q_CHANGE:K0 K mainGlobals "CHANGE" = some (some (.int 2 tk_CHANGE)))
  {tk_MOST_WAYS:Tok} (q_MOST_WAYS:K0 K mainGlobals "MOST_WAYS" = some (some (.int 40 tk_MOST_WAYS)))
  {tk_LEAST:Tok} (q_LEAST:K0 K mainGlobals "LEAST" = some (some (.int 0 tk_LEAST)))
  {tk_GAIN:Tok} (q_GAIN:K0 K mainGlobals "GAIN" = some (some (.int 1 tk_GAIN)))
  {tk_TOP:Tok} (q_TOP:K0 K mainGlobals "TOP" = some (some (.int 2 tk_TOP)))
  {tk_TABLE:Tok} (q_TABLE:K0 K mainGlobals "TABLE" = some (some (.int 0 tk_TABLE)))
  {tk_RISEN:Tok} (q_RISEN:K0 K mainGlobals "RISEN" = some (some (.int 1 tk_RISEN)))
  {tk_FROM:Tok} (q_FROM:K0 K mainGlobals "FROM" = some (some (.int 0 tk_FROM)))
  {tk_BY:Tok} (q_BY:K0 K mainGlobals "BY" = some (some (.int 1 tk_BY)))
  {tk_NUMBERS:Tok} (q_NUMBERS:K0 K mainGlobals "NUMBERS" = some (some (.int 0 tk_NUMBERS)))
  {tk_TIMES:Tok} (q_TIMES:K0 K mainGlobals "TIMES" = some (some (.int 1 tk_TIMES)))
  {tk_PLACE:Tok} (q_PLACE:K0 K mainGlobals "PLACE" = some (some (.int 0 tk_PLACE)))
  {tk_LEVEL:Tok} (q_LEVEL:K0 K mainGlobals "LEVEL" = some (some (.int 1 tk_LEVEL)))
  (z_abs:K0 K mainGlobals "abs" = some none)
  (z_all:K0 K mainGlobals "all" = some none)
  (z_bool:K0 K mainGlobals "bool" = some none)
  (z_dict:K0 K mainGlobals "dict" = some none)
  (z_enumerate:K0 K mainGlobals "enumerate" = some none)
  (z_int:K0 K mainGlobals "int" = some none)
  (z_isinstance:K0 K mainGlobals "isinstance" = some none)
  (z_len:K0 K mainGlobals "len" = some none)
  (z_list:K0 K mainGlobals "list" = some none)
  (z_max:K0 K mainGlobals "max" = some none)
  (z_min:K0 K mainGlobals "min" = some none)
  (z_range:K0 K mainGlobals "range" = some none)
  (z_reversed:K0 K mainGlobals "reversed" = some none)
  (z_sorted:K0 K mainGlobals "sorted" = some none)
  (z_tuple:K0 K mainGlobals "tuple" = some none)
  (qal_highest_highest:K0 K mainGlobals "highest_highest" = some (some (.ref f34)))
  (qal_least_least:K0 K mainGlobals "least_least" = some (some (.ref f38)))
  (qal_least_store_stores:K0 K mainGlobals "least_store_stores" = some (some (.ref f44)))
  {ac:Addr} (xa_Keeper:K0 K mainGlobals "Keeper" = some (some (.ref ac))) (kpg:B2w K ac Str.empty=true) (khd:B7b K ac=true) (kpo:PySem.W.plainOver K ac=true) (ksa:N4 K (.ref ac) "__setattr__" = some (some (.builtin "object.__setattr__"))) (kmk:PySem.W.makesIn K ac=true) (kkc:Q4 K (.ref ac)=true) (kn_many:N4 K (.ref ac) "many" = some none) (kn_full:N4 K (.ref ac) "full" = some none) (kn_wanted:N4 K (.ref ac) "wanted" = some none) (kn_laid:N4 K (.ref ac) "laid" = some none) (kn_lowest:N4 K (.ref ac) "lowest" = some none)
  {dy:Addr} {nQ nR:Option Addr} {nS:Array (Option Value)} {nT nU nV nW kg nX:Value} (fv:N4 K (.ref ac) "__init__" = some (some (.ref dy))) (fz:W3 K (.ref dy)=true) (iC:K.lookup dy=some ⟨nT,nQ,.func (P6 "__init__" "Keeper.__init__" (P9 A7x) (P0 A7x) (B1 A7x) .none nU nV nW nR kg nX),nS⟩) (iD:T0 K kg "Keeper.__init__" = true) (fA:Q4 K (.ref dy)=true)
  {eS:Addr} {pM pN:Option Addr} {pO:Array (Option Value)} {pP pQ pR pS kX pT:Value} (jM:N4 K (.ref ac) "lay" = some (some (.ref eS))) (jN:W3 K (.ref eS)=true) (jO:K.lookup eS=some ⟨pP,pM,.func (P6 "lay" "Keeper.lay" (P9 A7y) (P0 A7y) (B1 A7y) .none pQ pR pS pN kX pT),pO⟩) (jP:T0 K kX "Keeper.lay" = true) (gK:Q4 K (.ref eS)=true)
  {dz:Addr} {nY nZ:Option Addr} {oa:Array (Option Value)} {oe og oi oj kh ol:Value} (iE:N4 K (.ref ac) "lift" = some (some (.ref dz))) (iF:W3 K (.ref dz)=true) (iG:K.lookup dz=some ⟨oe,nY,.func (P6 "lift" "Keeper.lift" (P9 A7z) (P0 A7z) (B1 A7z) .none og oi oj nZ kh ol),oa⟩) (iH:T0 K kh "Keeper.lift" = true) (fB:Q4 K (.ref dz)=true)
  {dA:Addr} {om oo:Option Addr} {oq:Array (Option Value)} {ou ox oy oz kj oA:Value} (iI:N4 K (.ref ac) "turn" = some (some (.ref dA))) (iJ:W3 K (.ref dA)=true) (iK:K.lookup dA=some ⟨ou,om,.func (P6 "turn" "Keeper.turn" (P9 A70) (P0 A70) (B1 A70) .none ox oy oz oo kj oA),oq⟩) (iL:T0 K kj "Keeper.turn" = true) (fC:Q4 K (.ref dA)=true)
  {cr:Addr} {lV lW:Option Addr} {lX:Array (Option Value)} {lY lZ ma md iM me:Value} (fO:N4 K (.ref ac) "refill" = some (some (.ref cr))) (fP:W3 K (.ref cr)=true) (fQ:K.lookup cr=some ⟨lY,lV,.func (P6 "refill" "Keeper.refill" (P9 A71) (P0 A71) (B1 A71) .none lZ ma md lW iM me),lX⟩) (fR:T0 K iM "Keeper.refill" = true) (dw:Q4 K (.ref cr)=true)
  {eT:Addr} {pU pV:Option Addr} {pW:Array (Option Value)} {pX pY pZ qa kY qb:Value} (jQ:N4 K (.ref ac) "aim" = some (some (.ref eT))) (jR:W3 K (.ref eT)=true) (jS:K.lookup eT=some ⟨pX,pU,.func (P6 "aim" "Keeper.aim" (P9 A72) (P0 A72) (B1 A72) .none pY pZ qa pV kY qb),pW⟩) (jT:T0 K kY "Keeper.aim" = true) (gL:Q4 K (.ref eT)=true)
  {cS:Addr} {mw mx:Option Addr} {my:Array (Option Value)} {mz mB mC mD ju mE:Value} (gM:N4 K (.ref ac) "found" = some (some (.ref cS))) (gO:W3 K (.ref cS)=true) (gP:K.lookup cS=some ⟨mz,mw,.func (P6 "found" "Keeper.found" (P9 A73) (P0 A73) (B1 A73) .none mB mC mD mx ju mE),my⟩) (gQ:T0 K ju "Keeper.found" = true) (dY:Q4 K (.ref cS)=true)
  {cT:Addr} {mF mG:Option Addr} {mH:Array (Option Value)} {mI mJ mK mL jv mM:Value} (gR:N4 K (.ref ac) "moved" = some (some (.ref cT))) (gS:W3 K (.ref cT)=true) (gT:K.lookup cT=some ⟨mI,mF,.func (P6 "moved" "Keeper.moved" (P9 A74) (P0 A74) (B1 A74) .none mJ mK mL mG jv mM),mH⟩) (gU:T0 K jv "Keeper.moved" = true) (dZ:Q4 K (.ref cT)=true)
  {dB:Addr} {oB oC:Option Addr} {oE:Array (Option Value)} {oF oG oH oI kn oJ:Value} (iN:N4 K (.ref ac) "ways" = some (some (.ref dB))) (iO:W3 K (.ref dB)=true) (iP:K.lookup dB=some ⟨oF,oB,.func (P6 "ways" "Keeper.ways" (P9 A75) (P0 A75) (B1 A75) .none oG oH oI oC kn oJ),oE⟩) (iQ:T0 K kn "Keeper.ways" = true) (fD:Q4 K (.ref dB)=true)
  {cU:Addr} {mN mO:Option Addr} {mP:Array (Option Value)} {mQ mR mS mT jw mU:Value} (gW:N4 K (.ref ac) "store" = some (some (.ref cU))) (gX:W3 K (.ref cU)=true) (gY:K.lookup cU=some ⟨mQ,mN,.func (P6 "store" "Keeper.store" (P9 A76) (P0 A76) (B1 A76) .none mR mS mT mO jw mU),mP⟩) (gZ:T0 K jw "Keeper.store" = true) (ee:Q4 K (.ref cU)=true)
  {dD:Addr} {oK oM:Option Addr} {oO:Array (Option Value)} {oP oQ oR oT ko oU:Value} (iR:N4 K (.ref ac) "goal" = some (some (.ref dD))) (iS:W3 K (.ref dD)=true) (iT:K.lookup dD=some ⟨oP,oK,.func (P6 "goal" "Keeper.goal" (P9 A77) (P0 A77) (B1 A77) .none oQ oR oT oM ko oU),oO⟩) (iU:T0 K ko "Keeper.goal" = true) (fE:Q4 K (.ref dD)=true)
  {dE:Addr} {oV oW:Option Addr} {oX:Array (Option Value)} {oY oZ pb pc kr pe:Value} (iV:N4 K (.ref ac) "land" = some (some (.ref dE))) (iW:W3 K (.ref dE)=true) (iX:K.lookup dE=some ⟨oY,oV,.func (P6 "land" "Keeper.land" (P9 A48) (P0 A48) (B1 A48) .none oZ pb pc oW kr pe),oX⟩) (iY:T0 K kr "Keeper.land" = true) (fG:Q4 K (.ref dE)=true)
  {cV:Addr} {mV mW:Option Addr} {mX:Array (Option Value)} {mY mZ na nc jx ng:Value} (hG:N4 K (.ref ac) "least" = some (some (.ref cV))) (hJ:W3 K (.ref cV)=true) (hU:K.lookup cV=some ⟨mY,mV,.func (P6 "least" "Keeper.least" (P9 A78) (P0 A78) (B1 A78) .none mZ na nc mW jx ng),mX⟩) (hV:T0 K jx "Keeper.least" = true) (ek:Q4 K (.ref cV)=true)
  {bE:Addr} {ku kz:Option Addr} {kA:Array (Option Value)} {kB kC kD kE fI kF:Value} (dl:N4 K (.ref ac) "trip_from" = some (some (.ref bE))) (dq:W3 K (.ref bE)=true) (dr:K.lookup bE=some ⟨kB,ku,.func (P6 "trip_from" "Keeper.trip_from" (P9 A79) (P0 A79) (B1 A79) .none kC kD kE kz fI kF),kA⟩) (dt:T0 K fI "Keeper.trip_from" = true) (cp:Q4 K (.ref bE)=true)
  {ci:Addr} {lB lC:Option Addr} {lD:Array (Option Value)} {lE lF lG lH hX lI:Value} (eU:N4 K (.ref ac) "highest" = some (some (.ref ci))) (eV:W3 K (.ref ci)=true) (eX:K.lookup ci=some ⟨lE,lB,.func (P6 "highest" "Keeper.highest" (P9 A8a) (P0 A8a) (B1 A8a) .none lF lG lH lC hX lI),lD⟩) (eY:T0 K hX "Keeper.highest" = true) (cW:Q4 K (.ref ci)=true)
  {br:Addr} {ji jj:Option Addr} {jk:Array (Option Value)} {jl jm jn jo dO jp:Value} (cG:N4 K (.ref ac) "least_store" = some (some (.ref br))) (cH:W3 K (.ref br)=true) (cI:K.lookup br=some ⟨jl,ji,.func (P6 "least_store" "Keeper.least_store" (P9 A8b) (P0 A8b) (B1 A8b) .none jm jn jo jj dO jp),jk⟩) (cJ:T0 K dO "Keeper.least_store" = true) (bO:Q4 K (.ref br)=true) :
  ∃fd:FuncData,(∀(s:Shared) (v:Value),BindsTo s fd ⟨[v],[]⟩ [("_law_script",v)])/\∀base:Heap,K.In base->base.Ns mainGlobals mg->C1 l.prog w K mg base CX0 14 fa fd ["_law_script"] (B2u K):=by
 have e:=hfa.symm.trans (Q5 X G a71)
 cases e
 obtain⟨t0⟩:=FT.of (ps:=["thing"]) X G h0 (λ_ _ _ _ _ _ us hl=>by obtain⟨_,rfl⟩:=S1 hl;rfl)
 obtain⟨t1⟩:=FT.of (ps:=["thing"]) X G h1 (λ_ _ _ _ _ _ us hl=>by obtain⟨_,rfl⟩:=S1 hl;rfl)
 obtain⟨t2⟩:=FT.of (ps:=["store", "thing"]) X G h2 (λ_ _ _ _ _ _ us hl=>by obtain⟨_,_,rfl⟩:=N1 hl;rfl)
 obtain⟨t3⟩:=FT.of (ps:=["store", "level", "change"]) X G h3 (λ_ _ _ _ _ _ us hl=>by obtain⟨_,_,_,rfl⟩:=S9 hl;rfl)
 obtain⟨t4⟩:=FT.of (ps:=["store", "level", "changes"]) X G h4 (λ_ _ _ _ _ _ us hl=>by obtain⟨_,_,_,rfl⟩:=S9 hl;rfl)
 obtain⟨t5⟩:=FT.of (ps:=["many", "thing"]) X G h5 (λ_ _ _ _ _ _ us hl=>by obtain⟨_,_,rfl⟩:=N1 hl;rfl)
 obtain⟨t6⟩:=FT.of (ps:=["thing"]) X G h6 (λ_ _ _ _ _ _ us hl=>by obtain⟨_,rfl⟩:=S1 hl;rfl)
 obtain⟨t7⟩:=FT.of (ps:=["many", "thing"]) X G h7 (λ_ _ _ _ _ _ us hl=>by obtain⟨_,_,rfl⟩:=N1 hl;rfl)
 obtain⟨t8⟩:=FT.of (ps:=["land"]) X G h8 (λ_ _ _ _ _ _ us hl=>by obtain⟨_,rfl⟩:=S1 hl;rfl)
 obtain⟨t9⟩:=FT.of (ps:=["land", "numbers"]) X G h9 (λ_ _ _ _ _ _ us hl=>by obtain⟨_,_,rfl⟩:=N1 hl;rfl)
 obtain⟨t10⟩:=FT.of (ps:=["land"]) X G h10 (λ_ _ _ _ _ _ us hl=>by obtain⟨_,rfl⟩:=S1 hl;rfl)
 obtain⟨t11⟩:=FT.of (ps:=["many", "store", "thing"]) X G h11 (λ_ _ _ _ _ _ us hl=>by obtain⟨_,_,_,rfl⟩:=S9 hl;rfl)
 obtain⟨t12⟩:=FT.of (ps:=["one", "other"]) X G h12 (λ_ _ _ _ _ _ us hl=>by obtain⟨_,_,rfl⟩:=N1 hl;rfl)
 obtain⟨t13⟩:=FT.of (ps:=["store", "table", "way"]) X G h13 (λ_ _ _ _ _ _ us hl=>by obtain⟨_,_,_,rfl⟩:=S9 hl;rfl)
 obtain⟨t14⟩:=FT.of (ps:=["level", "bound"]) X G h14 (λ_ _ _ _ _ _ us hl=>by obtain⟨_,_,rfl⟩:=N1 hl;rfl)
 obtain⟨t15⟩:=FT.of (ps:=["store"]) X G h15 (λ_ _ _ _ _ _ us hl=>by obtain⟨_,rfl⟩:=S1 hl;rfl)
 obtain⟨t16⟩:=FT.of (ps:=["store", "change"]) X G h16 (λ_ _ _ _ _ _ us hl=>by obtain⟨_,_,rfl⟩:=N1 hl;rfl)
 obtain⟨t17⟩:=FT.of (ps:=["store", "changes"]) X G h17 (λ_ _ _ _ _ _ us hl=>by obtain⟨_,_,rfl⟩:=N1 hl;rfl)
 obtain⟨t18⟩:=FT.of (ps:=["effect", "level"]) X G h18 (λ_ _ _ _ _ _ us hl=>by obtain⟨_,_,rfl⟩:=N1 hl;rfl)
 obtain⟨t19⟩:=FT.of (ps:=["one", "other"]) X G h19 (λ_ _ _ _ _ _ us hl=>by obtain⟨_,_,rfl⟩:=N1 hl;rfl)
 obtain⟨t20⟩:=FT.of (ps:=["table"]) X G h20 (λ_ _ _ _ _ _ us hl=>by obtain⟨_,rfl⟩:=S1 hl;rfl)
 obtain⟨t21⟩:=FT.of (ps:=["land", "store", "table", "stayed"]) X G h21 (λ_ _ _ _ _ _ us hl=>by obtain⟨_,_,_,_,rfl⟩:=A08 hl;rfl)
 obtain⟨t22⟩:=FT.of (ps:=["land", "rows", "place"]) X G h22 (λ_ _ _ _ _ _ us hl=>by obtain⟨_,_,_,rfl⟩:=S9 hl;rfl)
 obtain⟨t23⟩:=FT.of (ps:=["land", "place", "numbers"]) X G h23 (λ_ _ _ _ _ _ us hl=>by obtain⟨_,_,_,rfl⟩:=S9 hl;rfl)
 obtain⟨t24⟩:=FT.of (ps:=["land", "place", "part"]) X G h24 (λ_ _ _ _ _ _ us hl=>by obtain⟨_,_,_,rfl⟩:=S9 hl;rfl)
 obtain⟨t25⟩:=FT.of (ps:=["land", "place", "trip"]) X G h25 (λ_ _ _ _ _ _ us hl=>by obtain⟨_,_,_,rfl⟩:=S9 hl;rfl)
 obtain⟨t26⟩:=FT.of (ps:=["trip"]) X G h26 (λ_ _ _ _ _ _ us hl=>by obtain⟨_,rfl⟩:=S1 hl;rfl)
 obtain⟨t27⟩:=FT.of (ps:=["land", "store", "table"]) X G h27 (λ_ _ _ _ _ _ us hl=>by obtain⟨_,_,_,rfl⟩:=S9 hl;rfl)
 obtain⟨t28⟩:=FT.of (ps:=["land", "rows"]) X G h28 (λ_ _ _ _ _ _ us hl=>by obtain⟨_,_,rfl⟩:=N1 hl;rfl)
 obtain⟨t29⟩:=FT.of (ps:=["land", "rows"]) X G h29 (λ_ _ _ _ _ _ us hl=>by obtain⟨_,_,rfl⟩:=N1 hl;rfl)
 obtain⟨t30⟩:=FT.of (ps:=["land", "walk"]) X G h30 (λ_ _ _ _ _ _ us hl=>by obtain⟨_,_,rfl⟩:=N1 hl;rfl)
 obtain⟨t31⟩:=FT.of (ps:=["numbers"]) X G h31 (λ_ _ _ _ _ _ us hl=>by obtain⟨_,rfl⟩:=S1 hl;rfl)
 obtain⟨t32⟩:=FT.of (ps:=["land", "store", "level", "walk"]) X G h32 (λ_ _ _ _ _ _ us hl=>by obtain⟨_,_,_,_,rfl⟩:=A08 hl;rfl)
 obtain⟨t33⟩:=FT.of (ps:=["land", "store", "base"]) X G h33 (λ_ _ _ _ _ _ us hl=>by obtain⟨_,_,_,rfl⟩:=S9 hl;rfl)
 obtain⟨t35⟩:=FT.of (ps:=["land", "rows", "roads", "place"]) X G h35 (λ_ _ _ _ _ _ us hl=>by obtain⟨_,_,_,_,rfl⟩:=A08 hl;rfl)
 obtain⟨t36⟩:=FT.of (ps:=["land", "store", "base"]) X G h36 (λ_ _ _ _ _ _ us hl=>by obtain⟨_,_,_,rfl⟩:=S9 hl;rfl)
 obtain⟨t37⟩:=FT.of (ps:=["store", "table"]) X G h37 (λ_ _ _ _ _ _ us hl=>by obtain⟨_,_,rfl⟩:=N1 hl;rfl)
 obtain⟨t39⟩:=FT.of (ps:=["land", "store", "goal"]) X G h39 (λ_ _ _ _ _ _ us hl=>by obtain⟨_,_,_,rfl⟩:=S9 hl;rfl)
 obtain⟨t40⟩:=FT.of (ps:=["many", "spot"]) X G h40 (λ_ _ _ _ _ _ us hl=>by obtain⟨_,_,rfl⟩:=N1 hl;rfl)
 obtain⟨t41⟩:=FT.of (ps:=["table", "goal"]) X G h41 (λ_ _ _ _ _ _ us hl=>by obtain⟨_,_,rfl⟩:=N1 hl;rfl)
 obtain⟨t42⟩:=FT.of (ps:=["land", "store", "begin", "goal"]) X G h42 (λ_ _ _ _ _ _ us hl=>by obtain⟨_,_,_,_,rfl⟩:=A08 hl;rfl)
 obtain⟨t43⟩:=FT.of (ps:=["land", "begin", "goal"]) X G h43 (λ_ _ _ _ _ _ us hl=>by obtain⟨_,_,_,rfl⟩:=S9 hl;rfl)
 obtain⟨t45⟩:=FT.of (ps:=["thing"]) X G h45 (λ_ _ _ _ _ _ us hl=>by obtain⟨_,rfl⟩:=S1 hl;rfl)
 obtain⟨t46⟩:=FT.of (ps:=["table", "other"]) X G h46 (λ_ _ _ _ _ _ us hl=>by obtain⟨_,_,rfl⟩:=N1 hl;rfl)
 obtain⟨t47⟩:=FT.of (ps:=["_law_script"]) X G h47 (λ_ _ _ _ _ _ us hl=>by obtain⟨_,rfl⟩:=S1 hl;rfl)
 obtain⟨t48⟩:=FT.of (ps:=["_law_hand_here"]) X G h48 (λ_ _ _ _ _ _ us hl=>by obtain⟨_,rfl⟩:=S1 hl;rfl)
 obtain⟨t49⟩:=FT.of (ps:=["_law_hand_here"]) X G h49 (λ_ _ _ _ _ _ us hl=>by obtain⟨_,rfl⟩:=S1 hl;rfl)
 obtain⟨t50⟩:=FT.of (ps:=["_law_hand_here", "_law_many_here"]) X G h50 (λ_ _ _ _ _ _ us hl=>by obtain⟨_,_,rfl⟩:=N1 hl;rfl)
 obtain⟨t51⟩:=FT.of (ps:=["_law_hand_here"]) X G h51 (λ_ _ _ _ _ _ us hl=>by obtain⟨_,rfl⟩:=S1 hl;rfl)
 obtain⟨t52⟩:=FT.of (ps:=["_law_hand_here", "_law_scale_here"]) X G h52 (λ_ _ _ _ _ _ us hl=>by obtain⟨_,_,rfl⟩:=N1 hl;rfl)
 obtain⟨t53⟩:=FT.of (ps:=["_law_hand_here", "_law_scale_here"]) X G h53 (λ_ _ _ _ _ _ us hl=>by obtain⟨_,_,rfl⟩:=N1 hl;rfl)
 obtain⟨t54⟩:=FT.of (ps:=["_law_hand_here", "_law_many_here", "_law_store_here"]) X G h54 (λ_ _ _ _ _ _ us hl=>by obtain⟨_,_,_,rfl⟩:=S9 hl;rfl)
 obtain⟨t55⟩:=FT.of (ps:=["_law_store_here", "_law_changes"]) X G h55 (λ_ _ _ _ _ _ us hl=>by obtain⟨_,_,rfl⟩:=N1 hl;rfl)
 obtain⟨t56⟩:=FT.of (ps:=["_law_effect_here", "_law_times_here", "_law_level"]) X G h56 (λ_ _ _ _ _ _ us hl=>by obtain⟨_,_,_,rfl⟩:=S9 hl;rfl)
 obtain⟨t57⟩:=FT.of (ps:=["_law_land", "_law_store_here", "_law_place", "_law_level", "_law_trip"]) X G h57 (λ_ _ _ _ _ _ us hl=>by obtain⟨_,_,_,_,_,rfl⟩:=C1j hl;rfl)
 obtain⟨t58⟩:=FT.of (ps:=["_law_thing"]) X G h58 (λ_ _ _ _ _ _ us hl=>by obtain⟨_,rfl⟩:=S1 hl;rfl)
 obtain⟨t59⟩:=FT.of (ps:=["_law_many_here", "_law_store_here", "_law_goal"]) X G h59 (λ_ _ _ _ _ _ us hl=>by obtain⟨_,_,_,rfl⟩:=S9 hl;rfl)
 obtain⟨t60⟩:=FT.of (ps:=["_law_state_here"]) X G h60 (λ_ _ _ _ _ _ us hl=>by obtain⟨_,rfl⟩:=S1 hl;rfl)
 obtain⟨t61⟩:=FT.of (ps:=["_law_hand_here", "_law_state_here", "_law_scale_here", "_law_most"]) X G h61 (λ_ _ _ _ _ _ us hl=>by obtain⟨_,_,_,_,rfl⟩:=A08 hl;rfl)
 obtain⟨t62⟩:=FT.of (ps:=["_law_state_here", "_law_deed_here"]) X G h62 (λ_ _ _ _ _ _ us hl=>by obtain⟨_,_,rfl⟩:=N1 hl;rfl)
 obtain⟨t63⟩:=FT.of (ps:=["_law_keeper", "_law_deed_here"]) X G h63 (λ_ _ _ _ _ _ us hl=>by obtain⟨_,_,rfl⟩:=N1 hl;rfl)
 obtain⟨t64⟩:=FT.of (ps:=["_law_keeper", "_law_state_here"]) X G h64 (λ_ _ _ _ _ _ us hl=>by obtain⟨_,_,rfl⟩:=N1 hl;rfl)
 obtain⟨t65⟩:=FT.of (ps:=["_law_hand_here", "_law_state_here"]) X G h65 (λ_ _ _ _ _ _ us hl=>by obtain⟨_,_,rfl⟩:=N1 hl;rfl)
 obtain⟨t66⟩:=FT.of (ps:=["_law_keeper", "_law_state_here", "_law_table_here", "_law_place"]) X G h66 (λ_ _ _ _ _ _ us hl=>by obtain⟨_,_,_,_,rfl⟩:=A08 hl;rfl)
 obtain⟨t67⟩:=FT.of (ps:=["_law_keeper", "_law_land", "_law_store_here", "_law_base"]) X G h67 (λ_ _ _ _ _ _ us hl=>by obtain⟨_,_,_,_,rfl⟩:=A08 hl;rfl)
 obtain⟨t68⟩:=FT.of (ps:=["_law_keeper", "_law_state_here", "_law_base", "_law_pairs"]) X G h68 (λ_ _ _ _ _ _ us hl=>by obtain⟨_,_,_,_,rfl⟩:=A08 hl;rfl)
 obtain⟨t69⟩:=FT.of (ps:=["_law_hand_here", "_law_many_here", "_law_scale_here"]) X G h69 (λ_ _ _ _ _ _ us hl=>by obtain⟨_,_,_,rfl⟩:=S9 hl;rfl)
 obtain⟨t70⟩:=FT.of (ps:=["_law_hand_here", "_law_keeper", "_law_state_here", "_law_scale_here"]) X G h70 (λ_ _ _ _ _ _ us hl=>by obtain⟨_,_,_,_,rfl⟩:=A08 hl;rfl)
 have Fx34:=U1 (st:=A7u) l34 c34 k34
 have Fx38:=U1 (st:=A7v) l38 c38 k38
 have Fx44:=U1 (st:=A7w) l44 c44 k44
 have Fl:=U1 (st:=A1u) l71 c71 k71
 let T:Txt K mg:={
  nB:=g5 X G z_abs,
  nC:=g5 X G z_all,
  lL:=g5 X G z_bool,
  pf:=g5 X G z_dict,
  fJ:=g5 X G z_enumerate,
  lJ:=g5 X G z_int,
  au:=g5 X G z_isinstance,
  aN:=g5 X G z_len,
  aD:=g5 X G z_list,
  dP:=g5 X G z_max,
  cN:=g5 X G z_min,
  cj:=g5 X G z_range,
  cO:=g5 X G z_reversed,
  cx:=g5 X G z_sorted,
  iZ:=g5 X G z_tuple,
  aT:=Q5 X G qal_highest_highest,
  bC:=Q5 X G qal_least_least,
  bD:=Q5 X G qal_least_store_stores,
  ac:=ac,hZ:=Q5 X G xa_Keeper,ae:=⟨kpg,khd,kpo,ksa⟩,eA:=kn_many,cK:=kn_full,bU:=kn_wanted,bi:=kn_laid,bV:=kn_lowest,
  eC:=dy,gc:=_,jy:=U1 (st:=A7x) iC iD fA,ph:=⟨fv,fz,fA⟩,
  ja:=eS,jb:=_,kG:=U1 (st:=A7y) jO jP gK,jz:=⟨jM,jN,gK⟩,
  gh:=dz,gi:=_,jA:=U1 (st:=A7z) iG iH fB,kR:=⟨iE,iF,fB⟩,
  gj:=dA,gk:=_,jB:=U1 (st:=A70) iK iL fC,kS:=⟨iI,iJ,fC⟩,
  dQ:=cr,dR:=_,gm:=U1 (st:=A71) fQ fR dw,jq:=⟨fO,fP,dw⟩,
  jc:=eT,jd:=_,kI:=U1 (st:=A72) jS jT gL,jC:=⟨jQ,jR,gL⟩,
  eZ:=cS,fb:=_,ic:=U1 (st:=A73) gP gQ dY,gp:=⟨gM,gO,dY⟩,
  fc:=cT,ff:=_,ie:=U1 (st:=A74) gT gU dZ,ck:=⟨gR,gS,dZ⟩,
  gq:=dB,gr:=_,jD:=U1 (st:=A75) iP iQ fD,kT:=⟨iN,iO,fD⟩,
  fg:=cU,fh:=_,ig:=U1 (st:=A76) gY gZ ee,jU:=⟨gW,gX,ee⟩,
  gu:=dD,gz:=_,jE:=U1 (st:=A77) iT iU fE,kU:=⟨iR,iS,fE⟩,
  gA:=dE,gB:=_,jF:=U1 (st:=A48) iX iY fG,cL:=⟨iV,iW,fG⟩,
  fj:=cV,fm:=_,ii:=U1 (st:=A78) hU hV ek,jV:=⟨hG,hJ,ek⟩,
  cu:=bE,cw:=_,dG:=U1 (st:=A79) dr dt cp,cX:=⟨dl,dq,cp⟩,
  du:=ci,dv:=_,fK:=U1 (st:=A8a) eX eY cW,ij:=⟨eU,eV,cW⟩,
  bS:=br,bT:=_,cP:=U1 (st:=A8b) cI cJ bO,eE:=⟨cG,cH,bO⟩,
  ik:=⟨kmk,fv,fz,kkc⟩,
  pj:=tk_MANY,bP:=Q5 X G q_MANY,
  pk:=tk_WAYS,bQ:=Q5 X G q_WAYS,
  ni:=tk_START,bW:=Q5 X G q_START,
  qE:=tk_END,cq:=Q5 X G q_END,
  lM:=tk_CHANGE,bX:=Q5 X G q_CHANGE,
  jr:=tk_MOST_WAYS,im:=Q5 X G q_MOST_WAYS,
  nk:=tk_LEAST,eF:=Q5 X G q_LEAST,
  pp:=tk_GAIN,eB:=Q5 X G q_GAIN,
  qF:=tk_TOP,fS:=Q5 X G q_TOP,
  nr:=tk_TABLE,cy:=Q5 X G q_TABLE,
  nu:=tk_RISEN,jG:=Q5 X G q_RISEN,
  pq:=tk_FROM,cM:=Q5 X G q_FROM,
  qQ:=tk_BY,gC:=Q5 X G q_BY,
  kW:=tk_NUMBERS,cQ:=Q5 X G q_NUMBERS,
  nv:=tk_TIMES,eG:=Q5 X G q_TIMES,
  nw:=tk_PLACE,jH:=Q5 X G q_PLACE,
  ny:=tk_LEVEL,cz:=Q5 X G q_LEVEL,
  ak:=t0,
  bF:=t1,
  bG:=t2,
  bf:=t3,
  ay:=t4,
  aF:=t5,
  aJ:=t6,
  cA:=t7,
  ax:=t8,
  av:=t9,
  bm:=t10,
  aP:=t11,
  bY:=t12,
  bn:=t13,
  bz:=t14,
  aI:=t15,
  aK:=t16,
  bA:=t17,
  cB:=t18,
  cC:=t19,
  bB:=t20,
  bp:=t21,
  bg:=t22,
  aU:=t23,
  aX:=t24,
  cD:=t25,
  bH:=t26,
  aQ:=t27,
  aY:=t28,
  aZ:=t29,
  aB:=t30,
  aG:=t31,
  aL:=t32,
  bh:=t33,
  aw:=⟨f34,_,Fx34,Q5 X G a34,Fx34.binds (λ_ _ _ _ _ _ us hl=>by obtain⟨_,_,_,rfl⟩:=S9 hl;rfl)⟩,
  bZ:=t35,
  bI:=t36,
  aC:=t37,
  bj:=⟨f38,_,Fx38,Q5 X G a38,Fx38.binds (λ_ _ _ _ _ _ us hl=>by obtain⟨_,_,_,rfl⟩:=S9 hl;rfl)⟩,
  bJ:=t39,
  cb:=t40,
  bq:=t41,
  aq:=t42,
  aO:=t43,
  aH:=⟨f44,_,Fx44,Q5 X G a44,Fx44.binds (λ_ _ _ _ _ _ us hl=>by obtain⟨_,_,_,rfl⟩:=S9 hl;rfl)⟩,
  aR:=t45,
  az:=t46,
  eI:=t47,
  bv:=t48,
  eJ:=t49,
  ah:=t50,
  cY:=t51,
  ba:=t52,
  cZ:=t53,
  bu:=t54,
  cE:=t55,
  de:=t56,
  cF:=t57,
  aA:=t58,
  df:=t59,
  am:=t60,
  eM:=t61,
  bR:=t62,
  fL:=t63,
  dh:=t64,
  cc:=t65,
  aE:=t66,
  aM:=t67,
  cm:=t68,
  cR:=t69,
  eN:=t70,
  lK:=⟨fa,_,Fl,hfa,Fl.binds (λ_ _ _ _ _ _ us hl=>by obtain⟨_,rfl⟩:=S1 hl;rfl)⟩ }
 exact⟨P6 "law" "law" (P9 A1u) (P0 A1u) (B1 A1u) .none kV71 dc71 pm71 an71 cd71 ct71,λs v=>.of_eq rfl,λbase _ _=>D7o T⟩
end
theorem walk {l:PySem.W.OpenLaw} {q:Program} {loose:List Str} {XP:(Str->Option Value)->Heap->Prop} {YP:World->Heap->Prop} {d:DefRec} {K:Params->A9} (hn:l.most=some 63) (hdf:d.params.defaults=[])
  (hY:∀(w:World) (h:Heap),YP w h->(K w.params).In h)
  (F:∀(w:World) (mg:Str->Option Value) (fa:Addr) (h:Heap),(K w.params).In h->h.Ns mainGlobals mg->mg d.name=some (.ref fa)->
   ∃fd:FuncData,(∀(s:Shared) (u:Value),BindsTo s fd ⟨[u],[]⟩ [("_law_script",u)])/\∀base:Heap,(K w.params).In base->base.Ns mainGlobals mg->C1 l.prog w (K w.params) mg base CX0 14 fa fd ["_law_script"] (B2u (K w.params))) :
  PySem.W.WalkO q loose XP YP l.row.toRowW d [] (λf vs=>PySem.call f vs):=
 L2.walk_of (n:=63) (k:=14) (x:= "_law_script") (CX:=λ_=>CX0) (sp:=λw=>B2u (K w.params)) hn DD hdf ⟨rfl,DD,DD,rfl⟩ hY F (λ_ _ a ns hl _ hS=>⟨a,ns,rfl,hS,hl,λ_=>rfl⟩) λ_ _ _ _ _ z=>z
end My
open Lean in
local macro_rules|`(command|init_quot)=>do
 let mut b:Array Name:=#[`PySem.Challenge.pw_trudge_k92_whole_as_told_at_once,`PySem.Challenge.rw_trudge_k92_whole_as_told_at_once]
 for (s,x,n) in [("env_",41,1),("heap_",39,1),("heap_",46,1),("heap_",902,1),("o_",43,859),("sts_",49,1),("sts_",64,1),("sts_",86,1),("sts_",101,1),("sts_",123,1),("sts_",138,1),("sts_",160,1),("sts_",182,1),("sts_",197,1),("sts_",247,1),("sts_",311,1),("sts_",383,1),("sts_",457,1),("sts_",523,1),("sts_",737,1),("sts_",821,1),("tree_",47,1),("tree_",63,1),("tree_",85,1),("tree_",100,1),("tree_",122,1),("tree_",137,1),("tree_",159,1),("tree_",181,1),("tree_",196,1),("tree_",246,1),("tree_",310,1),("tree_",382,1),("tree_",456,1),("tree_",522,1),("tree_",648,1),("tree_",733,1),("tree_",820,1),("tree_",901,1),("view_",39,1)] do
  for i in [x:x+n] do
   b:=b.push ((`PySem.Challenge.cw_trudge_k92_whole_as_told_at_once_holds).str (s++toString i))
 let a<-b.mapM fun c=>`(command|theorem $(mkIdent ((`PySem.W.Fast).str ("tw"++toString c.hash))):ident:True:=trivial)
 return mkNullNode a
init_quot
open PySem PySem.W PyProof.Rows
set_option maxRecDepth 100000 in
set_option maxHeartbeats 0 in
theorem PySem.Challenge.cw_trudge_k92_whole_as_told_at_once_holds : PySem.Challenge.rw_trudge_k92_whole_as_told_at_once.Holds := by
 w_on;o_law;k_head;(case hw=>w_witness2)
 k_fill
 refine My.walk (l:=PySem.Challenge.rw_trudge_k92_whole_as_told_at_once) rfl rfl (λw h Y=>PySem.W.kIn_of Y) ?F
 case F=>
  intro w mg fa h KX G hmg
  refine' My.all_mk KX G hmg ?h0 ?h1 ?h2 ?h3 ?h4 ?h5 ?h6 ?h7 ?h8 ?h9 ?h10 ?h11 ?h12 ?h13 ?h14 ?h15 ?h16 ?h17 ?h18 ?h19 ?h20 ?h21 ?h22 ?h23 ?h24 ?h25 ?h26 ?h27 ?h28 ?h29 ?h30 ?h31 ?h32 ?h33 ?h35 ?h36 ?h37 ?h39 ?h40 ?h41 ?h42 ?h43 ?h45 ?h46 ?h47 ?h48 ?h49 ?h50 ?h51 ?h52 ?h53 ?h54 ?h55 ?h56 ?h57 ?h58 ?h59 ?h60 ?h61 ?h62 ?h63 ?h64 ?h65 ?h66 ?h67 ?h68 ?h69 ?h70 ?a34 ?l34 ?c34 ?k34 ?a38 ?l38 ?c38 ?k38 ?a44 ?l44 ?c44 ?k44 ?a71 ?l71 ?c71 ?k71 ?q_MANY ?q_WAYS ?q_START ?q_END ?q_CHANGE ?q_MOST_WAYS ?q_LEAST ?q_GAIN ?q_TOP ?q_TABLE ?q_RISEN ?q_FROM ?q_BY ?q_NUMBERS ?q_TIMES ?q_PLACE ?q_LEVEL ?z_abs ?z_all ?z_bool ?z_dict ?z_enumerate ?z_int ?z_isinstance ?z_len ?z_list ?z_max ?z_min ?z_range ?z_reversed ?z_sorted ?z_tuple ?qal_highest_highest ?qal_least_least ?qal_least_store_stores ?xa_Keeper ?kpg ?khd ?kpo ?ksa ?kmk ?kkc ?kn_many ?kn_full ?kn_wanted ?kn_laid ?kn_lowest ?fv ?fz ?iC ?iD ?fA ?jM ?jN ?jO ?jP ?gK ?iE ?iF ?iG ?iH ?fB ?iI ?iJ ?iK ?iL ?fC ?fO ?fP ?fQ ?fR ?dw ?jQ ?jR ?jS ?jT ?gL ?gM ?gO ?gP ?gQ ?dY ?gR ?gS ?gT ?gU ?dZ ?iN ?iO ?iP ?iQ ?fD ?gW ?gX ?gY ?gZ ?ee ?iR ?iS ?iT ?iU ?fE ?iV ?iW ?iX ?iY ?fG ?hG ?hJ ?hU ?hV ?ek ?dl ?dq ?dr ?dt ?cp ?eU ?eV ?eX ?eY ?cW ?cG ?cH ?cI ?cJ ?bO
  all_goals try (exact⟨_,by k_is,_,⟨_,_,_,_,_,_,_,_,_,rfl,by k_is,by k_is⟩,by k_is⟩)
  (case a34=>k_is);(case l34=>k_is);(case c34=>k_is);(case k34=>k_is);(case a38=>k_is);(case l38=>k_is);(case c38=>k_is);(case k38=>k_is);(case a44=>k_is);(case l44=>k_is);(case c44=>k_is);(case k44=>k_is);(case a71=>k_is);(case l71=>k_is);(case c71=>k_is);(case k71=>k_is)
  (case q_MANY=>k_is);(case q_WAYS=>k_is);(case q_START=>k_is);(case q_END=>k_is);(case q_CHANGE=>k_is);(case q_MOST_WAYS=>k_is);(case q_LEAST=>k_is);(case q_GAIN=>k_is);(case q_TOP=>k_is);(case q_TABLE=>k_is);(case q_RISEN=>k_is);(case q_FROM=>k_is);(case q_BY=>k_is);(case q_NUMBERS=>k_is);(case q_TIMES=>k_is);(case q_PLACE=>k_is);(case q_LEVEL=>k_is)
  (case z_abs=>k_is);(case z_all=>k_is);(case z_bool=>k_is);(case z_dict=>k_is);(case z_enumerate=>k_is);(case z_int=>k_is);(case z_isinstance=>k_is);(case z_len=>k_is);(case z_list=>k_is);(case z_max=>k_is);(case z_min=>k_is);(case z_range=>k_is);(case z_reversed=>k_is);(case z_sorted=>k_is);(case z_tuple=>k_is)
  (case qal_highest_highest=>k_is);(case qal_least_least=>k_is);(case qal_least_store_stores=>k_is);(case xa_Keeper=>k_is);(case kpg=>k_is);(case khd=>k_is);(case kpo=>k_is);(case ksa=>k_is);(case kmk=>k_is);(case kkc=>k_is);(case kn_many=>k_is);(case kn_full=>k_is);(case kn_wanted=>k_is);(case kn_laid=>k_is);(case kn_lowest=>k_is);(case fv=>k_is);(case fz=>k_is);(case iC=>k_is);(case iD=>k_is);(case fA=>k_is);(case jM=>k_is);(case jN=>k_is);(case jO=>k_is);(case jP=>k_is);(case gK=>k_is);(case iE=>k_is);(case iF=>k_is);(case iG=>k_is);(case iH=>k_is);(case fB=>k_is);(case iI=>k_is);(case iJ=>k_is);(case iK=>k_is);(case iL=>k_is);(case fC=>k_is);(case fO=>k_is);(case fP=>k_is);(case fQ=>k_is);(case fR=>k_is);(case dw=>k_is);(case jQ=>k_is);(case jR=>k_is);(case jS=>k_is);(case jT=>k_is);(case gL=>k_is);(case gM=>k_is);(case gO=>k_is);(case gP=>k_is);(case gQ=>k_is);(case dY=>k_is);(case gR=>k_is);(case gS=>k_is);(case gT=>k_is);(case gU=>k_is);(case dZ=>k_is);(case iN=>k_is);(case iO=>k_is);(case iP=>k_is);(case iQ=>k_is);(case fD=>k_is);(case gW=>k_is);(case gX=>k_is);(case gY=>k_is);(case gZ=>k_is);(case ee=>k_is);(case iR=>k_is);(case iS=>k_is);(case iT=>k_is);(case iU=>k_is);(case fE=>k_is);(case iV=>k_is);(case iW=>k_is);(case iX=>k_is);(case iY=>k_is);(case fG=>k_is);(case hG=>k_is);(case hJ=>k_is);(case hU=>k_is);(case hV=>k_is);(case ek=>k_is);(case dl=>k_is);(case dq=>k_is);(case dr=>k_is);(case dt=>k_is);(case cp=>k_is);(case eU=>k_is);(case eV=>k_is);(case eX=>k_is);(case eY=>k_is);(case cW=>k_is);(case cG=>k_is);(case cH=>k_is);(case cI=>k_is);(case cJ=>k_is);(case bO=>k_is)
