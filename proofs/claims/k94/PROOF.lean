import PyProof.Rows.All
import Wide.All
import OpenK.AllK
import Wide.FinOn
import Lean
import PyProof.EqAt
import PyProof.EqKinds
import PyProof.NeData
import PyProof.TupleCall
import KE.KRevIter
import KE.KRevSl
import PyProof.MinMaxWalk
import PyProof.ZipIter
import PyProof.Rows.Range3
import PyProof.Rows.CallKwBuiltin
import PyProof.DictWalks
import PyProof.ReprRoads
import PyProof.ReprLen
import PyProof.CallFns
import KE.KEqDict
import PyProof.P3In
import PyProof.MeetsDictList
import PyProof.Cells
import PyProof.StationsW
import PyProof.ExcInit
import PyProof.InstStore
import PyProof.RulesAs
import KE.KTryMore
import PyProof.InstStoreFacts
import PyProof.ExcBaseAll.ValueError
import KE.KDictSum
import KE.KDictOf
import PyProof.Rows.SortWalk
import PyProof.AttrMissHeap
import PyProof.ForAppend
import PySem.Challenge.RW_trudge_k94_refused_at_every_door
set_option Elab.async false
set_option compiler.extract_closed false
set_option linter.all false
set_option maxRecDepth 100000
theorem KK{p:Prop}(h:p:=by decide +kernel):p:=h
theorem DD{p:Prop}(h:p:=by decide):p:=h
theorem OO{p:Prop}(h:p:=by lia):p:=h
set_option genInjectivity false
set_option genSizeOf false
open _root_.PySem.W renaming Frag->A4,findIn->J7,kitOne->K5,mroIn->Q7,nsIn->T5,keepIn->j4,mg_none_of->j6,mg_of->w5,kia_one->A0m,fnOf->A0n,Looks->A2n,InstAt->A3k,emptyDict->A3l,instObj->A5s,hasDictIn->A5u,typeIn->A5v,kitCls->A7t,tailIn->A7z,exmOne->A70,looks_findIn->A9h,codeIn->A9i,findObj->A9l,specialIn->B14,takesIn->B15,callWith_K->B16,nsOkIn->B2k,lookIn->B6v,plainGet->B6w,any_some->B6x,clsIn->B63,notCls->B64,hideAll_get->C3r,hideAll_none->C3s,plainGet_of->C3t,cellsFrom_some->C3u
open _root_.Or renaming inl->B7
open _root_.List renaming mem_cons_of_mem->C8,mem_cons_self->D4,length_map->D6,replicate->E5,length_cons->G3,mem_cons->J8,size_toArray->O2,map_cons->P2,getElem?_eq_getElem->P5,length_append->Q1,mem_map->Q2,getElem?_map->S0,range->U8,map_append->V3,mem_of_getElem?->X1,length_set->X2,length_take->Z0,nil_append->Z1,mem_singleton->j5,mem_range->p6,getElem?_set_ne->p7,mem_append_right->p8,length_range->u8,mem_append->A0l,lookup_cons->A02,length_replicate->A1o,map_map->A1q,getElem?_eq_some_iff->A2h,append_nil->A2j,map_take->A2l,length_nil->A2m,lookup->A3m,replicate_succ->A3n,getElem?_eq_none->A3o,cons_append->A3p,eq_nil_of_length_eq_zero->A3r,getElem?_append_left->A5w,any_cons->A5z,getElem?_set->A50,getElem?_cons_succ->A52,contains_cons->A53,take_add_one->A54,not_mem_nil->A58,getElem?_append_right->A7q,getElem?_replicate->A7r,flatten_cons->A7s,length_reverse->A7u,filter_cons_of_neg->A7w,find?_cons->A7x,take_length->A71,mem_append_left->A9g,map_nil->A9j,mem_iff_getElem->A9k,tail_cons->A9m,tail_nil->A9n,getElem?_cons_zero->A9o,set_cons_zero->A9p,set_cons_succ->A9q,map_congr_left->A9t,mem_filter->B12,nodup_cons->B17,length->B18,append_assoc->B2a,all_eq_true->B2d,idxOf_lt_length_iff->B2e,take_of_length_le->B2f,filter_cons_of_pos->B2g,filterMap_cons->B6q,getElem?_set_self->B6s,mem_filterMap->B6t,length_drop->B6z,reverse_cons->B60,nodup_nil->B61,nodup_append->B66,filter_nil->B67,length_singleton->C3v,getElem_idxOf->C3x,getElem?_range->C3y,mem_zipIdx_iff_getElem?->C3z,length_filter_le->C30,filter_append->C33,filter_eq_self->C34
open _root_.Nat renaming le_refl->F7,ne_of_lt->N5,zero_le->P0,lt_of_lt_of_le->V7,le_trans->X0,lt_irrefl->A0k,le_of_ble_eq_true->A1s,ne_of_gt->A2i,le_succ->A2k,le_of_lt->A7p,not_lt->A7v,min_eq_left->B2h,lt_succ_self->B6y
open _root_.PySem.Heap renaming lt_size->F9,get?_push_of_some->L6,get?_push_size->V8,get?_update_other->p9,get?_update_self->A5y,size_push->B13,get?_none_of_le->B6r,get?_push_at->B62
open _root_.Bool renaming false_ne_true->R9,and_eq_true->r8,not_true->A9r,not_false->A9s,false_eq_true->B2c,eq_iff_iff->B6u
open _root_.PySem.PassesOwn renaming never->A0o
open _root_.PySem.F renaming plainAttrs_list->A1p,slot_list_append->A56,type_list_append->A57,slot_list_index->C3w
open _root_.And renaming intro->A1r
open _root_.Option renaming bind_some->A3q,map_some->A3s,map_eq_some_iff->A55
open _root_.Array renaming length_toList->A5t,getElem?_toList->B2b,getElem?_eq_some_iff->C31
open _root_.PySem.Obj renaming mapSeq->A5x,mapFields->A7y,isFreed_of_fields->B2i,data_mapFields->B2j
open _root_.Int renaming le_refl->A51,toNat->A72,emod_lt_of_pos->C32
open _root_.PySem renaming mem_of_lookup->B19
open _root_.Classical renaming choice->B65
namespace L2
open PySem PySem.Spec PyProof.Rows
theorem el3 {α β γ:Type} {R T K:α->β->γ->Prop} {p:Prop} (h:∃a b c,R a b c/\T a b c/\K a b c) (f:∀a b c,R a b c->T a b c->K a b c->p):p:=h.elim λa h=>h.elim λb h=>h.elim λc h=>f a b c h.1 h.2.1 h.2.2
theorem el5 {α β:Type} {R T K:α->β->Prop} {p:Prop} (h:∃a b,R a b/\T a b/\K a b) (f:∀a b,R a b->T a b->K a b->p):p:=h.elim λa h=>h.elim λb h=>f a b h.1 h.2.1 h.2.2
theorem el2 {α:Type} {A B:α->Prop} {p:Prop} (h:∃a,A a/\B a) (f:∀a,A a->B a->p):p:=h.elim λa h=>f a h.1 h.2
abbrev Key:=Sum Int Str
def A2o:Key->Value->Bool
 | .inl k,v=>Value.isInt k v
 | .inr x,v=>Value.isStrOf x v
def C35 (w:World):Key->Int
 | .inl k=>hashInt k
 | .inr x=>hashStr w x
theorem A03:∀{k:Key} {v:Value},A2o k v=true->(∃i t,k=Sum.inl i/\v=Value.int i t)\/(∃x t,k=Sum.inr x/\v=Value.str x t)
 | .inl i,v,h=>by
  obtain⟨t,e⟩:=Value.isInt_shape (k:=i) (v:=v) h
  exact .inl ⟨i,t,rfl,e⟩
 | .inr x,v,h=>by
  obtain⟨t,e⟩:=Value.isStrOf_shape (x:=x) (v:=v) h
  exact .inr ⟨x,t,rfl,e⟩
theorem C36 (i:Int) (t:Tok):A2o (.inl i) (.int i t)=true:=by simp [A2o,Value.isInt]
theorem C37 (x:Str) (t:Tok):A2o (.inr x) (.str x t)=true:=by simp [A2o,Value.isStrOf]
theorem C38 (a b:Int):decide ((Sum.inl a:Key)=Sum.inl b)=(a == b):=by
 by_cases e:a=b
 ·subst e;simp
 ·have h:¬ (Sum.inl a:Key)=Sum.inl b:=λq=>e (Sum.inl.inj q)
  rw[decide_eq_false h]
  exact (beq_eq_false_iff_ne.mpr e).symm
theorem C39 (a b:Str):decide ((Sum.inr a:Key)=Sum.inr b)=decide (a=b):=by
 by_cases e:a=b
 ·subst e;simp
 ·have h:¬ (Sum.inr a:Key)=Sum.inr b:=λq=>e (Sum.inr.inj q)
  rw[decide_eq_false h,decide_eq_false e]
theorem C4a (a:Int) (b:Str):decide ((Sum.inl a:Key)=Sum.inr b)=false:=decide_eq_false (λq=>nomatch q)
theorem C4b (a:Str) (b:Int):decide ((Sum.inr a:Key)=Sum.inl b)=false:=decide_eq_false (λq=>nomatch q)
def S1 (prog:Program) (w:World):PySem.KeyKind prog w Key where
 is:=A2o
 hash:=C35 w
 inj:=λv a b ha hb=>by
  rcases A03 ha with ⟨i,t,rfl,rfl⟩ | ⟨x,t,rfl,rfl⟩
  ·rcases A03 hb with ⟨j,u,rfl,e⟩ | ⟨y,u,rfl,e⟩
   ·injection e with e1 _;rw[e1]
   ·exact nomatch e
  ·rcases A03 hb with ⟨j,u,rfl,e⟩ | ⟨y,u,rfl,e⟩
   ·exact nomatch e
   ·injection e with e1 _;rw[e1]
 byValue:=λk v h=>by
  rcases A03 h with ⟨i,t,rfl,rfl⟩ | ⟨x,t,rfl,rfl⟩ <;> rfl
 pyHash:=λhv h=>by
  rcases A03 hv with ⟨i,t,rfl,rfl⟩ | ⟨x,t,rfl,rfl⟩
  ·exact wpAny_pyHash_int h
  ·exact wpAny_pyHash_str h
 eqBool:=λhu hv h=>by
  rcases A03 hu with ⟨i,t,rfl,rfl⟩ | ⟨x,t,rfl,rfl⟩
  ·rcases A03 hv with ⟨j,u,rfl,rfl⟩ | ⟨y,u,rfl,rfl⟩
   ·rw[C38] at h;exact wpAny_eqBool_int h
   ·rw[C4a] at h;exact SeqAt.EqAt.int_str i t y u _ _ _ _ h
  ·rcases A03 hv with ⟨j,u,rfl,rfl⟩ | ⟨y,u,rfl,rfl⟩
   ·rw[C4b] at h;exact SeqAt.EqAt.str_int x t j u _ _ _ _ h
   ·rw[C39] at h;exact wpAny_eqBool_str h
 «strs»:=λk x t v h=>by
  rcases A03 h with ⟨i,u,rfl,e⟩ | ⟨y,u,rfl,e⟩
  ·exact nomatch e
  ·injection e with e1 _
   subst e1
   cases v <;> rfl
theorem B68 (prog:Program) (w:World) (k:Key) (v:Value):(S1 prog w).is k v=A2o k v:=rfl
theorem C4c (prog:Program) (w:World) (i:Int) (t:Tok):(S1 prog w).is (.inl i) (.int i t)=true:=C36 i t
theorem C4d (prog:Program) (w:World) (x:Str) (t:Tok):(S1 prog w).is (.inr x) (.str x t)=true:=C37 x t
set_option genInjectivity true in
inductive V where
 | non | bl (b:Bool) | int (i:Int) | str (x:Str) | byt (b:Array UInt8) | flt (b:UInt64) | ref (a:Addr) | ty (n:String)
 deriving DecidableEq
def C9:V->Value->Prop
 | .non,u=>u=Value.none
 | .bl b,u=>u=Value.bool b
 | .int i,u=>∃t,u=Value.int i t
 | .str x,u=>∃t,u=Value.str x t
 | .byt b,u=>∃t,u=Value.bytes b t
 | .flt b,u=>∃t,u=Value.float b t
 | .ref a,u=>u=Value.ref a
 | .ty n,u=>u=Value.type n
abbrev C5:List V->List Value->Prop:=Paired C9
theorem C5.length {xs:List V} {us:List Value} (r:C5 xs us):xs.length=us.length:=Paired.length r
theorem C5.get:∀{xs:List V} {us:List Value} {i:Nat} {x:V},C5 xs us->xs[i]?=some x->∃u,us[i]?=some u/\C9 x u
 | _,_,_,_,.nil,e=>by simp at e
 | _,_,0,_,.cons r _,e=>by simp at e;subst e;exact⟨_,rfl,r⟩
 | _,_,i + 1,x,.cons _ t,e=>by
  obtain⟨u,h1,h2⟩:=C5.get (i:=i) (x:=x) t (by simpa using e)
  exact⟨u,by simpa using h1,h2⟩
theorem C5.set {x:V} {u:Value} (r:C9 x u):∀{xs:List V} {us:List Value} (i:Nat),C5 xs us->C5 (xs.set i x) (us.set i u)
 | _,_,_,.nil=>.nil
 | _,_,0,.cons _ t=>.cons r t
 | _,_,i + 1,.cons q t=>.cons q (C5.set r i t)
theorem C5.append {xs ys:List V} {us ws:List Value} (h:C5 xs us) (s:C5 ys ws):C5 (xs++ys) (us++ws):=by
 induction h with
 | nil=>exact s
 | cons r t ih=>exact .cons r ih
theorem C5.take:∀{xs:List V} {us:List Value} (n:Nat),C5 xs us->C5 (xs.take n) (us.take n)
 | _,_,0,_=>.nil
 | _,_,_ + 1,.nil=>.nil
 | _,_,n + 1,.cons r t=>.cons r (C5.take n t)
theorem C5.drop:∀{xs:List V} {us:List Value} (n:Nat),C5 xs us->C5 (xs.drop n) (us.drop n)
 | _,_,0,r=>r
 | _,_,_ + 1,.nil=>.nil
 | _,_,n + 1,.cons _ t=>C5.drop n t
def U9:Option V->Option Value->Prop
 | some v,some u=>C9 v u
 | none,none=>True
 | _,_=>False
def KV {κ:Type}:List (κ×V)->List (κ×Value)->Prop:=Paired λ(p:κ×V) (q:κ×Value)=>p.1=q.1/\C9 p.2 q.2
def kV:Key->V
 | .inl i=>.int i
 | .inr x=>.str x
inductive HO where
 | lst (xs:List V)
 | tup (xs:List V)
 | dK (kvs:List (Key×V)) | dT (kvs:List (List Key×V))
 | set (S:Int->Bool) (n:Nat)
 | ins (C dx:Addr) (fs:List (Str×V))
 | own (x:Addr)
 | xd (fs:List (Str×V))
 | met (f x:Addr)
 | rng (lo hi:Int)
 | frz (o:Obj) (u:HO)
 | tbl (ps:Array Value)
 | ext (φ:Heap->Prop)
abbrev Hp:=Addr->Option HO
def upd (H:Hp) (a:Addr) (o:HO):Hp:=λb=>if b=a then some o else H b
theorem B2 {H:Hp} {a:Addr} {o:HO}:upd H a o a=some o:=by unfold upd;rw[if_pos rfl]
theorem B1 {H:Hp} {a b:Addr} {o:HO} (h:b≠a):upd H a o b=H b:=by unfold upd;rw[if_neg h]
theorem B69 {H:Hp} {a b:Addr} {o u:HO} (h:H a=some o) (h':H b=some u) (d:o≠u):a≠b:=by
 intro e;subst e;rw[h] at h';exact d (Option.some.inj h')
theorem P6 {H:Hp} {a b:Addr} {o:HO} (h:H a=some o) (h':H b=none):a≠b:=by
 intro e;subst e;rw[h] at h';cases h'
section
variable (P:Program) (w:World)
def K2 (H:Hp) (h:Heap) (a:Addr):HO->Prop
 | .lst xs=>xs.length<=sizeLine/\∃(its:List Value) (n:Nat),C5 xs its/\h.get? a=some { cls:=.type "list",data:=.seq its.toArray n }
 | .tup xs=>xs.length<=sizeLine/\∃its:List Value,C5 xs its/\IsTup h a its.toArray
 | .dK kvs=>kvs.length<=sizeLine/\(a == sysModules)=false/\∃vs,KV kvs vs/\h.DictOf (S1 P w) a vs
 | .dT kvs=>kvs.length<=sizeLine/\(a == sysModules)=false/\∃xs:List (List Key×Addr×Value),
   Paired (λ(p:List Key×V) (q:List Key×Addr×Value)=>p.1=q.1/\H q.2.1=some (.tup (p.1.map kV))/\C9 p.2 q.2.2) kvs xs/\
   ∃o es ep,h.get? a=some o/\o.ExactDict/\o.data=.dict es ep/\es.toList=xs.map (entryOfKey (tupleKind (S1 P w)))/\(xs.map (·.1)).Nodup
 | .set S n=>h.SetOf (intKind P w) a S n
 | .ins C dx fs=>H dx=some (.own a)/\fs.length<=1000/\dx≠a/\h.get? a=some (A5s C dx)/\
   ∃mA,h.Ns1 dx mA/\(∀f,U9 (fs.lookup f) (mA f))/\PySem.Within mA (fs.map (·.1))
 | .own _=>∃o,h.get? a=some o
 | .xd fs=>∃mA,h.Ns1 a mA/\∀f,U9 (fs.lookup f) (mA f)
 | .rng lo hi=>∃t u v,h.get? a=some { cls:=.type "range",data:=.fields #[.int lo t,.int hi u,.int 1 v] }
 | .frz o u=>h.get? a=some o/\K2 H h a u
 | .tbl ps=>h.get? a=some { cls:=.none,data:=.fields ps }
 | .met f x=>h.get? a=some (PySem.W.methodObj (.ref f) (.ref x))
 | .ext φ=>φ h/\(∃o,h.get? a=some o)/\∀h1 h2:Heap,φ h1->(∀o,h1.get? a=some o->h2.get? a=some o)->φ h2
def HOk (H:Hp) (h:Heap):Prop:=∀a o,H a=some o->K2 P w H h a o
end
section
variable {P:Program} {w:World} {H H':Hp} {h h':Heap} {a:Addr} {o:HO}
theorem K2.lt (x:K2 P w H h a o):a < h.objs.size:=by
 cases o with
 | lst xs=>obtain⟨_,_,_,_,e⟩:=x;exact F9 e
 | tup xs=>obtain⟨_,_,_,p⟩:=x;exact p.lt
 | dK kvs=>obtain⟨_,_,_,_,o,_,_,e,_⟩:=x;exact F9 e
 | dT kvs=>obtain⟨_,_,_,_,o,_,_,e,_⟩:=x;exact F9 e
 | set S n=>obtain⟨o,_,_,_,e,_⟩:=x;exact F9 e
 | ins C dx fs=>obtain⟨_,_,_,e,_⟩:=x;exact F9 e
 | own y=>obtain⟨_,e⟩:=x;exact F9 e
 | xd fs=>obtain⟨_,⟨_,_,_,e,_⟩,_⟩:=x;exact F9 e
 | rng lo hi=>obtain⟨_,_,_,e⟩:=x;exact F9 e
 | frz ob u=>obtain⟨e,_⟩:=x;exact F9 e
 | tbl ps=>exact F9 (show h.get? a=some _ from x)
 | met f y=>exact F9 (show h.get? a=some _ from x)
 | ext φ=>obtain⟨_,⟨_,e⟩,_⟩:=x;exact F9 e
theorem Paired.mapP {α β:Type} {F G:α->β->Prop} {l₁:List α} {l₂:List β} (h:Paired F l₁ l₂) (f:∀a b,F a b->G a b):Paired G l₁ l₂:=by
 induction h with
 | nil=>exact .nil
 | cons r t ih=>exact .cons (f _ _ r) ih
theorem K2.stay (x:K2 P w H h a o) (k:∀b u,(b=a\/H b=some (.own a))->h.get? b=some u->h'.get? b=some u)
  (ho:∀b,H b=some (.own a)->H' b=some (.own a)) (ht:∀b xs,H b=some (.tup xs)->H' b=some (.tup xs)):K2 P w H' h' a o:=by
 induction o with
 | lst xs=>obtain⟨z,its,n,r,e⟩:=x;exact⟨z,its,n,r,k _ _ (.inl rfl) e⟩
 | tup xs=>obtain⟨z,its,r,ob,e,c⟩:=x;exact⟨z,its,r,ob,k _ _ (.inl rfl) e,c⟩
 | dK kvs=>obtain⟨z,y,vs,r,ob,es,ep,e,c⟩:=x;exact⟨z,y,vs,r,ob,es,ep,k _ _ (.inl rfl) e,c⟩
 | dT kvs=>
  obtain⟨z,y,xs,r,ob,es,ep,e,c⟩:=x
  exact⟨z,y,xs,Paired.mapP r λp q z=>⟨z.1,ht _ _ z.2.1,z.2.2⟩,ob,es,ep,k _ _ (.inl rfl) e,c⟩
 | set S n=>obtain⟨ob,es,ep,t,e,c⟩:=x;exact⟨ob,es,ep,t,k _ _ (.inl rfl) e,c⟩
 | ins C dx fs=>
  obtain⟨d,z,ne,e,mA,⟨od,es,ep,e2,c⟩,r⟩:=x
  exact⟨ho _ d,z,ne,k _ _ (.inl rfl) e,mA,⟨od,es,ep,k _ _ (.inr d) e2,c⟩,r⟩
 | own y=>obtain⟨ob,e⟩:=x;exact⟨ob,k _ _ (.inl rfl) e⟩
 | xd fs=>obtain⟨mA,⟨od,es,ep,e,c⟩,r⟩:=x;exact⟨mA,⟨od,es,ep,k _ _ (.inl rfl) e,c⟩,r⟩
 | rng lo hi=>obtain⟨t,u,v,e⟩:=x;exact⟨t,u,v,k _ _ (.inl rfl) e⟩
 | frz ob u ih=>obtain⟨e,q⟩:=x;exact⟨k _ _ (.inl rfl) e,ih q⟩
 | tbl ps=>
  have e:h.get? a=some { cls:=.none,data:=.fields ps }:=x
  show h'.get? a=some { cls:=.none,data:=.fields ps }
  exact k a _ (.inl rfl) e
 | met f y=>
  have e:h.get? a=some (PySem.W.methodObj (.ref f) (.ref y)):=x
  show h'.get? a=some (PySem.W.methodObj (.ref f) (.ref y))
  exact k a _ (.inl rfl) e
 | ext φ=>obtain⟨p,⟨o,e⟩,st⟩:=x;exact⟨st _ _ p λo q=>k _ _ (.inl rfl) q,⟨o,k _ _ (.inl rfl) e⟩,st⟩
theorem HOk.lt (x:HOk P w H h) (e:H a=some o):a < h.objs.size:=(x a o e).lt
theorem HOk.fresh (x:HOk P w H h) (e:h.objs.size<=a):H a=none:=by
 cases q:H a with
 | none=>rfl
 | some u=>exact absurd (V7 (x.lt q) e) (A0k _)
theorem HOk.kept (x:HOk P w H h) (k:∀b u,h.get? b=some u->h'.get? b=some u):HOk P w H h':=λa o e=>
 (x a o e).stay (λb u _ q=>k b u q) (λ_ q=>q) λ_ _ q=>q
theorem HOk.laid (x:HOk P w H h) (k:∀b u,h.get? b=some u->h'.get? b=some u) (hp:h.objs.size<=a) (new:K2 P w (upd H a o) h' a o):HOk P w (upd H a o) h':=λb u e=>by
 have hn:=x.fresh hp
 by_cases hb:b=a
 ·subst hb;rw[B2] at e;cases e;exact new
 ·rw[B1 hb] at e
  exact (x b u e).stay (λc v _ q=>k c v q) (λc q=>by rw[B1 (P6 q hn)];exact q) λc xs q=>by rw[B1 (P6 q hn)];exact q
end
def Rd (H:Hp) (a:Addr) (u:HO):Prop:=H a=some u\/∃o,H a=some (.frz o u)
theorem Rd.ok {P:Program} {w:World} {H:Hp} {h:Heap} {a:Addr} {u:HO} (r:Rd H a u) (x:HOk P w H h):K2 P w H h a u:=by
 rcases r with r | ⟨o,r⟩
 ·exact x a u r
 ·obtain⟨_,q⟩:=x a _ r
  exact q
def Mut:Option HO->Prop
 | some (.lst _)=>True
 | some (.dK _)=>True
 | some (.dT _)=>True
 | some (.set _ _)=>True
 | some (.ins _ _ _)=>True
 | some (.ext _)=>True
 | _=>False
section
variable {P:Program} {w:World} {H:Hp} {h h':Heap} {x e:Addr} {o':HO}
theorem HOk.write (ok:HOk P w H h) (mu:Mut (H x)) (he:e=x\/H e=some (.own x)) (k:∀b u,b≠e->h.get? b=some u->h'.get? b=some u) (heo:∃u,h'.get? e=some u)
  (new:K2 P w (upd H x o') h' x o'):HOk P w (upd H x o') h':=λb u q=>by
 have nown:∀c y,H c=some (.own y)->c≠x:=λc y r z=>by subst z;rw[r] at mu;exact mu
 have ntup:∀c xs,H c=some (.tup xs)->c≠x:=λc xs r z=>by subst z;rw[r] at mu;exact mu
 by_cases hb:b=x
 ·subst hb;rw[B2] at q;cases q;exact new
 ·rw[B1 hb] at q
  by_cases hbe:b=e
  ·have q':H b=some (.own x):=by
    rcases he with z | z
    ·exact absurd (hbe.trans z) hb
    ·rw[hbe];exact z
   rw[q] at q';cases q'
   obtain⟨v,hv⟩:=heo
   exact⟨v,by rw[hbe];exact hv⟩
  ·refine (ok b u q).stay (λc v hc r=>k c v ?_ r) (λc r=>by rw[B1 (nown c b r)];exact r) λc xs r=>by rw[B1 (ntup c xs r)];exact r
   rcases hc with rfl | hc
   ·exact hbe
   ·rintro rfl
    rcases he with z | z
    ·exact nown c b hc z
    ·rw[hc] at z;cases z;exact hb rfl
end
structure Un (fs ex:List Addr) (H H':Hp) (h h':Heap):Prop where
 keep:∀b o,h.get? b=some o->H b=none->b∉fs->b∉ex->h'.get? b=some o
 slot:∀b o,h.get? b=some o->H b=none->b∈fs->b∉ex->∃sl,h'.get? b=some { o with slots:=sl }
 free:∀b o,h.get? b=some o->H b=none->b∉ex->H' b=none
 there:∀b o,h.get? b=some o->b∉ex->∃o',h'.get? b=some o'
 tups:∀b xs,H b=some (.tup xs)->H' b=some (.tup xs)
 frzs:∀b o u,H b=some (.frz o u)->H' b=some (.frz o u)
 tbls:∀b ps,H b=some (.tbl ps)->∃more,H' b=some (.tbl (ps++more))
section
variable {fs fs' ex ex':List Addr} {H H1 H2:Hp} {h h1 h2 h':Heap} {a x e:Addr} {o:HO}
theorem Un.any (u:Un fs ex H H1 h h1) {b:Addr} {ob:Obj} (q:h.get? b=some ob) (n:H b=none) (hx:b∉ex):∃sl,h1.get? b=some { ob with slots:=sl }:=by
 by_cases hb:b∈fs
 ·exact u.slot b ob q n hb hx
 ·exact⟨ob.slots,u.keep b ob q n hb hx⟩
theorem Un.trans (a:Un fs ex H H1 h h1) (b:Un fs ex H1 H2 h1 h2):Un fs ex H H2 h h2 where
 keep:=λc ob q n hc hx=>b.keep c ob (a.keep c ob q n hc hx) (a.free c ob q n hx) hc hx
 slot:=λc ob q n hc hx=>by
  obtain⟨sl,e1⟩:=a.slot c ob q n hc hx
  obtain⟨sl',e2⟩:=b.slot c _ e1 (a.free c ob q n hx) hc hx
  exact⟨sl',e2⟩
 free:=λc ob q n hx=>by
  obtain⟨o',e1⟩:=a.there c ob q hx
  exact b.free c o' e1 (a.free c ob q n hx) hx
 there:=λc ob q hx=>by
  obtain⟨o',e1⟩:=a.there c ob q hx
  exact b.there c o' e1 hx
 tups:=λc xs q=>b.tups c xs (a.tups c xs q)
 frzs:=λc ob xs q=>b.frzs c ob xs (a.frzs c ob xs q)
 tbls:=λc ps q=>by
  obtain⟨m1,e1⟩:=a.tbls c ps q
  obtain⟨m2,e2⟩:=b.tbls c _ e1
  exact⟨m1++m2,by rw[e2,Array.append_assoc]⟩
theorem Un.kept (k:∀b u,h.get? b=some u->h'.get? b=some u):Un fs ex H H h h':=
 ⟨λb ob q _ _ _=>k b ob q,λb ob q _ _ _=>⟨ob.slots,k b ob q⟩,λ_ _ _ n _=>n,λb ob q _=>⟨ob,k b ob q⟩,λ_ _ q=>q,λ_ _ _ q=>q,λ_ ps q=>⟨#[],by rw[q];simp⟩⟩
theorem Un.refl:Un fs ex H H h h:=Un.kept λ_ _ q=>q
theorem Un.laid (k:∀b u,h.get? b=some u->h'.get? b=some u) (hp:h.objs.size<=a) (hn:H a=none):Un fs ex H (upd H a o) h h' where
 keep:=λb u q _ _ _=>k b u q
 slot:=λb u q _ _ _=>⟨u.slots,k b u q⟩
 free:=λb u q n _=>by rw[B1 (N5 (V7 (F9 q) hp))];exact n
 there:=λb u q _=>⟨u,k b u q⟩
 tups:=λb xs q=>by rw[B1 (P6 q hn)];exact q
 frzs:=λb u xs q=>by rw[B1 (P6 q hn)];exact q
 tbls:=λb ps q=>⟨#[],by rw[B1 (P6 q hn),q];simp⟩
theorem Un.write (mu:Mut (H x)) (he:e=x\/H e=some (.own x)) (k:∀b u,b≠e->h.get? b=some u->h'.get? b=some u) (heo:∃u,h'.get? e=some u):Un fs ex H (upd H x o) h h':=by
 have hx:∀b,H b=none->b≠x:=λb n z=>by subst z;rw[n] at mu;exact mu
 have hb:∀b,H b=none->b≠e:=λb n z=>by
  subst z
  rcases he with r | r
  ·exact hx b n r
  ·rw[n] at r;cases r
 have hm:∀b u,H b=some u->¬ Mut (some u)->b≠x:=λb u q nm z=>by subst z;rw[q] at mu;exact nm mu
 refine⟨λb u q n _ _=>k b u (hb b n) q,λb u q n _ _=>⟨u.slots,k b u (hb b n) q⟩,λb u q n _=>by rw[B1 (hx b n)];exact n,λb u q _=>?_,
  λb xs q=>by rw[B1 (hm b _ q λz=>z)];exact q,λb u xs q=>by rw[B1 (hm b _ q λz=>z)];exact q,λb ps q=>⟨#[],by rw[B1 (hm b _ q λz=>z),q];simp⟩⟩
 by_cases hbe:b=e
 ·subst hbe;exact heo
 ·exact⟨u,k b u hbe q⟩
theorem Un.mono (u:Un fs ex H H1 h h1) (hs:∀b∈fs,b∈fs') (hx:∀b∈ex,b∈ex'):Un fs' ex' H H1 h h1:=
 ⟨λb ob q n hb he=>u.keep b ob q n (λz=>hb (hs b z)) λz=>he (hx b z),λ_ _ q n _ he=>u.any q n λz=>he (hx _ z),λb ob q n he=>u.free b ob q n λz=>he (hx b z),λb ob q he=>u.there b ob q λz=>he (hx b z),u.tups,u.frzs,u.tbls⟩
end
def trk (h:Heap) (H:Hp):List Addr:=(U8 h.objs.size).filter λa=>(H a).isSome
def A1t (h:Heap) (H:Hp):Heap:=PySem.W.hideAll h (trk h H)
theorem C4e (h:Heap) (H:Hp):(A1t h H).objs.size=h.objs.size:=PySem.W.hideAll_size _ _
theorem C4f {h:Heap} {H:Hp} {b:Addr} {o:Obj} (e:h.get? b=some o) (n:H b=none):(A1t h H).get? b=some o:=
 C3r _ e λhm=>by
  have q:(H b).isSome=true:=(B12.mp hm).2
  rw[n] at q;simp at q
theorem C4g {h:Heap} {H:Hp} {b:Addr} {o:Obj} (e:(A1t h H).get? b=some o):h.get? b=some o/\H b=none:=by
 have e':h.get? b=some o:=PySem.W.of_hideAll (trk h H) e
 refine⟨e',?_⟩
 cases q:H b with
 | none=>rfl
 | some x=>
  have hm:b∈trk h H:=B12.mpr ⟨p6.mpr (F9 e'),by simp [q]⟩
  have z:(A1t h H).get? b=none:=C3s (trk h H) hm
  rw[z] at e;cases e
def C4h (g h:Heap) (L:Addr):List (Addr×Obj):=(U8 h.objs.size).filterMap λa=>if a=L\/(g.get? a).isSome=true then none else (h.get? a).map λo=>(a,o)
def L9 (g h:Heap) (L d:Addr):List (Addr×Obj):=(C4h g h L).filter λp=>decide (p.1≠d)
structure Mod (K:A4) (mg:Str->Option Value) (base:Heap):Prop where
 kin:K.In base
 glob:base.Ns mainGlobals mg
 blt:∃mb,base.Ns builtinsNs mb/\∀x:Str,x≠ "__name__" ->mb x=bootBuiltins x
 nolimit:base.NoLimit
structure Cx where
 prog:Program
 w:World
 K:A4
 mg:Str->Option Value
 base:Heap
 A:Around
 N:List Str
 s₀:Shared
 H₀:Hp
 env:Env
 outer:List Env
 stack:List Env
 ex:List Addr
 fn:Str->Bool
 calm:Bool
 pn:List (Addr×Obj)
 xe:Value->Shared->Prop
def frs (l:List Env):List Addr:=l.filterMap (·.frame)
abbrev Cx.fs (X:Cx):List Addr:=frs X.outer
def Vis (sc:Scope) (x:Str):Prop:=sc.names.lookup x=some .local\/sc.names.lookup x=some .cell\/sc.names.lookup x=some .free
def Loc (sc:Scope) (x:Str):Prop:=sc.names.lookup x=some .local\/sc.names.lookup x=some .cell
def B7a (env:Env) (h:Heap) (m:Str->Option Value) (x:Str) (u:Value):Prop:=
 (env.kindOf x=some .local/\m x=some u)\/((env.kindOf x=some .cell\/env.kindOf x=some .free)/\∃c,env.cells.lookup x=some c/\h.IsCell c (some u))
structure Cx.Ok (X:Cx):Prop where
 mod:Mod X.K X.mg X.base
 kind:X.env.scope.kind=.function
 glob:X.env.globals=mainGlobals
 blt:X.env.builtins=builtinsNs
 above:X.s₀.heap.objs.size<=X.env.locals
 inj:∀x y c,X.env.cells.lookup x=some c->X.env.cells.lookup y=some c->x=y
 has:∀x,(X.env.kindOf x=some .cell\/X.env.kindOf x=some .free)->∃c,X.env.cells.lookup x=some c
 cab:∀x c,X.fn x=true->X.env.cells.lookup x=some c->X.s₀.heap.objs.size<=c
 hd:X.calm=true->X.A.handled=none
 frames:X.A.frames=some X.stack
 stk:X.stack=X.outer\/(X.stack=X.env::X.outer/\X.env.frame=some X.env.locals)
 exf:∀b∈X.ex,b≠X.env.locals/\∀x c,X.env.cells.lookup x=some c->c≠b
 bs:∀b o,X.base.get? b=some o->X.s₀.heap.get? b=some o/\X.H₀ b=none
 bsz:X.base.objs.size<=X.s₀.heap.objs.size
 noex:∀b o,X.base.get? b=some o->b∉X.ex
 exfs:∀b∈X.ex,b∉X.fs
 funs:X.s₀.heap.FunFrames X.base X.outer
 frf:∀b∈X.fs,X.H₀ b=none
structure Inv (X:Cx) (pins:List (Addr×Obj)) (σ:List (Option V)) (H:Hp) (s:Shared):Prop where
 ok:X.Ok
 os:s.os=X.s₀.os
 bare:AllBare s.gens
 base:Un X.fs X.ex X.H₀ H X.s₀.heap s.heap
 loc:∃m,s.heap.Ns X.env.locals m/\∀(i:Nat) (x:Str) (v:V),X.N[i]?=some x->σ[i]?=some (some v)->Vis X.env.scope x->∃u,C9 v u/\B7a X.env s.heap m x u
 cell:∀x c,X.env.cells.lookup x=some c->∃v,s.heap.IsCell c v
 free:H X.env.locals=none
 freeC:∀x c,X.env.cells.lookup x=some c->H c=none
 pin:∀p∈X.pn++pins,s.heap.get? p.1=some p.2/\H p.1=none/\p.1≠X.env.locals/\p.1∉X.fs/\∀v,p.2.data≠.cell v
 hok:HOk X.prog X.w H s.heap
 len:σ.length=X.N.length
section
variable {X:Cx} {pins:List (Addr×Obj)} {σ:List (Option V)} {H H':Hp} {s:Shared} {h':Heap}
theorem Cx.Ok.nofr (ok:X.Ok) {b:Addr} {o:Obj} (e:X.base.get? b=some o):b∉X.fs:=λhb=>by
 have:=(ok.funs.mem hb).1
 rw[e] at this;cases this
theorem Inv.bs (I:Inv X pins σ H s):∀b o,X.base.get? b=some o->s.heap.get? b=some o/\H b=none:=λb o e=>
 ⟨I.base.keep b o (I.ok.bs b o e).1 (I.ok.bs b o e).2 (I.ok.nofr e) (I.ok.noex b o e),I.base.free b o (I.ok.bs b o e).1 (I.ok.bs b o e).2 (I.ok.noex b o e)⟩
theorem Inv.bk (I:Inv X pins σ H s):∀b o,X.base.get? b=some o->s.heap.get? b=some o:=λb o e=>(I.bs b o e).1
theorem Inv.mod (I:Inv X pins σ H s):Mod X.K X.mg X.base:=I.ok.mod
theorem Inv.kIn (I:Inv X pins σ H s):X.K.In s.heap:=I.ok.mod.kin.keeps I.bk
theorem Inv.lt (I:Inv X pins σ H s):X.env.locals < s.heap.objs.size:=let ⟨_,hn,_⟩:=I.loc;hn.lt
theorem Inv.sz (I:Inv X pins σ H s):X.s₀.heap.objs.size<=s.heap.objs.size:=X0 I.ok.above (A7p I.lt)
theorem Inv.nofs (I:Inv X pins σ H s) {a:Addr} (h:s.heap.objs.size<=a):a∉X.fs:=λhb=>by
 obtain⟨_,o,ho,_⟩:=I.ok.funs.mem hb
 exact absurd (V7 (F9 ho) (X0 I.sz h)) (A0k _)
theorem Inv.cne (I:Inv X pins σ H s):∀x c,X.env.cells.lookup x=some c->c≠X.env.locals:=λx c e z=>by
 obtain⟨v,o,ho,hd⟩:=I.cell x c e
 obtain⟨m,⟨o',es,ep,ho',hd',_⟩,_⟩:=I.loc
 rw[z,ho'] at ho;cases ho;rw[hd'] at hd;cases hd
theorem Inv.funs (I:Inv X pins σ H s):s.heap.FunFrames X.base X.outer:=by
 have all:∀(l:List Env),(∀b∈frs l,b∈X.fs)->X.s₀.heap.FunFrames X.base l->s.heap.FunFrames X.base l:=by
  intro l
  induction l with
  | nil=>intro _ _;trivial
  | cons env r ih=>
   intro hs hl
   obtain⟨hk,⟨L,o,hf,hn,ho,hd⟩,hr⟩:=hl
   have hL:L∈X.fs:=hs L (by unfold frs;rw[B6q,hf];exact D4)
   obtain⟨sl,e⟩:=I.base.slot L o ho (I.ok.frf L hL) hL λz=>I.ok.exfs L z hL
   exact⟨hk,⟨L,_,hf,hn,e,hd⟩,ih (λb hb=>hs b (by unfold frs;rw[B6q,hf];exact C8 _ hb)) hr⟩
 exact all X.outer (λ_ hb=>hb) I.ok.funs
theorem Inv.stack (I:Inv X pins σ H s):s.heap.FunFrames X.base X.stack:=by
 rcases I.ok.stk with e | ⟨e,hf⟩
 ·rw[e];exact I.funs
 ·rw[e]
  obtain⟨m,hn,_⟩:=I.loc
  refine .cons (by rw[I.ok.kind];decide) hf hn ?_ I.funs
  exact B6r (X0 I.ok.bsz I.ok.above)
theorem Inv.stkSub (I:Inv X pins σ H s):∀b∈frs X.stack,b∈X.env.locals::X.fs:=λb hb=>by
 rcases I.ok.stk with e | ⟨e,hf⟩
 ·rw[e] at hb;exact C8 _ hb
 ·rw[e] at hb
  unfold frs at hb
  rw[B6q,hf] at hb
  exact hb
theorem Inv.stkFree (I:Inv X pins σ H s):∀b∈frs X.stack,H b=none:=λb hb=>by
 rcases J8.mp (I.stkSub b hb) with e | hb
 ·rw[e];exact I.free
 ·obtain⟨_,o,ho,_⟩:=I.ok.funs.mem hb
  exact I.base.free b o ho (I.ok.frf b hb) λz=>I.ok.exfs b z hb
theorem Inv.step {g':Array GenState} {t':Nat} {d':Drawn} {ch:List Addr} (I:Inv X pins σ H s)
  (hch:∀b∈ch,(b∈X.ex\/X.s₀.heap.objs.size<=b)/\b≠X.env.locals/\(∀x c,X.env.cells.lookup x=some c->c≠b)/\∀p∈X.pn++pins,p.1≠b)
  (keep:∀b o,b≠X.env.locals->b∉X.fs->b∉ch->s.heap.get? b=some o->H b=none->h'.get? b=some o)
  (slot:∀b o,b≠X.env.locals->b∈X.fs->b∉ch->s.heap.get? b=some o->H b=none->∃sl,h'.get? b=some { o with slots:=sl }) (free:∀b o,b∉ch->s.heap.get? b=some o->H b=none->H' b=none)
  (there:∀b o,b∉ch->s.heap.get? b=some o->∃o',h'.get? b=some o')
  (tups:∀b xs,H b=some (.tup xs)->H' b=some (.tup xs)) (frzs:∀b o u,H b=some (.frz o u)->H' b=some (.frz o u)) (tbls:∀b ps,H b=some (.tbl ps)->∃more,H' b=some (.tbl (ps++more)))
  (ns:∀m,s.heap.Ns X.env.locals m->h'.Ns X.env.locals m) (hok:HOk X.prog X.w H' h') (hg:AllBare g') :
  Inv X pins σ H' { s with heap:=h',gens:=g',drawn:=d',toks:=t' }:=by
 have neL:∀b o,X.s₀.heap.get? b=some o->b≠X.env.locals:=λb o e=>N5 (V7 (F9 e) I.ok.above)
 have neC:∀b o,X.s₀.heap.get? b=some o->b∉X.ex->b∉ch:=λb o e hx hb=>by
  rcases (hch b hb).1 with z | z
  ·exact hx z
  ·exact absurd (V7 (F9 e) z) (A0k _)
 have cellK:∀x c,X.env.cells.lookup x=some c->∀v,s.heap.IsCell c v->h'.IsCell c v:=λx c e v zz1=>el2 zz1 λo ho hd=>by
  have nch:c∉ch:=λz=>(hch c z).2.2.1 x c e rfl
  by_cases hc:c∈X.fs
  ·obtain⟨sl,q⟩:=slot c o (I.cne x c e) hc nch ho (I.freeC x c e)
   exact⟨_,q,hd⟩
  ·exact⟨o,keep c o (I.cne x c e) hc nch ho (I.freeC x c e),hd⟩
 refine⟨I.ok,I.os,hg,⟨λb o e n hb hx=>?_,λb o e n hb hx=>?_,λb o e n hx=>?_,λb o e hx=>?_,λb xs e=>tups b xs (I.base.tups b xs e),λb o xs e=>frzs b o xs (I.base.frzs b o xs e),λb ps e=>?_⟩,?_,λx c e=>?_,?_,λx c e=>?_,λp hp=>?_,hok,I.len⟩
 ·exact keep b o (neL b o e) hb (neC b o e hx) (I.base.keep b o e n hb hx) (I.base.free b o e n hx)
 ·obtain⟨sl,e1⟩:=I.base.slot b o e n hb hx
  obtain⟨sl',e2⟩:=slot b _ (neL b o e) hb (neC b o e hx) e1 (I.base.free b o e n hx)
  exact⟨sl',e2⟩
 ·obtain⟨o',e1⟩:=I.base.there b o e hx
  exact free b o' (neC b o e hx) e1 (I.base.free b o e n hx)
 ·obtain⟨o',e1⟩:=I.base.there b o e hx
  exact there b o' (neC b o e hx) e1
 ·obtain⟨m1,e1⟩:=I.base.tbls b ps e
  obtain⟨m2,e2⟩:=tbls b _ e1
  exact⟨m1++m2,by rw[e2,Array.append_assoc]⟩
 ·obtain⟨m,hn,hl⟩:=I.loc
  refine⟨m,ns m hn,λi x v e1 e2 e3=>?_⟩
  obtain⟨u,r,l⟩:=hl i x v e1 e2 e3
  refine⟨u,r,?_⟩
  rcases l with l | ⟨k,c,e,z⟩
  ·exact .inl l
  ·exact .inr ⟨k,c,e,cellK x c e _ z⟩
 ·obtain⟨v,z⟩:=I.cell x c e
  exact⟨v,cellK x c e v z⟩
 ·obtain⟨m,⟨o,_,_,ho,_⟩,_⟩:=I.loc
  exact free _ o (λz=>(hch _ z).2.1 rfl) ho I.free
 ·obtain⟨v,o,ho,hd⟩:=I.cell x c e
  exact free c o (λz=>(hch c z).2.2.1 x c e rfl) ho (I.freeC x c e)
 ·obtain⟨e,n,ne,nf,d⟩:=I.pin p hp
  have nch:p.1∉ch:=λz=>(hch p.1 z).2.2.2 p hp rfl
  exact⟨keep p.1 p.2 ne nf nch e n,free p.1 p.2 nch e n,ne,nf,d⟩
theorem Inv.un {t':Nat} (I:Inv X pins σ H s) (u:Un X.fs [] H H' s.heap h') (hok:HOk X.prog X.w H' h'):Inv X pins σ H' { s with heap:=h',toks:=t' }:=by
 obtain⟨m,⟨o,es,ep,ho,r⟩,_⟩:=id I.loc
 obtain⟨sl,hL⟩:=u.any ho I.free (by simp)
 exact I.step (g':=s.gens) (d':=s.drawn) (ch:=[]) (λ_ z=>nomatch z) (λb o _ hb _ e n=>u.keep b o e n hb (by simp)) (λb o _ hb _ e n=>u.slot b o e n hb (by simp)) (λb o _ e n=>u.free b o e n (by simp)) (λb o _ e=>u.there b o e (by simp)) u.tups u.frzs u.tbls (λm' hm=>by
  obtain⟨o',es',ep',ho',r'⟩:=hm
  rw[ho] at ho';cases ho'
  exact⟨_,es',ep',hL,r'⟩) hok I.bare
theorem Inv.call {g':Array GenState} {t':Nat} {d':Drawn} {ch:List Addr} (I:Inv X pins σ H s) (u:Un (frs X.stack) ch H H' s.heap h') (hok:HOk X.prog X.w H' h') (hg:AllBare g')
  (hch:∀b∈ch,(b∈X.ex\/X.s₀.heap.objs.size<=b)/\b≠X.env.locals/\(∀x c,X.env.cells.lookup x=some c->c≠b)/\∀p∈X.pn++pins,p.1≠b) :
  Inv X pins σ H' { s with heap:=h',gens:=g',drawn:=d',toks:=t' }:=by
 obtain⟨m,⟨o,es,ep,ho,r⟩,_⟩:=id I.loc
 obtain⟨sl,hL⟩:=u.any ho I.free λz=>(hch _ z).2.1 rfl
 exact I.step (ch:=ch) hch (λb o hL hb hc e n=>u.keep b o e n (λz=>(J8.mp (I.stkSub b z)).elim hL hb) hc) (λb o _ _ hc e n=>u.any e n hc) (λb o hc e n=>u.free b o e n hc) (λb o hc e=>u.there b o e hc) u.tups u.frzs u.tbls (λm' hm=>by
  obtain⟨o',es',ep',ho',r'⟩:=hm
  rw[ho] at ho';cases ho'
  exact⟨_,es',ep',hL,r'⟩) hok hg
theorem Inv.turned {t':Nat} {it:Addr} (I:Inv X pins σ H s) (k:∀b o,b≠it->s.heap.get? b=some o->h'.get? b=some o) (hn:H it=none) (hL:it≠X.env.locals)
  (h1:it∈X.ex\/X.s₀.heap.objs.size<=it) (h2:∀x c,X.env.cells.lookup x=some c->c≠it) (h3:∀p∈X.pn++pins,p.1≠it):Inv X pins σ H { s with heap:=h',toks:=t' }:=by
 have nit:∀b u,H b=some u->b≠it:=λb u e z=>by rw[z,hn] at e;cases e
 refine I.step (g':=s.gens) (d':=s.drawn) (ch:=[it]) (λb hb=>?_) (λb o _ _ hc e _=>k b o (λz=>hc (by simp [z])) e) (λb o _ _ hc e _=>⟨o.slots,k b o (λz=>hc (by simp [z])) e⟩) (λ_ _ _ _ n=>n)
  (λb o hc e=>⟨o,k b o (λz=>hc (by simp [z])) e⟩) (λ_ _ e=>e) (λ_ _ _ e=>e) (λb ps e=>⟨#[],by rw[e];simp⟩) (λm hm=>?_) (λb u e=>?_) I.bare
 ·have e:b=it:=by simpa using hb
  subst e
  exact⟨h1,hL,h2,h3⟩
 ·obtain⟨o,es,ep,ho,r⟩:=hm
  exact⟨o,es,ep,k _ o (Ne.symm hL) ho,r⟩
 ·refine (I.hok b u e).stay (λc v hc q=>k c v ?_ q) (λ_ q=>q) λ_ _ q=>q
  rcases hc with z | z
  ·rw[z];exact nit b u e
  ·exact nit c _ z
theorem Inv.tok (I:Inv X pins σ H s) (t:Nat):Inv X pins σ H { s with toks:=t }:=I.un (h':=s.heap) (t':=t) Un.refl I.hok
theorem Inv.kept {t':Nat} (I:Inv X pins σ H s) (k:∀b u,s.heap.get? b=some u->h'.get? b=some u):Inv X pins σ H { s with heap:=h',toks:=t' }:=I.un (Un.kept k) (I.hok.kept k)
theorem Inv.laid {a:Addr} {o:HO} {t':Nat} (I:Inv X pins σ H s) (k:∀b u,s.heap.get? b=some u->h'.get? b=some u) (hp:s.heap.objs.size<=a) (new:K2 X.prog X.w (upd H a o) h' a o) :
  Inv X pins σ (upd H a o) { s with heap:=h',toks:=t' }:=I.un (Un.laid k hp (I.hok.fresh hp)) (I.hok.laid k hp new)
theorem Inv.write {x e:Addr} {o:HO} {t':Nat} (I:Inv X pins σ H s) (mu:Mut (H x)) (he:e=x\/H e=some (.own x)) (k:∀b u,b≠e->s.heap.get? b=some u->h'.get? b=some u) (heo:∃u,h'.get? e=some u)
  (new:K2 X.prog X.w (upd H x o) h' x o):Inv X pins σ (upd H x o) { s with heap:=h',toks:=t' }:=I.un (Un.write mu he k heo) (I.hok.write mu he k heo new)
theorem Inv.weak {σ':List (Option V)} (I:Inv X pins σ H s) (hl:σ'.length=σ.length) (w:∀(i:Nat) v,σ'[i]?=some (some v)->σ[i]?=some (some v)):Inv X pins σ' H s:=
 ⟨I.ok,I.os,I.bare,I.base,let ⟨m,hn,hl'⟩:=I.loc;⟨m,hn,λi x v e1 e2 e3=>hl' i x v e1 (w i v e2) e3⟩,I.cell,I.free,I.freeC,I.pin,I.hok,hl.trans I.len⟩
theorem Inv.pins_of {pins':List (Addr×Obj)} (I:Inv X pins σ H s) (h:∀p∈pins',s.heap.get? p.1=some p.2/\H p.1=none/\p.1≠X.env.locals/\p.1∉X.fs/\∀v,p.2.data≠.cell v):Inv X pins' σ H s:=
 ⟨I.ok,I.os,I.bare,I.base,I.loc,I.cell,I.free,I.freeC,λp hp=>(A0l.mp hp).elim (λz=>I.pin p (A9g _ z)) (h p),I.hok,I.len⟩
theorem A9u {N:List Str} (hN:N.Nodup) {i j:Nat} {x:Str} (a:N[i]?=some x) (b:N[j]?=some x):i=j:=by
 obtain⟨h1,e1⟩:=A2h.mp a
 obtain⟨h2,e2⟩:=A2h.mp b
 exact (List.getElem_inj hN).mp (e1.trans e2.symm)
theorem B7b {M:Model} {A:Around} {E:Value->Shared->Prop} {i:Nat} {x:Str} {v:V} {u:Value} {Q:Unit->Shared->Prop} (I:Inv X pins σ H s) (hN:X.N.Nodup) (hi:X.N[i]?=some x) (hx:Loc X.env.scope x) (r:C9 v u)
  (h:∀s',Inv X pins (σ.set i (some v)) H s'->(∃a,Heap.SameBut a s.heap s'.heap/\(a=X.env.locals\/X.env.cells.lookup x=some a))->Q () s') (hf:X.fn x=true\/X.env.scope.names.lookup x=some .local:=by first | exact .inl rfl | exact .inr rfl | assumption):wpAny M A (storeName X.env x u) Q E s:=by
 obtain⟨m,hn,hl⟩:=id I.loc
 have hcls:(X.env.scope.kind == .class||(X.env.scope.kind == .module&&X.env.locals != X.env.globals))=false:=by rw[I.ok.kind];rfl
 have hiσ:i < σ.length:=by rw[I.len];exact (A2h.mp hi).1
 have cne:=I.cne
 have tracked:∀{a:Addr} {h':Heap},(∃o,s.heap.get? a=some o/\H a=none)->Heap.SameBut a s.heap h'->HOk X.prog X.w H h':=λ{a h'} ha hs b ob e=>by
  obtain⟨_,_,hfree⟩:=ha
  refine (I.hok b ob e).stay (λc w' hc q=>(hs.2 c ?_).trans q) (λ_ q=>q) λ_ _ q=>q
  rintro rfl
  rcases hc with rfl | hc
  ·rw[hfree] at e;cases e
  ·rw[hfree] at hc;cases hc
 rcases hx with hk | hk
 ·refine wpAny_storeName_local hk hn (λh' hn' hs=>?_) hcls
  obtain⟨oL,_,_,hoL,_⟩:=id hn
  refine h _ ⟨I.ok,I.os,I.bare,⟨λb o e n hb hx=>?_,λb o e n hb hx=>?_,I.base.free,λb o e hx=>?_,I.base.tups,I.base.frzs,I.base.tbls⟩,⟨_,hn',λj y v' e1 e2 e3=>?_⟩,λy c e=>?_,I.free,I.freeC,λp hp=>?_,tracked ⟨oL,hoL,I.free⟩ hs,by simpa using I.len⟩ ⟨_,hs,.inl rfl⟩
  ·exact (hs.2 b (N5 (V7 (F9 e) I.ok.above))).trans (I.base.keep b o e n hb hx)
  ·obtain⟨sl,e1⟩:=I.base.slot b o e n hb hx
   exact⟨sl,(hs.2 b (N5 (V7 (F9 e) I.ok.above))).trans e1⟩
  ·obtain⟨o',e1⟩:=I.base.there b o e hx
   exact⟨o',(hs.2 b (N5 (V7 (F9 e) I.ok.above))).trans e1⟩
  ·by_cases hj:j=i
   ·subst hj
    rw[hi] at e1;cases e1
    rw[B6s hiσ] at e2
    cases e2
    exact⟨u,r,.inl ⟨hk,by simp⟩⟩
   ·rw[p7 (Ne.symm hj)] at e2
    obtain⟨u',r',q⟩:=hl j y v' e1 e2 e3
    refine⟨u',r',?_⟩
    rcases q with ⟨k,e⟩ | ⟨k,c,e,z⟩
    ·refine .inl ⟨k,?_⟩
     have:y≠x:=λe=>hj (A9u hN e1 (e▸hi))
     simp [this,e]
    ·exact .inr ⟨k,c,e,z.sameBut hs (cne y c e)⟩
  ·obtain⟨w',z⟩:=I.cell y c e
   exact⟨w',z.sameBut hs (cne y c e)⟩
  ·obtain⟨e,n,ne,nf,d⟩:=I.pin p hp
   exact⟨(hs.2 p.1 ne).trans e,n,ne,nf,d⟩
 ·have hfn:X.fn x=true:=by
   rcases hf with z | z
   ·exact z
   ·rw[z] at hk;cases hk
  obtain⟨c,hc⟩:=I.ok.has x (.inl hk)
  obtain⟨w',z⟩:=I.cell x c hc
  refine wpAny_storeName_cell I.ok.kind hk hc z (λh' hc' hs=>?_)
  obtain⟨oc,hoc,hocd⟩:=id z
  refine h { s with heap:=h' } ⟨I.ok,I.os,I.bare,⟨λb o e n hb hx=>?_,λb o e n hb hx=>?_,I.base.free,λb o e hx=>?_,I.base.tups,I.base.frzs,I.base.tbls⟩,⟨m,hn.sameBut hs (Ne.symm (cne x c hc)),λj y v' e1 e2 e3=>?_⟩,λy c' e=>?_,I.free,I.freeC,λp hp=>?_,tracked ⟨oc,hoc,I.freeC x c hc⟩ hs,by simpa using I.len⟩ ⟨c,hs,.inr hc⟩
  ·exact (hs.2 b (N5 (V7 (F9 e) (I.ok.cab x c hfn hc)))).trans (I.base.keep b o e n hb hx)
  ·obtain⟨sl,e1⟩:=I.base.slot b o e n hb hx
   exact⟨sl,(hs.2 b (N5 (V7 (F9 e) (I.ok.cab x c hfn hc)))).trans e1⟩
  ·obtain⟨o',e1⟩:=I.base.there b o e hx
   exact⟨o',(hs.2 b (N5 (V7 (F9 e) (I.ok.cab x c hfn hc)))).trans e1⟩
  ·by_cases hj:j=i
   ·subst hj
    rw[hi] at e1;cases e1
    rw[B6s hiσ] at e2
    cases e2
    exact⟨u,r,.inr ⟨.inl hk,c,hc,hc'⟩⟩
   ·rw[p7 (Ne.symm hj)] at e2
    obtain⟨u',r',q⟩:=hl j y v' e1 e2 e3
    refine⟨u',r',?_⟩
    rcases q with q | ⟨k,c',e,z'⟩
    ·exact .inl q
    ·refine .inr ⟨k,c',e,z'.sameBut hs ?_⟩
     rintro rfl
     exact hj (A9u hN e1 (I.ok.inj _ _ _ e hc▸hi))
  ·by_cases hcc:c'=c
   ·subst hcc;exact⟨_,hc'⟩
   ·obtain⟨w2,z2⟩:=I.cell y c' e
    exact⟨w2,z2.sameBut hs hcc⟩
  ·obtain⟨e,n,ne,nf,d⟩:=I.pin p hp
   refine⟨(hs.2 p.1 ?_).trans e,n,ne,nf,d⟩
   intro q
   rw[q,hoc] at e
   have q':oc=p.2:=Option.some.inj e
   exact d w' (by rw[<-q'];exact hocd)
theorem A9v {M:Model} {A:Around} {E:Value->Shared->Prop} {i:Nat} {x:Str} {v:V} {u:Value} {Q:Unit->Shared->Prop} (I:Inv X pins σ H s) (hN:X.N.Nodup) (hi:X.N[i]?=some x) (hx:Loc X.env.scope x) (r:C9 v u)
  (h:∀s',Inv X pins (σ.set i (some v)) H s'->Q () s') (hf:X.fn x=true\/X.env.scope.names.lookup x=some .local:=by first | exact .inl rfl | exact .inr rfl | assumption):wpAny M A (storeName X.env x u) Q E s:=
 B7b I hN hi hx r (λs' I' _=>h s' I') hf
theorem Inv.call' {s':Shared} {ch:List Addr} (I:Inv X pins σ H s) (ho:s'.os=s.os) (u:Un (frs X.stack) ch H H' s.heap s'.heap) (hok:HOk X.prog X.w H' s'.heap) (hg:AllBare s'.gens)
  (hch:∀b∈ch,(b∈X.ex\/X.s₀.heap.objs.size<=b)/\b≠X.env.locals/\(∀x c,X.env.cells.lookup x=some c->c≠b)/\∀p∈X.pn++pins,p.1≠b):Inv X pins σ H' s':=by
 obtain⟨h',g',d',t',o'⟩:=s'
 have e:o'=s.os:=ho
 subst e
 exact I.call (g':=g') (t':=t') (d':=d') u hok hg hch
end
abbrev XK:=Value->Option Addr->Hp->Prop
abbrev St:=List (Option V)
abbrev VK:=V->Hp->Prop
abbrev TE:=St->Hp->VK->Prop
abbrev TT:=St->Hp->(Bool->Hp->Prop)->Prop
abbrev TA:=St->Hp->(List V->Hp->Prop)->Prop
structure X3 where
 nx:St->Hp->Prop
 rt:VK
 bk:St->Hp->Prop:=λ_ _=>False
 ct:St->Hp->Prop:=λ_ _=>False
abbrev TS:=X3->St->Hp->Prop
def EP (X:Cx) (pins:List (Addr×Obj)) (σ:St) (Q:VK) (u:Value) (s':Shared):Prop:=∃v H',Inv X pins σ H' s'/\C9 v u/\Q v H'
def TP (X:Cx) (pins:List (Addr×Obj)) (σ:St) (Q:Bool->Hp->Prop) (b:Bool) (s':Shared):Prop:=∃H',Inv X pins σ H' s'/\Q b H'
def AP (X:Cx) (pins:List (Addr×Obj)) (σ:St) (Q:List V->Hp->Prop) (us:List Value) (s':Shared):Prop:=∃vs H',Inv X pins σ H' s'/\C5 vs us/\Q vs H'
def SP (X:Cx) (pins:List (Addr×Obj)) (D:X3) (f:Flow) (s':Shared):Prop:=
 match f with
 | .next=>∃σ' H',Inv X pins σ' H' s'/\D.nx σ' H'
 | .brk=>∃σ' H',Inv X pins σ' H' s'/\D.bk σ' H'
 | .cont=>∃σ' H',Inv X pins σ' H' s'/\D.ct σ' H'
 | .ret u=>∃v σ' H',Inv X pins σ' H' s'/\C9 v u/\D.rt v H'
def PE (X:Cx) (e:Expr) (t:TE):Prop:=
 ∀(pins:List (Addr×Obj)) (s:Shared) (σ:St) (H:Hp) (Q:VK),Inv X pins σ H s->t σ H Q->wpAny (model X.prog X.w) X.A (eval e X.env) (EP X pins σ Q) X.xe s
def PT (X:Cx) (e:Expr) (t:TT):Prop:=
 ∀(pins:List (Addr×Obj)) (s:Shared) (σ:St) (H:Hp) (Q:Bool->Hp->Prop),Inv X pins σ H s->t σ H Q->wpAny (model X.prog X.w) X.A (isTrue e X.env (eval e X.env)) (TP X pins σ Q) X.xe s
def PW (X:Cx) (e:Expr) (t:TT):Prop:=
 ∀(whole:Sem Value) (pins:List (Addr×Obj)) (s:Shared) (σ:St) (H:Hp) (Q:Bool->Hp->Prop),Inv X pins σ H s->t σ H Q->wpAny (model X.prog X.w) X.A (isTrue e X.env whole) (TP X pins σ Q) X.xe s
theorem PW.pt {X:Cx} {e:Expr} {t:TT} (h:PW X e t):PT X e t:=h _
def PA (X:Cx) (es:List Expr) (t:TA):Prop:=
 ∀(pos:Pos) (pins:List (Addr×Obj)) (s:Shared) (σ:St) (H:Hp) (Q:List V->Hp->Prop),Inv X pins σ H s->t σ H Q->wpAny (model X.prog X.w) X.A (spliced (backTo pos (starEach es X.env))) (AP X pins σ Q) X.xe s
def PS (X:Cx) (st:Stmt) (t:TS):Prop:=
 ∀(pins:List (Addr×Obj)) (s:Shared) (σ:St) (H:Hp) (D:X3),Inv X pins σ H s->t D σ H->wpAny (model X.prog X.w) X.A (exec st X.env) (SP X pins D) X.xe s
def PSs (X:Cx) (st:List Stmt) (t:TS):Prop:=
 ∀(pins:List (Addr×Obj)) (s:Shared) (σ:St) (H:Hp) (D:X3),Inv X pins σ H s->t D σ H->wpAny (model X.prog X.w) X.A (execs st X.env) (SP X pins D) X.xe s
theorem thn {α:Type} {t:Sem α} {Q Q':α->Shared->Prop} {M:Model} {A:Around} {E:Value->Shared->Prop} {s:Shared} (h:wpAny M A t Q E s) (hQ:∀a s,Q a s->Q' a s):wpAny M A t Q' E s:=wpAny_mono h hQ λ_ _ x=>x
section
variable {X:Cx}
def G0 (i:Nat):TE:=fun σ H Q=>∃v,σ[i]?=some (some v)/\Q v H
def tC (v:V):TE:=λ_ H Q=>Q v H
theorem B2l {i:Nat} {x:Str} {pos:Pos} (hN:X.N[i]?=some x) (hv:Vis X.env.scope x) (hd:(x == ("__debug__" : Str))=false:=by decide) (hcd:(x == ("__classdict__" : Str))=false:=by decide):PE X (.Name x pos) (G0 i):=by
 intro pins s σ H Q I h
 obtain⟨v,e,h⟩:=h
 obtain⟨m,hn,hl⟩:=I.loc
 obtain⟨u,r,l⟩:=hl i x v hN e hv
 have fin:EP X pins σ Q u s:=⟨v,H,I,r,h⟩
 rcases l with ⟨hk,hm⟩ | ⟨hk,c,hc,hcell⟩
 ·exact wpAny_Name (wpAny_loadName_local I.ok.kind hk hn hm fin) hd
 ·rcases hk with hk | hk
  ·exact wpAny_Name (wpAny_loadName_cell I.ok.kind hk hc hcell fin) hd
  ·exact wpAny_Name (wpAny_loadName_free I.ok.kind hk hc hcell fin hcd) hd
theorem C3 {i j pos}:PE X (.Constant (.int i) j pos) (tC (.int i)):=λ_ _ _ H _ I h=>wpAny_Constant_int ⟨.int i,H,I.tok _,⟨_,rfl⟩,h⟩
theorem A04 {b j pos}:PE X (.Constant (.bool b) j pos) (tC (.bl b)):=λ_ _ _ H _ I h=>Constant_bool ⟨.bl b,H,I,rfl,h⟩
theorem A9w {j pos}:PE X (.Constant .none j pos) (tC .non):=λ_ _ _ H _ I h=>Constant_none ⟨.non,H,I,rfl,h⟩
theorem O4 {x j pos}:PE X (.Constant (.str x) j pos) (tC (.str x)):=λ_ _ _ H _ I h=>Calls.Constant_str ⟨.str x,H,I.tok _,⟨_,rfl⟩,h⟩
def Gl (X:Cx) (x:Str):Prop:=X.env.kindOf x=some .globalImplicit
theorem A59 {E:Value->Shared->Prop} {pins:List (Addr×Obj)} {s:Shared} {σ:St} {H:Hp} {x:Str} {u:Value} {pos:Pos} {Q:Value->Shared->Prop} (I:Inv X pins σ H s) (hg:Gl X x) (hm:X.mg x=some u) (h:Q u s)
  (hd:(x == ("__debug__" : Str))=false:=by decide):wpAny (model X.prog X.w) X.A (eval (.Name x pos) X.env) Q E s:=
 Calls.Name_function_global I.ok.kind hg (Calls.loadGlobal_global (by rw[I.ok.glob];exact I.mod.glob.keeps I.bk) hm h) hd
theorem A2p {E:Value->Shared->Prop} {pins:List (Addr×Obj)} {s:Shared} {σ:St} {H:Hp} {x:Str} {u:Value} {pos:Pos} {Q:Value->Shared->Prop} (I:Inv X pins σ H s) (hg:Gl X x) (hm:X.mg x=none) (hv:bootBuiltins x=some u) (h:Q u s)
  (hn:x≠ "__name__" :=by decide) (hd:(x == ("__debug__" : Str))=false:=by decide):wpAny (model X.prog X.w) X.A (eval (.Name x pos) X.env) Q E s:=by
 obtain⟨mb,h1,h2⟩:=I.mod.blt
 exact Calls.Name_function_global I.ok.kind hg (Calls.loadGlobal_builtin (by rw[I.ok.glob];exact I.mod.glob.keeps I.bk) hm (by rw[I.ok.blt];exact h1.keeps I.bk) ((h2 x hn).trans hv) h) hd
theorem D2 {x:Str} {v:V} {u:Value} {pos:Pos} (hg:Gl X x) (hm:X.mg x=some u) (r:C9 v u) (hd:(x == ("__debug__" : Str))=false:=by decide):PE X (.Name x pos) (tC v):=
 λ_ _ _ H _ I h=>A59 I hg hm ⟨v,H,I,r,h⟩ hd
theorem A9x {x:Str} {v:V} {u:Value} {pos:Pos} (hg:Gl X x) (hm:X.mg x=none) (hv:bootBuiltins x=some u) (r:C9 v u) (hn:x≠ "__name__" :=by decide) (hd:(x == ("__debug__" : Str))=false:=by decide):PE X (.Name x pos) (tC v):=
 λ_ _ _ H _ I h=>A2p I hg hm hv ⟨v,H,I,r,h⟩ hn hd
variable {a b:Expr} {ta tb:TE} {pos:Pos}
def PC (X:Cx) (op:CmpOp) (a b:Expr) (t:TE):Prop:=
 ∀(pins:List (Addr×Obj)) (s:Shared) (σ:St) (H:Hp) (Q:VK),Inv X pins σ H s->t σ H Q->
  wpAny (model X.prog X.w) X.A (eval a X.env) (λv s₁=>wpAny (model X.prog X.w) X.A (eval b X.env) (λu s₂=>wpAny (model X.prog X.w) X.A (compareOp op v u) (EP X pins σ Q) X.xe s₂) X.xe s₁) X.xe s
def tB (t:TE):TT:=fun σ H Q=>t σ H λx H1=>∃c,x=.bl c/\Q c H1
theorem A9y {op:CmpOp} {t:TE} (h:PC X op a b t) (h1:behindInMarks op b=false:=by first | exact nobehind _ DD DD | rfl):PT X (.Compare a [op] [b] pos) (tB t):=by
 intro pins s σ H Q I hw
 refine wpAny_isTrue_Compare1 (thn (h pins s σ H _ I hw) λv s1 h1=>thn h1 λu s2 h2=>thn h2 λc s3 zz6=>el5 zz6 λx H1 I1 r1 q1=>?_) h1
 obtain⟨d,rfl,q⟩:=q1
 cases r1
 exact wpAny_truthy_bool ⟨H1,I1,q⟩
theorem P3 {e:Expr} {t:TE} (h:PE X e t) (he:∀whole,isTrue e X.env whole=(do let v <-whole;standAt e.pos;holding [v] (truthy v)):=by intro _;rfl):PT X e (tB t):=by
 intro pins s σ H Q I hw
 refine isTrue_plain (thn (h pins s σ H _ I hw) λv s1 zz7=>el5 zz7 λx H1 I1 r1 q1=>?_) (he _)
 obtain⟨d,rfl,q⟩:=q1
 cases r1
 exact wpAny_truthy_bool ⟨H1,I1,q⟩
variable {tA tB':TT} {L9:List Expr}
def C4i (t u:TT):TT:=fun σ H Q=>t σ H λc H1=>if c=true then u σ H1 Q else Q false H1
def tOr (t u:TT):TT:=fun σ H Q=>t σ H λc H1=>if c=true then Q true H1 else u σ H1 Q
def C4j (t:TT):TT:=fun σ H Q=>t σ H λc H1=>Q (!c) H1
theorem B2m (ha:PT X a tA):PW X (.BoolOp .And [a] pos) tA:=by
 intro wh pins s σ H Q I h
 refine isTrue_and (thn (ha pins s σ H Q I h) λc s1 e=>?_)
 cases c with
 | true=>exact isTrue_and_nil e
 | false=>exact e
theorem A2q (ha:PT X a tA):PW X (.BoolOp .Or [a] pos) tA:=by
 intro wh pins s σ H Q I h
 refine isTrue_or (thn (ha pins s σ H Q I h) λc s1 e=>?_)
 cases c with
 | false=>exact isTrue_or_nil e
 | true=>exact e
theorem B2n (ha:PT X a tA) (hb:PW X (.BoolOp .And (b::L9) pos) tB'):PW X (.BoolOp .And (a::b::L9) pos) (C4i tA tB'):=by
 intro wh pins s σ H Q I h
 refine isTrue_and (thn (ha pins s σ H _ I h) λc s1 zz8=>el2 zz8 λH1 I1 q1=>?_)
 cases c with
 | true=>exact hb wh pins s1 σ H1 Q I1 q1
 | false=>exact⟨H1,I1,q1⟩
theorem A2r (ha:PT X a tA) (hb:PW X (.BoolOp .Or (b::L9) pos) tB'):PW X (.BoolOp .Or (a::b::L9) pos) (tOr tA tB'):=by
 intro wh pins s σ H Q I h
 refine isTrue_or (thn (ha pins s σ H _ I h) λc s1 zz9=>el2 zz9 λH1 I1 q1=>?_)
 cases c with
 | true=>exact⟨H1,I1,q1⟩
 | false=>exact hb wh pins s1 σ H1 Q I1 q1
theorem Q8 (ha:PT X a tA):PT X (.UnaryOp .Not a pos) (C4j tA):=by
 intro pins s σ H Q I h
 exact isTrue_not (ha pins s σ H (λc H1=>Q (!c) H1) I h)
def C4k (ta tb:TE):TE:=fun σ H Q=>ta σ H λx H1=>∃c,x=.bl c/\if c=true then tb σ H1 Q else Q (.bl false) H1
def C4l (ta tb:TE):TE:=fun σ H Q=>ta σ H λx H1=>∃c,x=.bl c/\if c=true then Q (.bl true) H1 else tb σ H1 Q
def C4m (ta:TE):TE:=fun σ H Q=>ta σ H λx H1=>∃c,x=.bl c/\Q (.bl (!c)) H1
theorem B7c {op} {t:TE} (h:PE X a t):PE X (.BoolOp op [a] pos) t:=λpins s σ H Q I hw=>BoolOp_one (h pins s σ H Q I hw)
theorem B7d (ha:PE X a ta) (hb:PE X (.BoolOp .And (b::L9) pos) tb):PE X (.BoolOp .And (a::b::L9) pos) (C4k ta tb):=by
 intro pins s σ H Q I h
 refine BoolOp_and (thn (ha pins s σ H _ I h) λv s1 zz10=>el5 zz10 λx H1 I1 r1 q1=>?_)
 obtain⟨c,rfl,q1⟩:=q1
 cases r1
 refine wpAny_truthy_bool ?_
 cases c with
 | true=>exact hb pins s1 σ H1 Q I1 q1
 | false=>exact⟨.bl false,H1,I1,rfl,q1⟩
theorem C4n (ha:PE X a ta) (hb:PE X (.BoolOp .Or (b::L9) pos) tb):PE X (.BoolOp .Or (a::b::L9) pos) (C4l ta tb):=by
 intro pins s σ H Q I h
 refine BoolOp_or (thn (ha pins s σ H _ I h) λv s1 zz11=>el5 zz11 λx H1 I1 r1 q1=>?_)
 obtain⟨c,rfl,q1⟩:=q1
 cases r1
 refine wpAny_truthy_bool ?_
 cases c with
 | false=>exact hb pins s1 σ H1 Q I1 q1
 | true=>exact⟨.bl true,H1,I1,rfl,q1⟩
theorem C4o (ha:PE X a ta):PE X (.UnaryOp .Not a pos) (C4m ta):=by
 intro pins s σ H Q I h
 refine UnaryOp_ (thn (ha pins s σ H _ I h) λv s1 zz12=>el5 zz12 λx H1 I1 r1 q1=>?_)
 obtain⟨c,rfl,q1⟩:=q1
 cases r1
 exact not_of (wpAny_truthy_bool ⟨.bl (!c),H1,I1,rfl,q1⟩)
def tIf (t:TT) (ta tb:TE):TE:=fun σ H Q=>t σ H λc H1=>if c=true then ta σ H1 Q else tb σ H1 Q
theorem B7e {c:Expr} (hc:PT X c tA) (ha:PE X a ta) (hb:PE X b tb):PE X (.IfExp c a b pos) (tIf tA ta tb):=by
 intro pins s σ H Q I h
 refine wpAny_IfExp (thn (hc pins s σ H _ I h) λd s1 zz13=>el2 zz13 λH1 I1 q1=>?_)
 cases d with
 | true=>exact ha pins s1 σ H1 Q I1 q1
 | false=>exact hb pins s1 σ H1 Q I1 q1
end
def SqL (K:A4) (H:Hp) (a:Addr) (xs:List V):Prop:=
 Rd H a (.lst xs)\/
  ∃(o:Obj) (its:Array Value) (n:Nat),K.lookup a=some o/\o.cls=.type "list" /\o.dict=none/\o.data=.seq its n/\its.size<=sizeLine/\C5 xs its.toList
def SqT (K:A4) (H:Hp) (a:Addr) (xs:List V):Prop:=
 Rd H a (.tup xs)\/
  ∃(o:Obj) (its:Array Value) (n:Nat),K.lookup a=some o/\o.cls=.type "tuple" /\o.data=.seq its n/\its.size<=sizeLine/\C5 xs its.toList
def C4p:Value->Option V
 | .none=>some .non
 | .bool b=>some (.bl b)
 | .int i _=>some (.int i)
 | .str x _=>some (.str x)
 | .bytes b _=>some (.byt b)
 | .float b _=>some (.flt b)
 | .ref a=>some (.ref a)
 | .type n=>some (.ty n)
 | _=>none
theorem C9.abs {x:V} {u:Value} (r:C9 x u):C4p u=some x:=by
 cases x with
 | non=>cases r;rfl
 | bl _=>cases r;rfl
 | int _=>obtain⟨t,rfl⟩:=r;rfl
 | str _=>obtain⟨t,rfl⟩:=r;rfl
 | byt _=>obtain⟨t,rfl⟩:=r;rfl
 | flt _=>obtain⟨t,rfl⟩:=r;rfl
 | ref _=>cases r;rfl
 | ty _=>cases r;rfl
theorem C9.inj {x y:V} {u:Value} (r:C9 x u) (q:C9 y u):x=y:=Option.some.inj (r.abs.symm.trans q.abs)
theorem C5.inj {xs ys:List V} {us:List Value} (h:C5 xs us) (k:C5 ys us):xs=ys:=by
 induction h generalizing ys with
 | nil=>cases k;rfl
 | cons r t ih=>
  cases k with
  | cons r' t'=>rw[r.inj r',ih t']
section
variable {X:Cx} {pins:List (Addr×Obj)} {σ:St} {H:Hp} {s:Shared} {a:Addr} {xs ys:List V}
theorem SqL.of {K:A4} (h:H a=some (.lst xs)):SqL K H a xs:=.inl (.inl h)
theorem SqT.of {K:A4} (h:H a=some (.tup xs)):SqT K H a xs:=.inl (.inl h)
theorem Inv.list (I:Inv X pins σ H s) (h:SqL X.K H a xs):∃its:List Value,C5 xs its/\PlainL s.heap a its.toArray/\xs.length<=sizeLine:=by
 rcases h with h | ⟨o,its,n,hk,hc,hd,hs,hz,r⟩
 ·obtain⟨z,its,n,r,e⟩:=h.ok I.hok
  exact⟨its,r,⟨_,n,e,rfl,rfl,rfl⟩,z⟩
 ·refine⟨its.toList,r,⟨o,n,I.kIn a o hk,hc,hd,by simpa using hs⟩,?_⟩
  have e:=r.length
  simp only[A5t] at e
  lia
theorem Inv.tuple (I:Inv X pins σ H s) (h:SqT X.K H a xs):∃its:List Value,C5 xs its/\IsTup s.heap a its.toArray/\xs.length<=sizeLine:=by
 rcases h with h | ⟨o,its,n,hk,hc,hs,hz,r⟩
 ·obtain⟨z,its,r,p⟩:=h.ok I.hok
  exact⟨its,r,p,z⟩
 ·refine⟨its.toList,r,⟨o,I.kIn a o hk,hc,n,by simpa using hs⟩,?_⟩
  have e:=r.length
  simp only[A5t] at e
  lia
theorem Inv.list_inj (I:Inv X pins σ H s) (h:SqL X.K H a xs) (h':SqL X.K H a ys):xs=ys:=by
 obtain⟨its,r,⟨o,n,e,_,_,d⟩,_⟩:=I.list h
 obtain⟨its',r',⟨o',n',e',_,_,d'⟩,_⟩:=I.list h'
 rw[e] at e';cases e'
 rw[d] at d'
 injection d' with d1 _
 have:its=its':=by simpa using congrArg Array.toList d1
 subst this
 exact r.inj r'
end
abbrev Cx.wish (X:Cx) (E:Value->Shared->Prop):Cx:={ X with xe:=E }
abbrev Cx.nox (X:Cx):Cx:=X.wish λ_ _=>False
theorem Cx.Ok.wish {X:Cx} (ok:X.Ok) (E:Value->Shared->Prop):(X.wish E).Ok:=
 ⟨ok.mod,ok.kind,ok.glob,ok.blt,ok.above,ok.inj,ok.has,ok.cab,ok.hd,ok.frames,ok.stk,ok.exf,ok.bs,ok.bsz,ok.noex,ok.exfs,ok.funs,ok.frf⟩
theorem Cx.Ok.unwish {X:Cx} {E:Value->Shared->Prop} (ok:(X.wish E).Ok):X.Ok:=
 ⟨ok.mod,ok.kind,ok.glob,ok.blt,ok.above,ok.inj,ok.has,ok.cab,ok.hd,ok.frames,ok.stk,ok.exf,ok.bs,ok.bsz,ok.noex,ok.exfs,ok.funs,ok.frf⟩
section
variable {X:Cx} {pins:List (Addr×Obj)} {σ:St} {H:Hp} {s:Shared} {E:Value->Shared->Prop}
theorem Inv.wish (I:Inv X pins σ H s) (E:Value->Shared->Prop):Inv (X.wish E) pins σ H s:=⟨I.ok.wish E,I.os,I.bare,I.base,I.loc,I.cell,I.free,I.freeC,I.pin,I.hok,I.len⟩
theorem Inv.unwish (I:Inv (X.wish E) pins σ H s):Inv X pins σ H s:=⟨I.ok.unwish,I.os,I.bare,I.base,I.loc,I.cell,I.free,I.freeC,I.pin,I.hok,I.len⟩
theorem SP.unwish {D:X3} {f:Flow} {s':Shared} (h:SP (X.wish E) pins D f s'):SP X pins D f s':=by
 cases f with
 | next=>obtain⟨σ',H',I,q⟩:=h;exact⟨σ',H',I.unwish,q⟩
 | brk=>obtain⟨σ',H',I,q⟩:=h;exact⟨σ',H',I.unwish,q⟩
 | cont=>obtain⟨σ',H',I,q⟩:=h;exact⟨σ',H',I.unwish,q⟩
 | ret u=>obtain⟨v,σ',H',I,r,q⟩:=h;exact⟨v,σ',H',I.unwish,r,q⟩
theorem PSs.nox {st:List Stmt} {t:TS} (h:PSs X.nox st t):PSs X st t:=λpins s σ H D I hw=>
 wpAny_mono (h pins s σ H D (I.wish _) hw) (λ_ _ q=>q.unwish) λ_ _ z=>False.elim z
end
section
variable {X:Cx} {st:Stmt} {L9:List Stmt} {t u:TS} {e:Expr} {te:TE} {pos:Pos}
def B2o:TS:=λD σ H=>D.nx σ H
def X8 (t u:TS):TS:=λD σ H=>t { D with nx:=u D } σ H
theorem M9:PSs X [] B2o:=λ_ _ σ H _ I h=>wpAny_execs_nil ⟨σ,H,I,h⟩
theorem C0 (h1:PS X st t) (h2:PSs X L9 u):PSs X (st::L9) (X8 t u):=by
 intro pins s σ H D I h
 refine wpAny_execs_cons (thn (h1 pins s σ H { D with nx:=u D } I h) λf s1 q=>?_)
 cases f with
 | next=>
  obtain⟨σ',H',I',q⟩:=q
  exact h2 pins s1 σ' H' D I' q
 | ret v=>exact q
 | brk=>exact q
 | cont=>exact q
theorem D1 (h1:PS X st t):PSs X [st] t:=by
 intro pins s σ H D I h
 refine wpAny_execs_cons (thn (h1 pins s σ H D I h) λf s1 q=>?_)
 cases f with
 | next=>exact wpAny_execs_nil q
 | ret v=>exact q
 | brk=>exact q
 | cont=>exact q
theorem Inv.quiet {pins:List (Addr×Obj)} {σ:St} {H:Hp} {s:Shared} (I:Inv X pins σ H s):interactive X.env=false:=by simp [interactive,I.ok.kind]
def A73 (te:TE):TS:=λD σ H=>te σ H λ_ H1=>D.nx σ H1
theorem T6 (he:PE X e te) (hs:swapsWith e none pos.line X.env=pure false:=by rfl):PS X (.Expr e pos) (A73 te):=by
 intro pins s σ H D I h
 exact wpAny_Expr_any (thn (he pins s σ H _ I h) λv s1 zz20=>el5 zz20 λx H1 I1 r1 q1=>⟨σ,H1,I1,q1⟩) I.quiet hs
def A74 (te:TE):TS:=λD σ H=>te σ H D.rt
theorem G6 (he:PE X e te):PS X (.Return (some e) pos) (A74 te):=by
 intro pins s σ H D I h
 exact wpAny_Return_some (thn (he pins s σ H _ I h) λv s1 zz21=>el5 zz21 λx H1 I1 r1 q1=>⟨x,σ,H1,I1,r1,q1⟩)
def A75 (c:TT) (t u:TS):TS:=λD σ H=>c σ H λb H1=>if b=true then t D σ H1 else u D σ H1
theorem K9 {c:Expr} {a b:List Stmt} {tc:TT} (hc:PT X c tc) (ha:PSs X a t) (hb:PSs X b u):PS X (.If c a b pos) (A75 tc t u):=by
 intro pins s σ H D I h
 refine wpAny_If (thn (hc pins s σ H _ I h) λd s1 zz22=>el2 zz22 λH1 I1 q1=>?_)
 cases d with
 | true=>exact ha pins s1 σ H1 D I1 q1
 | false=>exact hb pins s1 σ H1 D I1 q1
end
abbrev TG:=V->St->Hp->(St->Hp->Prop)->Prop
abbrev TGs:=List V->St->Hp->(St->Hp->Prop)->Prop
def PG (X:Cx) (target:Expr) (t:TG):Prop:=
 ∀(pins:List (Addr×Obj)) (s:Shared) (σ:St) (H:Hp) (v:V) (u:Value) (Q:St->Hp->Prop),Inv X pins σ H s->C9 v u->t v σ H Q->
  wpAny (model X.prog X.w) X.A (assign target X.env u) (λ_ s'=>∃σ' H',Inv X pins σ' H' s'/\Q σ' H') X.xe s
def PGs (X:Cx) (ts:List Expr) (t:TGs):Prop:=
 ∀(pins:List (Addr×Obj)) (s:Shared) (σ:St) (H:Hp) (vs:List V) (us:List Value) (Q:St->Hp->Prop),Inv X pins σ H s->C5 vs us->t vs σ H Q->
  wpAny (model X.prog X.w) X.A (assignInOrder ((assignEach ts X.env).map (·.2)) us) (λ_ s'=>∃σ' H',Inv X pins σ' H' s'/\Q σ' H') X.xe s
abbrev A76:=V->V->V->Hp->(Hp->Prop)->Prop
def B2p (X:Cx) (t:A76):Prop:=
 ∀(pins:List (Addr×Obj)) (s:Shared) (σ:St) (H:Hp) (o i v:V) (ov iv u:Value) (Q:Hp->Prop),Inv X pins σ H s->C9 o ov->C9 i iv->C9 v u->t o i v H Q->
  wpAny (model X.prog X.w) X.A (setItem ov iv u) (λ_ s'=>∃H',Inv X pins σ H' s'/\Q H') X.xe s
abbrev TIp:=V->V->Hp->VK->Prop
def PIp (X:Cx) (op:Operator) (t:TIp):Prop:=
 ∀(pins:List (Addr×Obj)) (s:Shared) (σ:St) (H:Hp) (x y:V) (v u:Value) (Q:VK),Inv X pins σ H s->C9 x v->C9 y u->t x y H Q->
  wpAny (model X.prog X.w) X.A (inplaceOp op v u) (EP X pins σ Q) X.xe s
section
variable {X:Cx} {pos:Pos}
def c8 (i:Nat):TG:=λv σ H Q=>Q (σ.set i (some v)) H
theorem c9 {i:Nat} {x:Str} (hN:X.N.Nodup) (hi:X.N[i]?=some x) (hx:Loc X.env.scope x) (hf:X.fn x=true\/X.env.scope.names.lookup x=some .local:=by first | exact .inl rfl | exact .inr rfl | assumption):PG X (.Name x pos) (c8 i):=by
 intro pins s σ H v u Q I r h
 exact wpAny_assign_Name (A9v I hN hi hx r (λs' I'=>⟨_,H,I',h⟩) hf)
def B7f:TGs:=λvs σ H Q=>vs=[]/\Q σ H
def B2q (t:TG) (u:TGs):TGs:=λvs σ H Q=>∃v r,vs=v::r/\t v σ H fun σ' H'=>u r σ' H' Q
theorem B2r:PGs X [] B7f:=by
 intro pins s σ H vs us Q I r h
 obtain⟨e,h⟩:=h
 subst e
 cases r
 exact assignInOrder_nil ⟨σ,H,I,h⟩
theorem A2s {e:Expr} {es:List Expr} {t:TG} {u:TGs} (h1:PG X e t) (h2:PGs X es u)
  (hs:(assignEach (e::es) X.env).map (·.2)=assign e X.env::(assignEach es X.env).map (·.2):=by rfl):PGs X (e::es) (B2q t u):=by
 intro pins s σ H vs us Q I r h
 obtain⟨v,vr,e1,h⟩:=h
 subst e1
 cases r with
 | cons r rr=>
  rw[hs]
  refine assignInOrder_cons (thn (h1 pins s σ H _ _ _ I r h) λ_ s1 zz23=>zz23.elim fun σ1 zz24=>zz24.elim λH1 zz25=>zz25.elim λI1 q1=>?_)
  exact h2 pins s1 σ1 H1 _ _ Q I1 rr q1
def B7g (K:A4) (n:Nat) (t:TGs):TG:=λv σ H Q=>∃a xs,v=.ref a/\SqT K H a xs/\xs.length=n/\t xs σ H Q
theorem B2s {es:List Expr} {k:Nat} {t:TGs} {n:Nat} (hc:X.calm=true) (h:PGs X es t)
  (hn:(assignEach es X.env).length=n:=by rfl) (hst:(assignEach es X.env).findIdx? (·.1)=none:=by rfl):PG X (.Tuple es k pos) (B7g X.K n t):=by
 intro pins s σ H v u Q I r hw
 obtain⟨a,xs,e1,hq,hl,hw⟩:=hw
 subst e1
 cases r
 obtain⟨its,rv,ht,hz⟩:=I.tuple hq
 refine assign_Tuple_tuple (I.ok.hd hc) ht (by simp [hn,<-hl,rv.length]) hst λh' hx=>?_
 have I1:Inv X pins σ H { s with heap:=h' }:=I.kept (t':=s.toks) λb o e=>hx b o (N5 (F9 e)) e
 exact h pins _ σ H xs _ Q I1 (by simpa using rv) hw
def B7h (to ti:TE) (t:A76):TG:=λv σ H Q=>to σ H λo H1=>ti σ H1 λi H2=>t o i v H2 λH3=>Q σ H3
theorem w6 {o i:Expr} {to ti:TE} {t:A76} (ho:PE X o to) (hi:PE X i ti) (hs:B2p X t)
  (ha:∀v,assign (.Subscript o i pos) X.env v=(do
   let ov <-holding [v] (eval o X.env)
   let iv <-holding [v,ov] (eval i X.env)
   standAt pos
   holding [v,ov,iv] (setItem ov iv v)
   release [v,ov,iv] []):=by intro _;rfl):PG X (.Subscript o i pos) (B7h to ti t):=by
 intro pins s σ H v u Q I r h
 rw[ha]
 refine wpAny_bind (wpAny_holding (thn (ho pins s σ H _ I h) λov s1 zz26=>el5 zz26 λx H1 I1 r1 q1=>?_))
 refine wpAny_bind (wpAny_holding (thn (hi pins s1 σ H1 _ I1 q1) λiv s2 zz27=>el5 zz27 λy H2 I2 r2 q2=>?_))
 refine wpAny_bind (wpAny_standAt (wpAny_bind (wpAny_holding (thn (hs pins s2 σ H2 x y v ov iv u _ I2 r1 r2 r q2) λ_ s3 zz28=>el2 zz28 λH3 I3 q3=>?_))))
 exact wpAny_release ⟨σ,H3,I3,q3⟩
def x6 (te:TE) (g:TG):TS:=λD σ H=>te σ H λx H1=>g x σ H1 D.nx
theorem x9 {tg e:Expr} {te:TE} {g:TG} (he:PE X e te) (hg:PG X tg g) (hs:swapsWithSole [tg] e pos.line X.env=pure false:=by rfl) (hw:swappedStores [tg] e X.env=pure none:=by rfl)
  (h1:(assignEach [tg] X.env).map (·.2)=[assign tg X.env]:=by rfl):PS X (.Assign [tg] e pos) (x6 te g):=by
 intro pins s σ H D I h
 refine wpAny_Assign_stores (thn (he pins s σ H _ I h) λv s1 zz29=>el5 zz29 λx H1 I1 r1 q1=>?_) hs hw
 rw[h1]
 exact thn (hg pins s1 σ H1 x v _ I1 r1 q1) λ_ s2 q=>q
theorem C4 {i:Nat} {x:Str} {e:Expr} {te:TE} {pos':Pos} (hN:X.N.Nodup) (hi:X.N[i]?=some x) (hx:Loc X.env.scope x) (he:PE X e te) (hs:swapsWith e (some (.Name x pos')) pos.line X.env=pure false:=by rfl) (hf:X.fn x=true\/X.env.scope.names.lookup x=some .local:=by first | exact .inl rfl | exact .inr rfl | assumption) :
  PS X (.Assign [.Name x pos'] e pos) (x6 te (c8 i)):=by
 intro pins s σ H D I h
 refine wpAny_Assign_Name (thn (he pins s σ H _ I h) λv s1 zz30=>el5 zz30 λy H1 I1 r1 q1=>?_) hs
 exact A9v I1 hN hi hx r1 (λs2 I2=>⟨_,H1,I2,q1⟩) hf
def C4q (to ti te:TE) (tget:V->V->Hp->VK->Prop) (tip:TIp) (tset:A76):TS:=λD σ H=>to σ H λo H1=>ti σ H1 λi H2=>tget o i H2 λx H3=>te σ H3 λy H4=>tip x y H4 λz H5=>tset o i z H5 λH6=>D.nx σ H6
def B7i (X:Cx) (t:V->V->Hp->VK->Prop):Prop:=
 ∀(pins:List (Addr×Obj)) (s:Shared) (σ:St) (H:Hp) (o i:V) (ov iv:Value) (Q:VK),Inv X pins σ H s->C9 o ov->C9 i iv->t o i H Q->
  wpAny (model X.prog X.w) X.A (getItem ov iv) (EP X pins σ Q) X.xe s
theorem B7j {o i e:Expr} {to ti te:TE} {tget:V->V->Hp->VK->Prop} {tip:TIp} {tset:A76} {op:Operator} {tpos:Pos} (ho:PE X o to) (hi:PE X i ti) (hg:B7i X tget) (he:PE X e te) (hp:PIp X op tip) (hs:B2p X tset)
  (ha:∀ov iv new,augStore i ov iv new=(do holding [new,ov,iv] (setItem ov iv new);release [new,ov,iv] [];pure .next):=by intros;rfl):PS X (.AugAssign (.Subscript o i tpos) op e pos) (C4q to ti te tget tip tset):=by
 intro pins s σ H D I h
 refine wpAny_AugAssign_SubscriptAny (thn (ho pins s σ H _ I h) λov s1 zz34=>el5 zz34 λx1 H1 I1 r1 q1=>?_) ha
 refine thn (hi pins s1 σ H1 _ I1 q1) λiv s2 zz35=>el5 zz35 λx2 H2 I2 r2 q2=>?_
 refine thn (hg pins s2 σ H2 x1 x2 ov iv _ I2 r1 r2 q2) λold s3 zz36=>el5 zz36 λx3 H3 I3 r3 q3=>?_
 refine thn (he pins s3 σ H3 _ I3 q3) λv s4 zz37=>el5 zz37 λx4 H4 I4 r4 q4=>?_
 refine thn (hp pins s4 σ H4 x3 x4 old v _ I4 r3 r4 q4) λnew s5 zz38=>el5 zz38 λx5 H5 I5 r5 q5=>?_
 exact thn (hs pins s5 σ H5 x1 x2 x5 ov iv new _ I5 r1 r2 r5 q5) λ_ s6 zz39=>el2 zz39 λH6 I6 q6=>⟨σ,H6,I6,q6⟩
def ipI (f:Int->Int->Int):TIp:=λx y H Q=>∃i j,x=.int i/\y=.int j/\Q (.int (f i j)) H
theorem C4r:PIp X .Add (ipI λi j=>i + j):=by
 intro pins s σ H x y v u Q I r1 r2 h
 obtain⟨i,j,e1,e2,q⟩:=h
 subst e1;subst e2
 obtain⟨t,rfl⟩:=r1
 obtain⟨t',rfl⟩:=r2
 exact iadd_int ⟨.int _,H,I.tok _,⟨_,rfl⟩,q⟩
theorem C4s:PIp X .Sub (ipI λi j=>i - j):=by
 intro pins s σ H x y v u Q I r1 r2 h
 obtain⟨i,j,e1,e2,q⟩:=h
 subst e1;subst e2
 obtain⟨t,rfl⟩:=r1
 obtain⟨t',rfl⟩:=r2
 exact isub_int ⟨.int _,H,I.tok _,⟨_,rfl⟩,q⟩
def B2t (c:TT) (tb:TS):TS:=λD σ H=>∃W:Nat->St->Hp->Prop,(∃m,W m σ H)/\∀m σ H,W m σ H->
 c σ H λb H1=>if b=true then ∃N:St->Hp->Prop,(∀σ' H',N σ' H'->∃m',m' < m/\W m' σ' H')/\tb { D with nx:=N,ct:=N,bk:=D.nx } σ H1 else D.nx σ H1
theorem A9z {c:Expr} {body:List Stmt} {tc:TT} {tb:TS} (hp:PassesOwn (model X.prog X.w) X.A X.env X.xe) (hc:PT X c tc) (hb:PSs X body tb):PS X (.While c body [] pos) (B2t tc tb):=by
 intro pins s σ H D I h
 obtain⟨W,⟨m0,w0⟩,turn⟩:=h
 refine wpAny_While (codeAny_whileLoop (λn s'=>∃σ' H',Inv X pins σ' H' s'/\W n σ' H') ?_ m0 ⟨σ,H,I,w0⟩)
 rintro n s1 ⟨σ1,H1,I1,w1⟩
 refine wpAny_passesOwn hp (thn (hc pins s1 σ1 H1 _ I1 (turn n σ1 H1 w1)) λb s2 zz40=>el2 zz40 λH2 I2 q2=>?_)
 cases b with
 | true=>
  obtain⟨N,hN,q2⟩:=q2
  rw[if_pos rfl]
  refine wpAny_passesOwn hp (thn (hb pins s2 σ1 H2 _ I2 q2) λf s3 q3=>?_)
  cases f with
  | next=>
   obtain⟨σ3,H3,I3,n3⟩:=q3
   obtain⟨m',hm,w3⟩:=hN σ3 H3 n3
   exact⟨m',hm,σ3,H3,I3,w3⟩
  | cont=>
   obtain⟨σ3,H3,I3,n3⟩:=q3
   obtain⟨m',hm,w3⟩:=hN σ3 H3 n3
   exact⟨m',hm,σ3,H3,I3,w3⟩
  | brk=>exact q3
  | ret v=>exact q3
 | false=>
  rw[if_neg R9]
  exact wpAny_execs_nil ⟨σ1,H2,I2,q2⟩
end
structure It where
 go:Nat->Hp->Prop
 yld:Nat->Hp->V->Hp->Prop
 stop:Nat->Hp->Prop
def y7 (X:Cx) (pins:List (Addr×Obj)) (H:Hp) (b:Addr):Prop:=
 H b=none/\b≠X.env.locals/\b∉X.fs/\(b∈X.ex\/X.s₀.heap.objs.size<=b)/\(∀x c,X.env.cells.lookup x=some c->c≠b)/\∀p∈X.pn++pins,p.1≠b
theorem Inv.fpOk {X:Cx} {pins:List (Addr×Obj)} {σ:St} {H H':Hp} {s:Shared} {b:Addr} (I:Inv X pins σ H s) (hb:s.heap.objs.size<=b) (hn:H' b=none):y7 X pins H' b:=by
 refine⟨hn,A2i (V7 I.lt hb),I.nofs hb,.inr (X0 I.sz hb),λx c e z=>?_,λp hp z=>?_⟩
 ·obtain⟨v,q⟩:=I.cell x c e
  exact absurd (V7 q.lt (by rw[z];exact hb)) (A0k _)
 ·exact absurd (V7 (F9 (I.pin p hp).1) (by rw[z];exact hb)) (A0k _)
structure A6a (P:Program) (w:World) (K:A4) (tg:Expr) (J:It) (fp:List Addr) (it:Addr) (tn:Nat->Heap->Prop):Prop where
 mem:it∈fp
 obj:∀i h,tn i h->∀b∈fp,∃o,h.get? b=some o/\∀v,o.data≠.cell v
 keep:∀i h h',tn i h->(∀b∈fp,∀o,h.get? b=some o->h'.get? b=some o)->tn i h'
 item:∀(X:Cx),X.prog=P->X.w=w->X.K=K->X.calm=true->∀(i:Nat) (pins:List (Addr×Obj)) (s:Shared) (σ:St) (H:Hp) (E:Value->Shared->Prop),Inv X pins σ H s->(∀b∈fp,y7 X pins H b)->tn i s.heap->J.go i H->
  wpAny (model P w) X.A (pyNext (.ref it)) (λr s1=>∃u,r=some u/\
   wpAny (model P w) X.A (letOwnedTupleGo tg (.ref it) u) (λ_ s2=>∃x H',Inv X pins σ H' s2/\C9 x u/\J.yld i H x H'/\tn (i + 1) s2.heap/\∀b∈fp,H' b=none) E s1) E s
 done:∀(X:Cx),X.prog=P->X.w=w->X.K=K->X.calm=true->∀(i:Nat) (pins:List (Addr×Obj)) (s:Shared) (σ:St) (H:Hp) (E:Value->Shared->Prop),Inv X pins σ H s->(∀b∈fp,y7 X pins H b)->tn i s.heap->J.stop i H->
  wpAny (model P w) X.A (pyNext (.ref it)) (λr s1=>r=none/\Inv X pins σ H s1) E s
 self:∀(A:Around) (i:Nat) (s:Shared) (Q:Value->Shared->Prop) (E:Value->Shared->Prop),tn i s.heap->Q (.ref it) s->wpAny (model P w) A (pyIter (.ref it)) Q E s
abbrev TI:=St->Hp->(It->Hp->Prop)->Prop
def PIE (X:Cx) (pins:List (Addr×Obj)) (σ:St) (tg:Expr) (R:It->Hp->Prop) (itv:Value) (s2:Shared):Prop:=
 ∃(it:Addr) (fp:List Addr) (tn:Nat->Heap->Prop) (J:It) (H':Hp),itv=.ref it/\Inv X pins σ H' s2/\A6a X.prog X.w X.K tg J fp it tn/\tn 0 s2.heap/\(∀b∈fp,y7 X pins H' b)/\R J H'
def PI (X:Cx) (tg iter:Expr) (wi:TI):Prop:=
 ∀(pins:List (Addr×Obj)) (s:Shared) (σ:St) (H:Hp) (R:It->Hp->Prop),Inv X pins σ H s->wi σ H R->
  wpAny (model X.prog X.w) X.A (eval iter X.env) (λv s1=>wpAny (model X.prog X.w) X.A (pyIter v) (PIE X pins σ tg R) X.xe s1) X.xe s
theorem B2u {M:Model} {A:Around} {E:Value->Shared->Prop} {s:Shared} {tg:Expr} {it:Addr} {u:Value} {o:Obj} {n:String} {vs:Array Value} {Q:Unit->Shared->Prop} (ho:s.heap.get? it=some o) (hc:o.cls=.type n) (hd:o.data=.fields vs)
  (hn:["enumerate", "zip", "dict_itemiterator", "dict_reverseitemiterator", "odict_iterator", "itertools.zip_longest", "itertools.pairwise"].contains n=false) (hQ:Q () s):wpAny M A (letOwnedTupleGo tg (.ref it) u) Q E s:=by
 unfold letOwnedTupleGo
 cases tg <;> first
  | exact wpAny_pure hQ
  | (cases u <;> first
    | exact wpAny_pure hQ
    | (refine wpAny_bind (wpAny_load ho ?_)
       rw[hc,hd]
       show wpAny M A (if (["enumerate", "zip", "dict_itemiterator", "dict_reverseitemiterator", "odict_iterator", "itertools.zip_longest", "itertools.pairwise"].contains n&&vs[0]? == some (rawInt _))=true then _ else _) Q E s
       rw[if_neg (by intro h;rw[hn,Bool.false_and] at h;cases h)]
       exact wpAny_pure hQ))
def Itl (K:A4) (a:Addr):It:=
 ⟨λi H=>∃xs x,SqL K H a xs/\xs[i]?=some x,λi H x H'=>H'=H/\∀xs,SqL K H a xs->xs[i]?=some x,λi H=>∃xs,SqL K H a xs/\xs.length<=i⟩
def Itr (lo:Int) (n:Nat):It:=⟨λi _=>i < n,λi H x H'=>H'=H/\x=.int (lo + i),λi _=>n<=i⟩
theorem C4t {P:Program} {w:World} {K:A4} {tg:Expr} (a it:Addr):A6a P w K tg (Itl K a) [it] it (λi h=>h.IsListIter it a i) where
 mem:=by simp
 obj:=λi h st b hb=>by
  have e:b=it:=by simpa using hb
  subst e
  obtain⟨o,e,c,d⟩:=st
  exact⟨o,e,λv z=>by rw[d] at z;cases z⟩
 keep:=λi h h' st k=>st.at λo e=>k it (by simp) o e
 item:=by
  intro X hP hw hK hc i pins s σ H E I hf st hg
  subst hP hw hK
  obtain⟨xs,x,hq,hx⟩:=hg
  obtain⟨its,rv,p,hz⟩:=I.list hq
  obtain⟨u,hu,ru⟩:=rv.get hx
  obtain⟨f0,f1,f2,f3,f4,f5⟩:=hf it (by simp)
  refine wpAny_pyNext_list_item st p.isList (x:=u) (by simpa using hu) λh' st' sb=>?_
  have I1:Inv X pins σ H { s with heap:=h' }:=I.turned (t':=s.toks) (λb o hb e=>(sb.2 b hb).trans e) f0 f1 f3 f4 f5
  obtain⟨o,e,c,d⟩:=id st'
  exact⟨u,rfl,B2u (s:={ s with heap:=h' }) e c d DD ⟨x,H,I1,ru,⟨rfl,λys hy=>by rw[I.list_inj hy hq];exact hx⟩,st',λb hb=>(hf b hb).1⟩⟩
 done:=by
  intro X hP hw hK hc i pins s σ H E I hf st hg
  subst hP hw hK
  obtain⟨xs,hq,hx⟩:=hg
  obtain⟨its,rv,p,hz⟩:=I.list hq
  obtain⟨f0,f1,f2,f3,f4,f5⟩:=hf it (by simp)
  have hl:=rv.length
  exact wpAny_pyNext_list_end (I.ok.hd hc) st p.isList (by simp;lia) λh' eb=>⟨rfl,I.turned (t':=s.toks) (λb o hb e=>eb b o hb e) f0 f1 f3 f4 f5⟩
 self:=λ_ _ _ _ _ st h=>wpAny_pyIter_listiter st h
theorem C4u {P:Program} {w:World} {K:A4} {tg:Expr} (it:Addr) (lo:Int) (n:Nat):A6a P w K tg (Itr lo n) [it] it (λi h=>IsRangeIter h it (lo + (i:Nat) * 1) ((n:Int) - (i:Nat)) 1) where
 mem:=by simp
 obj:=λi h st b hb=>by
  have e:b=it:=by simpa using hb
  subst e
  exact⟨_,st,λv z=>by
   have z':Data.fields _=Data.cell v:=z
   cases z'⟩
 keep:=λi h h' st k=>k it (by simp) _ st
 item:=by
  intro X hP hw hK hc i pins s σ H E I hf st hg
  subst hP hw hK
  obtain⟨f0,f1,f2,f3,f4,f5⟩:=hf it (by simp)
  have W:=Walks.range (prog:=X.prog) (w:=X.w) (I.ok.hd hc) it lo 1 n
  refine W.item i s _ _ hg st λv h' tk hv st' kk=>?_
  obtain⟨t,rfl⟩:=hv
  have I1:Inv X pins σ H { s with heap:=h',toks:=tk }:=I.turned (λb o hb e=>kk b o (by simpa using hb) e) f0 f1 f3 f4 f5
  refine⟨_,rfl,B2u (s:={ s with heap:=h',toks:=tk }) (n:= "range_iterator") st' rfl rfl DD ⟨.int (lo + i),H,I1,⟨t,?_⟩,⟨rfl,rfl⟩,st',λb hb=>(hf b hb).1⟩⟩
  rw[Int.mul_one]
 done:=by
  intro X hP hw hK hc i pins s σ H E I hf st hg
  subst hP hw hK
  obtain⟨f0,f1,f2,f3,f4,f5⟩:=hf it (by simp)
  exact wpAny_pyNext_range_end (I.ok.hd hc) st (by have:n<=i:=hg;lia) λh' eb=>⟨rfl,I.turned (t':=s.toks) (λb o hb e=>eb b o hb e) f0 f1 f3 f4 f5⟩
 self:=λ_ _ _ _ _ st h=>wpAny_pyIter_rangeiter st h
section
variable {X:Cx} {tg:Expr}
def C4v (K:A4) (tl:TE):TI:=fun σ H R=>tl σ H λx H1=>∃a,x=.ref a/\(∃xs,SqL K H1 a xs)/\R (Itl K a) H1
theorem A0p {l:Expr} {tl:TE} (hl:PE X l tl):PI X tg l (C4v X.K tl):=by
 intro pins s σ H R I h
 refine thn (hl pins s σ H _ I h) λv s1 zz41=>el5 zz41 λx H1 I1 r1 q1=>?_
 obtain⟨a,e,⟨xs,hq⟩,q⟩:=q1
 subst e
 cases r1
 obtain⟨its,rv,p,hz⟩:=I1.list hq
 refine wpAny_pyIter_list p.isList ?_
 refine⟨s1.heap.objs.size,[s1.heap.objs.size],_,_,H1,rfl,I1.kept (t':=s1.toks) λb o e=>L6 _ e,C4t a _,⟨_,V8 _ rfl,rfl,rfl⟩,λb hb=>?_,q⟩
 have e:b=s1.heap.objs.size:=by simpa using hb
 subst e
 exact I1.fpOk (F7 _) (I1.hok.fresh (F7 _))
theorem C4w {pins:List (Addr×Obj)} {σ:St} {H:Hp} {s:Shared} {R:It->Hp->Prop} {E:Value->Shared->Prop} {lo hi:Int} {t u v:Tok} {tk:Nat} (I:Inv X pins σ H s) (h1:-(2 ^ 62)<=lo) (h2:lo < 2 ^ 62) (h3:-(2 ^ 62)<=hi) (h4:hi < 2 ^ 62)
  (q:R (Itr lo (hi - lo).toNat) H):wpAny (model X.prog X.w) X.A (pyIter (.ref s.heap.objs.size)) (PIE X pins σ tg R) E { s with heap:=s.heap.push { cls:=.type "range",data:=.fields #[.int lo t,.int hi u,.int 1 v] },toks:=tk }:=by
 refine wpAny_pyIter_range (IsRange.new ..) (small_one h1 h2 h3 h4) ?_
 have I1:Inv X pins σ H { s with heap:=s.heap.push { cls:=.type "range",data:=.fields #[.int lo t,.int hi u,.int 1 v] },toks:=tk }:=I.kept λb o e=>L6 _ e
 refine⟨(s.heap.push { cls:=.type "range",data:=.fields #[.int lo t,.int hi u,.int 1 v] }).objs.size,[(s.heap.push { cls:=.type "range",data:=.fields #[.int lo t,.int hi u,.int 1 v] }).objs.size],_,_,H,rfl,
  I1.kept (t':=tk) λb o e=>L6 _ e,C4u _ lo (hi - lo).toNat,?_,λb hb=>?_,q⟩
 ·have e1:lo + ((0:Nat):Int) * 1=lo:=by simp
  have e2:(((hi - lo).toNat:Nat):Int) - ((0:Nat):Int)=Builtin.Range.rangeSize lo hi 1:=by rw[rangeSize_one];split <;> lia
  show IsRangeIter _ _ (lo + ((0:Nat):Int) * 1) ((((hi - lo).toNat:Nat):Int) - ((0:Nat):Int)) 1
  rw[e1,e2]
  exact V8 _ rfl
 ·have e:b=(s.heap.push { cls:=.type "range",data:=.fields #[.int lo t,.int hi u,.int 1 v] }).objs.size:=by simpa using hb
  subst e
  exact I1.fpOk (F7 _) (I1.hok.fresh (F7 _))
def B7k (ta:TA):TI:=fun σ H R=>ta σ H λvs H1=>∃j:Int,vs=[.int j]/\-(2 ^ 62)<=j/\j < 2 ^ 62/\R (Itr 0 j.toNat) H1
theorem A2t {a:Expr} {ta:TA} {p pos:Pos} (hg:Gl X "range") (hm:X.mg "range" = none) (ha:PA X [a] ta) (hs:starEach [a] X.env=[(false,eval a X.env)]:=by rfl):PI X tg (.Call (.Name "range" p) [a] [] pos) (B7k ta):=by
 intro pins s σ H R I h
 refine Call_ (A2p I hg hm boot_range (PyProof.Rows.callWith_type1 (thn (ha pos pins s σ H _ I h) λus s1 zz43=>el5 zz43 λvs H1 I1 r1 q1=>?_) hs rfl))
 obtain⟨j,e,q1,q2,q⟩:=q1
 subst e
 cases r1 with
 | cons r rr=>
  cases rr
  obtain⟨t,rfl⟩:=r
  exact call_range_1 (C4w I1 (by lia) (by lia) q1 q2 (by simpa using q))
def B7l (wi:TI) (g:TG) (tb:TS):TS:=λD σ H=>wi σ H λJ H1=>∃W:Nat->Nat->St->Hp->Prop,(∃m,W 0 m σ H1)/\∀i m σ H,W i m σ H->
 (J.stop i H/\D.nx σ H)\/(J.go i H/\∃N:St->Hp->Prop,(∀σ' H',N σ' H'->∃m',m' < m/\W (i + 1) m' σ' H')/\∀x H',J.yld i H x H'->g x σ H' fun σ2 H2=>tb { D with nx:=N,ct:=N,bk:=D.nx } σ2 H2)
def A77 (fp:List Addr) (h:Heap):List (Addr×Obj):=fp.filterMap λb=>(h.get? b).map λo=>(b,o)
theorem A90 {fp:List Addr} {h:Heap} {b:Addr} {o:Obj} (hb:b∈fp) (e:h.get? b=some o):(b,o)∈A77 fp h:=B6t.mpr ⟨b,hb,by rw[e];rfl⟩
theorem C4x {fp:List Addr} {h:Heap} {p:Addr×Obj} (hp:p∈A77 fp h):p.1∈fp/\h.get? p.1=some p.2:=by
 obtain⟨b,hb,e⟩:=B6t.mp hp
 cases q:h.get? b with
 | none=>rw[q] at e;cases e
 | some o=>
  rw[q] at e
  have e':(b,o)=p:=Option.some.inj e
  subst e'
  exact⟨hb,q⟩
theorem Inv.pinned {pins:List (Addr×Obj)} {σ:St} {H:Hp} {s:Shared} {fp:List Addr} (I:Inv X pins σ H s) (hf:∀b∈fp,y7 X pins H b) (ho:∀b∈fp,∃o,s.heap.get? b=some o/\∀v,o.data≠.cell v):Inv X (pins++A77 fp s.heap) σ H s:=
 I.pins_of λp hp=>(A0l.mp hp).elim (λz=>I.pin p (p8 _ z)) λz=>by
  obtain⟨hb,e⟩:=C4x z
  obtain⟨f0,f1,f2,_⟩:=hf p.1 hb
  obtain⟨o,e',d⟩:=ho p.1 hb
  rw[e] at e';cases e'
  exact⟨e,f0,f1,f2,d⟩
theorem Inv.unpinned {pins pl:List (Addr×Obj)} {σ:St} {H:Hp} {s:Shared} (I:Inv X (pins++pl) σ H s):Inv X pins σ H s:=I.pins_of λp hp=>I.pin p (p8 _ (A9g _ hp))
theorem A1u {iter:Expr} {body:List Stmt} {wi:TI} {g:TG} {tb:TS} {pos:Pos} (hp:PassesOwn (model X.prog X.w) X.A X.env X.xe) (hc:X.calm=true) (hi:PI X tg iter wi) (hg:PG X tg g) (hb:PSs X body tb)
  (hs:∀x,foldedSetIterable iter X.env x=pure x:=by intro _;rfl):PS X (.For tg iter body [] pos) (B7l wi g tb):=by
 intro pins s σ H D I h
 refine wpAny_For (thn (hi pins s σ H _ I h) λv s1 h1=>thn h1 λitv s2 h2=>?_) hs
 obtain⟨it,fp,tn,J,H2,e,I2,T,st2,f2,W,⟨m0,w0⟩,turn⟩:=h2
 subst e
 have stat:∀{H':Hp},(∀b∈fp,H' b=none)->∀b∈fp,y7 X pins H' b:=λhn b hb=>⟨hn b hb,(f2 b hb).2⟩
 refine codeAny_forLoop_any (λn s'=>∃i σ' H',Inv X pins σ' H' s'/\tn i s'.heap/\(∀b∈fp,H' b=none)/\W i n σ' H') ?_ m0 ⟨0,σ,H2,I2,st2,λb hb=>(f2 b hb).1,w0⟩
 rintro n s3 ⟨i,σ3,H3,I3,st3,fr3,w3⟩
 rcases turn i n σ3 H3 w3 with ⟨stop,qn⟩ | ⟨go,N,hN,step⟩
 ·refine wpAny_passesOwn hp (thn (T.done X rfl rfl rfl hc i pins s3 σ3 H3 X.xe I3 (stat fr3) st3 stop) λr s4 zz45=>zz45.elim λhr I4=>?_)
  subst hr
  exact wpAny_execs_nil ⟨σ3,H3,I4,qn⟩
 ·refine wpAny_passesOwn hp (thn (T.item X rfl rfl rfl hc i pins s3 σ3 H3 X.xe I3 (stat fr3) st3 go) λr s4 zz46=>el2 zz46 λu hr h4=>?_)
  subst hr
  refine wpAny_passesOwn hp (thn h4 λ_ s5 zz47=>zz47.elim λx zz48=>zz48.elim λH5 zz49=>zz49.elim λI5 zz50=>zz50.elim λr5 zz51=>zz51.elim λy5 zz52=>zz52.elim λst5 fr5=>?_)
  have I5':=I5.pinned (stat fr5) (T.obj _ _ st5)
  refine wpAny_passesOwn hp (thn (hg _ s5 σ3 H5 x u _ I5' r5 (step x H5 y5)) λ_ s6 zz53=>zz53.elim fun σ6 zz54=>zz54.elim λH6 zz55=>zz55.elim λI6 q6=>?_)
  refine wpAny_passesOwn hp (thn (hb _ s6 σ6 H6 _ I6 q6) λf s7 q7=>?_)
  have again:∀{σ7:St} {H7:Hp},Inv X (pins++A77 fp s5.heap) σ7 H7 s7->N σ7 H7->∃m,m < n/\∃i σ' H',Inv X pins σ' H' s7/\tn i s7.heap/\(∀b∈fp,H' b=none)/\W i m σ' H':=λ{σ7 H7} I7 n7=>by
   obtain⟨m',hm,w7⟩:=hN σ7 H7 n7
   refine⟨m',hm,i + 1,σ7,H7,I7.unpinned,T.keep _ _ _ st5 λb hb o e=>(I7.pin (b,o) (p8 _ (p8 _ (A90 hb e)))).1,λb hb=>?_,w7⟩
   obtain⟨o,e,d⟩:=T.obj _ _ st5 b hb
   exact (I7.pin (b,o) (p8 _ (p8 _ (A90 hb e)))).2.1
  cases f with
  | next=>obtain⟨σ7,H7,I7,n7⟩:=q7;exact again I7 n7
  | cont=>obtain⟨σ7,H7,I7,n7⟩:=q7;exact again I7 n7
  | brk=>obtain⟨σ7,H7,I7,q7⟩:=q7;exact⟨σ7,H7,I7.unpinned,q7⟩
  | ret v=>obtain⟨x7,σ7,H7,I7,r7,q7⟩:=q7;exact⟨x7,σ7,H7,I7.unpinned,r7,q7⟩
end
theorem B7m {K:A4} {a:Addr} {xs:List V} {g:TG} {tb:TS} {D:X3} {σ:St} {H:Hp} (Pv:Nat->St->Hp->Prop) (h0:Pv 0 σ H) (hl:∀i σ H,i<=xs.length->Pv i σ H->SqL K H a xs)
  (hs:∀i x σ H,xs[i]?=some x->Pv i σ H->g x σ H fun σ2 H2=>tb { D with nx:=Pv (i + 1),ct:=Pv (i + 1),bk:=D.nx } σ2 H2) (hd:∀σ H,Pv xs.length σ H->D.nx σ H) :
  ∃W:Nat->Nat->St->Hp->Prop,(∃m,W 0 m σ H)/\∀i m σ H,W i m σ H->
   ((Itl K a).stop i H/\D.nx σ H)\/((Itl K a).go i H/\∃N:St->Hp->Prop,(∀σ' H',N σ' H'->∃m',m' < m/\W (i + 1) m' σ' H')/\∀x H',(Itl K a).yld i H x H'->g x σ H' fun σ2 H2=>tb { D with nx:=N,ct:=N,bk:=D.nx } σ2 H2):=by
 refine⟨λi m σ H=>m=xs.length - i/\i<=xs.length/\Pv i σ H,⟨xs.length,by simp,P0 _,h0⟩,?_⟩
 rintro i m σ H ⟨rfl,hi,p⟩
 have q:=hl i σ H hi p
 by_cases hlt:i < xs.length
 ·refine .inr ⟨⟨xs,xs[i],q,by simp [hlt]⟩,Pv (i + 1),fun σ' H' p'=>⟨xs.length - (i + 1),by lia,rfl,hlt,p'⟩,λx H' y=>?_⟩
  obtain⟨e,y⟩:=y
  subst e
  exact hs i x σ _ (y xs q) p
 ·have e:i=xs.length:=by lia
  subst e
  exact .inl ⟨⟨xs,q,F7 _⟩,hd σ H p⟩
theorem C4y {lo:Int} {n:Nat} {g:TG} {tb:TS} {D:X3} {σ:St} {H:Hp} (Pv:Nat->St->Hp->Prop) (h0:Pv 0 σ H)
  (hs:∀i σ H,i < n->Pv i σ H->g (.int (lo + i)) σ H fun σ2 H2=>tb { D with nx:=Pv (i + 1),ct:=Pv (i + 1),bk:=D.nx } σ2 H2) (hd:∀σ H,Pv n σ H->D.nx σ H) :
  ∃W:Nat->Nat->St->Hp->Prop,(∃m,W 0 m σ H)/\∀i m σ H,W i m σ H->
   ((Itr lo n).stop i H/\D.nx σ H)\/((Itr lo n).go i H/\∃N:St->Hp->Prop,(∀σ' H',N σ' H'->∃m',m' < m/\W (i + 1) m' σ' H')/\∀x H',(Itr lo n).yld i H x H'->g x σ H' fun σ2 H2=>tb { D with nx:=N,ct:=N,bk:=D.nx } σ2 H2):=by
 refine⟨λi m σ H=>m=n - i/\i<=n/\Pv i σ H,⟨n,by simp,P0 _,h0⟩,?_⟩
 rintro i m σ H ⟨rfl,hi,p⟩
 by_cases hlt:i < n
 ·refine .inr ⟨hlt,Pv (i + 1),fun σ' H' p'=>⟨n - (i + 1),by lia,rfl,hlt,p'⟩,λx H' y=>?_⟩
  obtain⟨e,y⟩:=y
  subst e y
  exact hs i σ _ hlt p
 ·have e:i=n:=by lia
  subst e
  exact .inl ⟨F7 _,hd σ H p⟩
theorem C4z {c:TT} {tb:TS} {D:X3} {σ:St} {H:Hp} (Pv:St->Hp->Prop) (μ:St->Hp->Nat) (h0:Pv σ H)
  (hs:∀σ H,Pv σ H->c σ H λb H1=>if b=true then tb { D with nx:=fun σ' H'=>Pv σ' H'/\μ σ' H' < μ σ H,ct:=fun σ' H'=>Pv σ' H'/\μ σ' H' < μ σ H,bk:=D.nx } σ H1 else D.nx σ H1)
  (mono:∀σ H Q Q',(∀b H1,Q b H1->Q' b H1)->c σ H Q->c σ H Q'):B2t c tb D σ H:=by
 refine⟨λm σ H=>m=μ σ H/\Pv σ H,⟨_,rfl,h0⟩,?_⟩
 rintro m σ H ⟨rfl,p⟩
 refine mono σ H _ _ (λb H1 q=>?_) (hs σ H p)
 cases b with
 | true=>exact⟨_,fun σ' H' zz56=>zz56.elim λp' l=>⟨_,l,rfl,p'⟩,q⟩
 | false=>exact q
abbrev R2:=V->V->Hp->VK->Prop
def OpR (X:Cx) (f:Value->Value->Sem Value) (r:R2):Prop:=
 ∀(pins:List (Addr×Obj)) (s:Shared) (σ:St) (H:Hp) (x y:V) (v u:Value) (Q:VK),Inv X pins σ H s->C9 x v->C9 y u->r x y H Q->
  wpAny (model X.prog X.w) X.A (f v u) (EP X pins σ Q) X.xe s
def UnR (X:Cx) (f:Value->Sem Value) (r:V->Hp->VK->Prop):Prop:=
 ∀(pins:List (Addr×Obj)) (s:Shared) (σ:St) (H:Hp) (x:V) (v:Value) (Q:VK),Inv X pins σ H s->C9 x v->r x H Q->
  wpAny (model X.prog X.w) X.A (f v) (EP X pins σ Q) X.xe s
def X9 (X:Cx) (f:Value) (r:List V->Hp->VK->Prop):Prop:=
 ∀(pins:List (Addr×Obj)) (s:Shared) (σ:St) (H:Hp) (xs:List V) (us:List Value) (Q:VK),Inv X pins σ H s->C5 xs us->r xs H Q->
  wpAny (model X.prog X.w) X.A (call f us) (EP X pins σ Q) X.xe s
def tOp (r:R2) (ta tb:TE):TE:=fun σ H Q=>ta σ H λx H1=>tb σ H1 λy H2=>r x y H2 Q
def tUn (r:V->Hp->VK->Prop) (ta:TE):TE:=fun σ H Q=>ta σ H λx H1=>r x H1 Q
def rI (C:Int->Int->Prop) (g:Int->Int->V):R2:=λx y H Q=>∃i j,x=.int i/\y=.int j/\C i j/\Q (g i j) H
def rI0 (g:Int->Int->V):R2:=λx y H Q=>∃i j,x=.int i/\y=.int j/\Q (g i j) H
def rU (g:Int->V):V->Hp->VK->Prop:=λx H Q=>∃i,x=.int i/\Q (g i) H
section
variable {X:Cx} {a b c:Expr} {ta tb tc:TE} {pos:Pos}
theorem B2v (ha:PE X a ta) (hb:PE X b tb) {pins:List (Addr×Obj)} {s:Shared} {σ:St} {H:Hp} {R:V->V->Hp->Prop} (I:Inv X pins σ H s)
  (h:ta σ H λx H1=>tb σ H1 λy H2=>R x y H2) {Q:Value->Shared->Prop} {f:Value->Value->Sem Value}
  (hf:∀v u s2 x y H2,Inv X pins σ H2 s2->C9 x v->C9 y u->R x y H2->wpAny (model X.prog X.w) X.A (f v u) Q X.xe s2) :
  wpAny (model X.prog X.w) X.A (eval a X.env) (λv s₁=>wpAny (model X.prog X.w) X.A (eval b X.env) (λu s₂=>wpAny (model X.prog X.w) X.A (f v u) Q X.xe s₂) X.xe s₁) X.xe s:=by
 refine thn (ha pins s σ H _ I h) λv s1 zz57=>el5 zz57 λx H1 I1 r1 q1=>?_
 refine thn (hb pins s1 σ H1 _ I1 q1) λu s2 zz58=>el5 zz58 λy H2 I2 r2 q2=>?_
 exact hf v u s2 x y H2 I2 r1 r2 q2
theorem K6 {op:Operator} {r:R2} (ho:OpR X (binaryOp op) r) (ha:PE X a ta) (hb:PE X b tb):PE X (.BinOp a op b pos) (tOp r ta tb):=by
 intro pins s σ H Q I h
 exact wpAny_BinOp (B2v ha hb I h λv u s2 x y H2 I2 rx ry q=>ho pins s2 σ H2 x y v u Q I2 rx ry q)
theorem B7n {op:UnaryOp} {r:V->Hp->VK->Prop} (ho:UnR X (unaryOp op) r) (ha:PE X a ta):PE X (.UnaryOp op a pos) (tUn r ta):=by
 intro pins s σ H Q I h
 exact UnaryOp_ (thn (ha pins s σ H _ I h) λv s1 zz59=>el5 zz59 λx H1 I1 r1 q1=>ho pins s1 σ H1 x v Q I1 r1 q1)
theorem opI {f:Value->Value->Sem Value} {C:Int->Int->Prop} {g:Int->Int->Int}
  (rule:∀(i j:Int) (t u:Tok) (s:Shared) (Q:Value->Shared->Prop) (E:Value->Shared->Prop),C i j->Q (.int (g i j) s.toks) { s with toks:=s.toks + 1 }->wpAny (model X.prog X.w) X.A (f (.int i t) (.int j u)) Q E s) :
  OpR X f (rI C λi j=>.int (g i j)):=by
 intro pins s σ H x y v u Q I rx ry h
 obtain⟨i,j,rfl,rfl,hc,q⟩:=h
 obtain⟨t,rfl⟩:=rx
 obtain⟨t',rfl⟩:=ry
 exact rule i j t t' s _ _ hc ⟨.int (g i j),H,I.tok _,⟨_,rfl⟩,q⟩
theorem B7o {f:Value->Value->Sem Value} {g:Int->Int->Int}
  (rule:∀(i j:Int) (t u:Tok) (s:Shared) (Q:Value->Shared->Prop) (E:Value->Shared->Prop),Q (.int (g i j) s.toks) { s with toks:=s.toks + 1 }->wpAny (model X.prog X.w) X.A (f (.int i t) (.int j u)) Q E s) :
  OpR X f (rI0 λi j=>.int (g i j)):=by
 intro pins s σ H x y v u Q I rx ry h
 obtain⟨i,j,rfl,rfl,q⟩:=h
 obtain⟨t,rfl⟩:=rx
 obtain⟨t',rfl⟩:=ry
 exact rule i j t t' s _ _ ⟨.int (g i j),H,I.tok _,⟨_,rfl⟩,q⟩
theorem A91 {f:Value->Value->Sem Value} {g:Int->Int->Bool}
  (rule:∀(i j:Int) (t u:Tok) (s:Shared) (Q:Value->Shared->Prop) (E:Value->Shared->Prop),Q (.bool (g i j)) s->wpAny (model X.prog X.w) X.A (f (.int i t) (.int j u)) Q E s) :
  OpR X f (rI0 λi j=>.bl (g i j)):=by
 intro pins s σ H x y v u Q I rx ry h
 obtain⟨i,j,rfl,rfl,q⟩:=h
 obtain⟨t,rfl⟩:=rx
 obtain⟨t',rfl⟩:=ry
 exact rule i j t t' s _ _ ⟨.bl (g i j),H,I,rfl,q⟩
def B2w (i j:Int):Prop:=0<=j/\j<=1000000/\i.natAbs < 2 ^ 64
def A78 (i j:Int):Prop:=(-(2 ^ 64) < i/\i < 2 ^ 64)\/(-(2 ^ 64) < j/\j < 2 ^ 64)
theorem A78.ok {i j:Int} (h:A78 i j):IntMulOk i j:=by
 rcases h with ⟨h1,h2⟩ | ⟨h1,h2⟩
 ·exact .of_left (intBits_le_64 h1 h2)
 ·exact .of_right (intBits_le_64 h1 h2)
theorem Q9:OpR X (binaryOp .Add) (rI0 λi j=>.int (i + j)):=B7o λ_ _ _ _ _ _ _ q=>add_int q
theorem A2u:OpR X (binaryOp .Sub) (rI0 λi j=>.int (i - j)):=B7o λ_ _ _ _ _ _ _ q=>sub_int q
theorem A1v:OpR X (binaryOp .Mult) (rI A78 λi j=>.int (i * j)):=opI λ_ _ _ _ _ _ _ hc q=>mul_int q hc.ok
theorem A2v:OpR X (binaryOp .Mod) (rI (λ_ j=>0 < j) λi j=>.int (i % j)):=opI λi j _ _ _ _ _ hc q=>by
 have h1:(0:Int) < j:=hc
 exact mod_int' (by lia) (by rw[Int.fmod_eq_emod_of_nonneg i (by lia)];exact q)
theorem S2:OpR X (binaryOp .Pow) (rI B2w λi j=>.int (i ^ j.toNat)):=opI λ_ _ _ _ _ _ _ hc q=>pow_int_small hc.1 hc.2.1 hc.2.2 q
theorem unI {f:Value->Sem Value} {g:Int->Int}
  (rule:∀(i:Int) (t:Tok) (s:Shared) (Q:Value->Shared->Prop) (E:Value->Shared->Prop),Q (.int (g i) s.toks) { s with toks:=s.toks + 1 }->wpAny (model X.prog X.w) X.A (f (.int i t)) Q E s) :
  UnR X f (rU λi=>.int (g i)):=by
 intro pins s σ H x v Q I rx h
 obtain⟨i,rfl,q⟩:=h
 obtain⟨t,rfl⟩:=rx
 exact rule i t s _ _ ⟨.int (g i),H,I.tok _,⟨_,rfl⟩,q⟩
theorem B7p:UnR X (unaryOp .USub) (rU λi=>.int (-i)):=unI λ_ _ _ _ _ q=>neg_int q
end
def C40:V->V->Bool
 | .non,.non=>true | .non,.int _=>true | .int _,.non=>true | .non,.bl _=>true | .bl _,.non=>true | .non,.str _=>true | .str _,.non=>true
 | .int _,.int _=>true | .bl _,.bl _=>true | .str _,.str _=>true | .byt _,.byt _=>true
 | .int _,.str _=>true | .str _,.int _=>true | .bl _,.str _=>true | .str _,.bl _=>true
 | _,_=>false
def rEq:R2:=λx y H Q=>C40 x y=true/\Q (.bl (decide (x=y))) H
theorem C41 {i j:Int}:decide (V.int i=V.int j)=(i == j):=by
 rw[B6u]
 simp
theorem C42 {i j:Bool}:decide (V.bl i=V.bl j)=(i == j):=by
 rw[B6u]
 simp
theorem C43 {i j:Str}:decide (V.str i=V.str j)=(i == j):=by
 rw[B6u]
 simp
theorem C44 {i j:Array UInt8}:decide (V.byt i=V.byt j)=(i.toList == j.toList):=by
 rw[B6u]
 cases i
 cases j
 simp
section
variable {X:Cx} {a b c:Expr} {ta tb tc:TE} {pos:Pos}
theorem X4 {pins:List (Addr×Obj)} {σ:St} {H:Hp} {s:Shared} {Q:VK} {k k':Bool} (I:Inv X pins σ H s) (q:Q (.bl k) H) (e:k=k'):EP X pins σ Q (.bool k') s:=by
 subst e
 exact⟨.bl k,H,I,rfl,q⟩
theorem y8:OpR X (compareOp .Eq) rEq:=by
 intro pins s σ H x y v u Q I rx ry h
 obtain⟨hs,q⟩:=h
 cases x with
 | non=>
  cases rx
  cases y with
  | non=>cases ry;exact PySem.EqNone.eq_none_none (X4 I q (by simp))
  | bl j=>cases ry;exact PySem.EqNone.eq_none_bool (X4 I q (by simp))
  | int j=>obtain⟨t',rfl⟩:=ry;exact PySem.EqNone.eq_none_int (X4 I q (by simp))
  | str j=>obtain⟨t',rfl⟩:=ry;exact PySem.EqNone.eq_none_str (X4 I q (by simp))
  | _=>exact absurd (show false=true from hs) R9
 | bl i=>
  cases rx
  cases y with
  | non=>cases ry;exact PySem.EqNone.eq_bool_none (X4 I q (by simp))
  | bl j=>cases ry;exact eq_bool (X4 I q C42)
  | str j=>obtain⟨t',rfl⟩:=ry;exact PySem.EqMixed.eq_bool_str (X4 I q (by simp))
  | _=>exact absurd (show false=true from hs) R9
 | int i=>
  obtain⟨t,rfl⟩:=rx
  cases y with
  | non=>cases ry;exact PySem.EqNone.eq_int_none (X4 I q (by simp))
  | int j=>obtain⟨t',rfl⟩:=ry;exact eq_int (X4 I q C41)
  | str j=>obtain⟨t',rfl⟩:=ry;exact PySem.EqMixed.eq_int_str (X4 I q (by simp))
  | _=>exact absurd (show false=true from hs) R9
 | str i=>
  obtain⟨t,rfl⟩:=rx
  cases y with
  | non=>cases ry;exact PySem.EqNone.eq_str_none (X4 I q (by simp))
  | bl j=>cases ry;exact PySem.EqMixed.eq_str_bool (X4 I q (by simp))
  | int j=>obtain⟨t',rfl⟩:=ry;exact PySem.EqMixed.eq_str_int (X4 I q (by simp))
  | str j=>obtain⟨t',rfl⟩:=ry;exact eq_str (X4 I q C43)
  | _=>exact absurd (show false=true from hs) R9
 | byt i=>
  obtain⟨t,rfl⟩:=rx
  cases y with
  | byt j=>obtain⟨t',rfl⟩:=ry;exact PySem.W.eq_bytes (X4 I q C44)
  | _=>exact absurd (show false=true from hs) R9
 | _=>cases y <;> exact absurd (show false=true from hs) R9
theorem A05:OpR X (compareOp .Lt) (rI0 λi j=>.bl (decide (i < j))):=A91 λ_ _ _ _ _ _ _ q=>lt_int q
theorem j7:OpR X (compareOp .LtE) (rI0 λi j=>.bl (decide (i<=j))):=A91 λ_ _ _ _ _ _ _ q=>le_int q
theorem A3t:OpR X (compareOp .Gt) (rI0 λi j=>.bl (decide (j < i))):=A91 λ_ _ _ _ _ _ _ q=>gt_int q
theorem B2x:OpR X (compareOp .GtE) (rI0 λi j=>.bl (decide (j<=i))):=A91 λ_ _ _ _ _ _ _ q=>ge_int q
theorem y9:OpR X (compareOp .Is) (λx y H Q=>y=.non/\Q (.bl (decide (x=.non))) H):=by
 intro pins s σ H x y v u Q I rx ry h
 obtain⟨rfl,q⟩:=h
 cases ry
 refine is_none_gen (X4 I q ?_)
 cases x <;> first
  | (cases rx;rfl)
  | (obtain⟨t,rfl⟩:=rx;rfl)
theorem A79:OpR X (compareOp .IsNot) (λx y H Q=>y=.non/\Q (.bl (!decide (x=.non))) H):=by
 intro pins s σ H x y v u Q I rx ry h
 obtain⟨rfl,q⟩:=h
 cases ry
 refine isnot_none_gen (X4 I q ?_)
 cases x <;> first
  | (cases rx;rfl)
  | (obtain⟨t,rfl⟩:=rx;rfl)
theorem E4 (b:Expr) {op:CmpOp} (h:op≠.In:=by decide) (h2:op≠.NotIn:=by decide):behindInMarks op b=false:=by
 have e1:(op == CmpOp.In)=false:=by cases op <;> first | rfl | exact absurd rfl h
 have e2:(op == CmpOp.NotIn)=false:=by cases op <;> first | rfl | exact absurd rfl h2
 cases b <;> simp [behindInMarks,e1,e2]
theorem A3u {op:CmpOp} {r:R2} (ho:OpR X (compareOp op) r) (ha:PE X a ta) (hb:PE X b tb) (hm:behindInMarks op b=false):PE X (.Compare a [op] [b] pos) (tOp r ta tb):=by
 intro pins s σ H Q I h
 exact wpAny_Compare1 (B2v ha hb I h λv u s2 x y H2 I2 rx ry q=>ho pins s2 σ H2 x y v u Q I2 rx ry q) hm
def A92 (t:TE):TT:=fun σ H Q=>t σ H λx H'=>∃k,x=.bl k/\Q k H'
theorem T7 {op:CmpOp} {r:R2} (ho:OpR X (compareOp op) r) (ha:PE X a ta) (hb:PE X b tb) (hm:behindInMarks op b=false):PT X (.Compare a [op] [b] pos) (A92 (tOp r ta tb)):=by
 intro pins s σ H Q I h
 refine wpAny_isTrue_Compare1 (thn (ha pins s σ H _ I h) λv s1 zz60=>el5 zz60 λx H1 I1 r1 q1=>thn (hb pins s1 σ H1 _ I1 q1) λu s2 zz61=>el5 zz61 λy H2 I2 r2 q2=>
  thn (ho pins s2 σ H2 x y v u _ I2 r1 r2 q2) λc s3 zz62=>zz62.elim λz zz63=>zz63.elim λH3 zz64=>zz64.elim λI3 zz65=>zz65.elim λr3 zz66=>zz66.elim λk zz67=>zz67.elim λe q3=>?_) hm
 subst e
 cases r3
 exact wpAny_truthy_bool ⟨H3,I3,q3⟩
def B2y (r r':R2) (ta tb tc:TE):TE:=fun σ H Q=>ta σ H λx H1=>tb σ H1 λy H2=>r x y H2 λz H3=>∃k,z=.bl k/\
 (if k=true then tc σ H3 λw' H4=>r' y w' H4 Q else Q (.bl false) H3)
theorem C45 {op op':CmpOp} {r r':R2} (ho:OpR X (compareOp op) r) (ho':OpR X (compareOp op') r') (ha:PE X a ta) (hb:PE X b tb) (hc:PE X c tc)
  (hm:lastMarks [op,op'] [b,c]=false:=by with_unfolding_all rfl):PE X (.Compare a [op,op'] [b,c] pos) (B2y r r' ta tb tc):=by
 intro pins s σ H Q I h
 refine Compare_chain (thn (ha pins s σ H _ I h) λv s1 zz68=>el5 zz68 λx H1 I1 r1 q1=>chain_link (thn (hb pins s1 σ H1 _ I1 q1) λu s2 zz69=>el5 zz69 λy H2 I2 r2 q2=>
  thn (ho pins s2 σ H2 x y v u _ I2 r1 r2 q2) λd s3 zz70=>zz70.elim λz zz71=>zz71.elim λH3 zz72=>zz72.elim λI3 zz73=>zz73.elim λr3 zz74=>zz74.elim λk zz75=>zz75.elim λe q3=>?_)) hm
 subst e
 cases r3
 refine wpAny_truthy_bool ?_
 cases k with
 | false=>exact ite_ff ⟨.bl false,H3,I3,rfl,q3⟩
 | true=>exact ite_tt (chain_last (thn (hc pins s3 σ H3 _ I3 q3) λw' s4 zz76=>el5 zz76 λz' H4 I4 r4 q4=>ho' pins s4 σ H4 y z' u w' Q I4 r2 r4 q4))
theorem C46 {op op':CmpOp} {r r':R2} (ho:OpR X (compareOp op) r) (ho':OpR X (compareOp op') r') (ha:PE X a ta) (hb:PE X b tb) (hc:PE X c tc)
  (hm:lastMarks [op,op'] [b,c]=false:=by with_unfolding_all rfl):PT X (.Compare a [op,op'] [b,c] pos) (A92 (B2y r r' ta tb tc)):=by
 intro pins s σ H Q I h
 refine isTrue_chain (thn (ha pins s σ H _ I h) λv s1 zz77=>el5 zz77 λx H1 I1 r1 q1=>test_link (thn (hb pins s1 σ H1 _ I1 q1) λu s2 zz78=>el5 zz78 λy H2 I2 r2 q2=>
  thn (ho pins s2 σ H2 x y v u _ I2 r1 r2 q2) λd s3 zz79=>zz79.elim λz zz80=>zz80.elim λH3 zz81=>zz81.elim λI3 zz82=>zz82.elim λr3 zz83=>zz83.elim λk zz84=>zz84.elim λe q3=>?_)) hm
 subst e
 cases r3
 refine wpAny_truthy_bool ?_
 cases k with
 | false=>
  obtain⟨k',e',q'⟩:=q3
  cases e'
  exact ite_ff ⟨H3,I3,q'⟩
 | true=>
  refine ite_tt (test_last (thn (hc pins s3 σ H3 _ I3 q3) λw' s4 zz85=>el5 zz85 λz' H4 I4 r4 q4=>thn (ho' pins s4 σ H4 y z' u w' _ I4 r2 r4 q4) λd' s5 zz86=>zz86.elim λz2 zz87=>zz87.elim λH5 zz88=>zz88.elim λI5 zz89=>zz89.elim λr5 zz90=>zz90.elim λk2 zz91=>zz91.elim λe2 q5=>?_))
  subst e2
  cases r5
  exact wpAny_truthy_bool ⟨H5,I5,q5⟩
theorem A6b:(sizeLine:Nat) < 2 ^ 63:=by rw[sizeLine_eq];decide
theorem Z2 {x:V} {us:List Value} (r:C5 [x] us):∃u,us=[u]/\C9 x u:=by
 cases r with
 | cons r1 r2=>cases r2;exact⟨_,rfl,r1⟩
theorem A93 {x y:V} {us:List Value} (r:C5 [x,y] us):∃u w',us=[u,w']/\C9 x u/\C9 y w':=by
 cases r with
 | cons r1 r2=>
  cases r2 with
  | cons r3 r4=>cases r4;exact⟨_,_,rfl,r1,r3⟩
theorem C47:X9 X (.builtin "abs") (λxs H Q=>∃i,xs=[.int i]/\Q (.int (if i < 0 then -i else i)) H):=by
 intro pins s σ H xs us Q I r h
 obtain⟨i,rfl,q⟩:=h
 obtain⟨u,rfl,t,rfl⟩:=Z2 r
 exact call_abs_int λu tk=>⟨.int (if i < 0 then -i else i),H,I.tok _,⟨_,rfl⟩,q⟩
theorem B7q (hc:X.calm=true):X9 X (.builtin "max") (λxs H Q=>∃i j,xs=[.int i,.int j]/\Q (.int (if j > i then j else i)) H):=by
 intro pins s σ H xs us Q I r h
 obtain⟨i,j,rfl,q⟩:=h
 obtain⟨u,w',rfl,⟨t,rfl⟩,⟨t',rfl⟩⟩:=A93 r
 refine max_two_ints (I.ok.hd hc) λh' tk k=>⟨_,H,I.kept k,?_,q⟩
 by_cases hj:j > i
 ·rw[if_pos hj,if_pos hj];exact⟨_,rfl⟩
 ·rw[if_neg hj,if_neg hj];exact⟨_,rfl⟩
theorem A94 (hc:X.calm=true):X9 X (.builtin "min") (λxs H Q=>∃i j,xs=[.int i,.int j]/\Q (.int (if j < i then j else i)) H):=by
 intro pins s σ H xs us Q I r h
 obtain⟨i,j,rfl,q⟩:=h
 obtain⟨u,w',rfl,⟨t,rfl⟩,⟨t',rfl⟩⟩:=A93 r
 refine min_two_ints (I.ok.hd hc) λh' tk k=>⟨_,H,I.kept k,?_,q⟩
 by_cases hj:j < i
 ·rw[if_pos hj,if_pos hj];exact⟨_,rfl⟩
 ·rw[if_neg hj,if_neg hj];exact⟨_,rfl⟩
theorem B7r:X9 X (.type "int") (λxs H Q=>(∃i,xs=[.int i]/\Q (.int i) H)\/∃k,xs=[.bl k]/\Q (.int (if k then 1 else 0)) H):=by
 intro pins s σ H xs us Q I r h
 rcases h with ⟨i,rfl,q⟩ | ⟨k,rfl,q⟩
 ·obtain⟨u,rfl,t,rfl⟩:=Z2 r
  exact call_int_int ⟨.int i,H,I,⟨_,rfl⟩,q⟩
 ·obtain⟨u,rfl,r1⟩:=Z2 r
  cases r1
  exact call_int_bool ⟨.int (if k then 1 else 0),H,I.tok _,⟨_,rfl⟩,q⟩
end
structure A3v (h:Heap) (x dx C:Addr) (mA:Str->Option Value):Prop where
 obj:h.get? x=some (A5s C dx)
 ns:h.Ns1 dx mA
 ne:dx≠x
theorem B7s {h:Heap} {dx:Addr} {mA:Str->Option Value} (n:h.Ns1 dx mA):∃od,h.get? dx=some od/\∀name,B6v name od=some (mA name):=by
 obtain⟨o,es,ep,ho,hd,hk,_,hm⟩:=n
 refine⟨o,ho,λname=>?_⟩
 have e:=hm name
 unfold nsFind findBy at e
 rw[<-Array.find?_toList] at e
 unfold B6v
 rw[hd]
 dsimp only
 split
 ·rename_i y q
  rw[q] at e
  exact congrArg some e
 ·rename_i q
  rw[q] at e
  have a:es.toList.any (·.refKey)=false:=by
   rw[List.any_eq_false]
   intro y hy
   obtain⟨z,t,hkey⟩:=hk y (Array.mem_toList_iff.mp hy)
   simp [DictEntry.refKey,hkey]
  have a':¬ es.toList.any (·.refKey)=true:=by rw[a];exact R9
  rw[if_neg a']
  exact congrArg some e
theorem A3v.look {h:Heap} {x dx C:Addr} {mA:Str->Option Value} (I:A3v h x dx C mA):∃od,A3k h x (A5s C dx) C (some od)/\∀name,B6v name od=some (mA name):=
 let ⟨od,ho,hl⟩:=B7s I.ns
 ⟨od,⟨I.obj,rfl,rfl,ho⟩,hl⟩
section
variable {prog:Program} {w:World} {A:Around} {E:Value->Shared->Prop} {s:Shared} {K:A4} {x dx C f:Addr} {mA:Str->Option Value} {name:Str} {v:Value}
theorem C48 {expr:Bool} {Q:Value->Shared->Prop} (X:K.In s.heap) (I:A3v s.heap x dx C mA) (hg:B6w K C name=true) (hh:A5u K C=true)
  (ha:J7 K (.ref C) name=some none) (hv:mA name=some v) (hv':PySem.W.handedIn v=true) (h:Q v { s with toks:=s.toks + 1 }) :
  wpAny (model prog w) A (getAttr (.ref x) name expr) Q E s:=by
 obtain⟨od,J,hl⟩:=I.look
 exact PySem.W.get_value X J (C3t hg).1 (PySem.W.findObj_own hh ha rfl (by rw[hl,hv])) hv' h
theorem C49 {pl:Sem Bool} {Q:Value×List Value->Shared->Prop} (X:K.In s.heap) (I:A3v s.heap x dx C mA) (hg:B6w K C name=true)
  (hf:J7 K (.ref C) name=some (some (.ref f))) (ht:PySem.W.isFn K (.ref f)=true) (hv:mA name=none) (h:Q (.ref f,[.ref x]) s) :
  wpAny (model prog w) A (getMethod (.ref x) name pl) Q E s:=by
 obtain⟨od,J,hl⟩:=I.look
 exact PySem.W.method_fn X J (C3t hg).1 (C3t hg).2 hf (beq_iff_eq.mp ht) (by show (B6v name od).map (·.isSome)=some false;rw[hl,hv];rfl) h
theorem C5a {ns:List Str} {Q:Unit->Shared->Prop} (X:K.In s.heap) (I:A3v s.heap x dx C mA)
  (hs:J7 K (.ref C) "__setattr__" = some (some (.builtin "object.__setattr__"))) (hp:PySem.W.plainOver K C=true) (ht:PySem.W.takerIn K C name=some none) (hh:A5u K C=true)
  (hw:PySem.Within mA ns) (hsz:ns.length<=sizeLine)
  (h:∀h',A3v h' x dx C (λy=>if y=name then some v else mA y)->Heap.SameBut dx s.heap h'->Q () { s with heap:=h',toks:=s.toks + 2 }) :
  wpAny (model prog w) A (setAttr (.ref x) name v) Q E s:=by
 obtain⟨od,J,hl⟩:=I.look
 refine PySem.W.set_plain X J hs (PySem.W.osa_open (s:={ s with toks:=s.toks + 1 }) (r:=none) X J hp ht λb=>?_)
 obtain⟨cd,hc,hd'⟩:=B6x hh
 have hx:s.heap.get? x=some ⟨.ref C,some dx,.plain,#[]⟩:=I.obj
 refine wpAny_bind (wpAny_pure (wpAny_bind (wpAny_bind (wpAny_loadPart hx (wpAny_bind (A2n.here (s:={ s with toks:=s.toks + 1 }) (PySem.W.looks_clsIn X hc) ?_))))))
 rw[hd']
 refine wpAny_pure (a:=some dx) (wpAny_bind (wpAny_pure (wpAny_bind ?_)))
 refine wpAny_nsSet1 (s:={ s with toks:=s.toks + 1 }) I.ns λh' hn2 hs2=>?_
 obtain⟨oD,esD,epD,hoD,hdD,hcD⟩:=hn2.count (PySem.Within.cons name v hw)
 refine wpAny_bind (wpAny_lookBehind hoD (by rw[hdD];exact pastItsLine_dict (X0 hcD (by rw[G3];lia))) ?_)
 exact wpAny_pure (h _ ⟨(hs2.2 _ (Ne.symm I.ne)).trans I.obj,hn2,I.ne⟩ hs2)
theorem C5b {R:Result->Shared->Prop} {vs:List Value} {kw:List (Str×Value)} (X:K.In s.heap) (hm:PySem.W.makesIn K C=true)
  (hi:J7 K (.ref C) "__init__" = some (some (.ref f))) (hf:A5v K (.ref f)=some (.type "function"))
  (h:codeAny (model prog w) (A.under (.builtin "type.__call__" ⟨.ref C::vs,kw⟩)) (.call (.ref f) ⟨.ref (s.heap.objs.size + 1)::vs,kw⟩) (PySem.W.InitBack (s.heap.objs.size + 1) R)
   { s with heap:=(s.heap.push A3l).push (A5s C s.heap.objs.size) }) :
  codeAny (model prog w) A (.call (.ref C) ⟨vs,kw⟩) R s:=by
 obtain⟨hh,g,d,t,os⟩:=s
 exact PySem.W.make_core (PySem.W.makes_of X hm) (A9h X hi) (λself=>PySem.W.bind_fn X self hf) (.inl rfl) h
end
def Q3 (f:Str) (v:V):List (Str×V)->List (Str×V)
 | []=>[(f,v)]
 | (g,x)::r=>if g=f then (g,v)::r else (g,x)::Q3 f v r
theorem B7t (f g:Str) (v:V):∀fs:List (Str×V),(Q3 f v fs).lookup g=if g=f then some v else fs.lookup g
 | []=>by
  show A3m g [(f,v)]=_
  by_cases h:g=f
  ·have hb:(g == f)=true:=beq_iff_eq.mpr h
   simp only[A3m,hb,if_pos h]
  ·have hb:(g == f)=false:=beq_eq_false_iff_ne.mpr h
   simp only[A3m,hb,if_neg h]
 | (k,x)::r=>by
  have ih:=B7t f g v r
  rw[show Q3 f v ((k,x)::r)=(if k=f then (k,v)::r else (k,x)::Q3 f v r) from rfl]
  by_cases hk:k=f
  ·rw[if_pos hk]
   by_cases h:g=k
   ·have hb:(g == k)=true:=beq_iff_eq.mpr h
    simp only[A3m,hb,if_pos (h.trans hk)]
   ·have hb:(g == k)=false:=beq_eq_false_iff_ne.mpr h
    simp only[A3m,hb,if_neg (λe:g=f=>h (e.trans hk.symm))]
  ·rw[if_neg hk]
   by_cases h:g=k
   ·have hb:(g == k)=true:=beq_iff_eq.mpr h
    simp only[A3m,hb,if_neg (λe:g=f=>hk (h.symm.trans e))]
   ·have hb:(g == k)=false:=beq_eq_false_iff_ne.mpr h
    simp only[A3m,hb]
    exact ih
theorem B2z (f:Str) (v:V):∀fs:List (Str×V),f∈(Q3 f v fs).map (·.1)/\∀g,g∈fs.map (·.1)->g∈(Q3 f v fs).map (·.1)
 | []=>⟨by simp [Q3],λg h=>by simp at h⟩
 | (k,x)::r=>by
  obtain⟨i1,i2⟩:=B2z f v r
  rw[show Q3 f v ((k,x)::r)=(if k=f then (k,v)::r else (k,x)::Q3 f v r) from rfl]
  by_cases hk:k=f
  ·rw[if_pos hk]
   subst hk
   exact⟨by simp,λg h=>by simpa using h⟩
  ·rw[if_neg hk]
   refine⟨?_,λg h=>?_⟩
   ·rw[P2]
    exact C8 _ i1
   ·rw[P2] at h ⊢
    rcases J8.mp h with e | e
    ·exact J8.mpr (.inl e)
    ·exact C8 _ (i2 g e)
theorem B7u (f:Str) (v:V):∀fs:List (Str×V),(Q3 f v fs).length<=fs.length + 1
 | []=>by simp [Q3]
 | (k,x)::r=>by
  have ih:=B7u f v r
  rw[show Q3 f v ((k,x)::r)=(if k=f then (k,v)::r else (k,x)::Q3 f v r) from rfl]
  by_cases hk:k=f
  ·rw[if_pos hk,G3,G3];lia
  ·rw[if_neg hk,G3,G3];lia
theorem U9.some_of {v:V} {o:Option Value} (r:U9 (some v) o):∃u,o=some u/\C9 v u:=by
 cases o with
 | none=>exact (show False from r).elim
 | some u=>exact⟨u,rfl,r⟩
theorem U9.none_of {o:Option Value} (r:U9 none o):o=none:=by
 cases o with
 | none=>rfl
 | some u=>exact (show False from r).elim
theorem B7v {v:V} {u:Value} (r:C9 v u):PySem.W.handedIn u=true:=by
 cases v with
 | non=>cases (show u=Value.none from r);rfl
 | bl b=>cases (show u=Value.bool b from r);rfl
 | int i=>obtain⟨t,e⟩:=(show ∃t,u=Value.int i t from r);cases e;rfl
 | str x=>obtain⟨t,e⟩:=(show ∃t,u=Value.str x t from r);cases e;rfl
 | byt b=>obtain⟨t,e⟩:=(show ∃t,u=Value.bytes b t from r);cases e;rfl
 | flt b=>obtain⟨t,e⟩:=(show ∃t,u=Value.float b t from r);cases e;rfl
 | ref a=>cases (show u=Value.ref a from r);rfl
 | ty n=>cases (show u=Value.type n from r);rfl
section
variable {P:Program} {w:World} {H H':Hp} {h h':Heap} {a C dx:Addr} {fs fs':List (Str×V)}
theorem A95 (hok:HOk P w H h) (e:H a=some (.ins C dx fs)):∃mA,A3v h a dx C mA/\(∀f,U9 (fs.lookup f) (mA f))/\PySem.Within mA (fs.map (·.1))/\fs.length<=1000/\H dx=some (.own a):=by
 obtain⟨d,z,ne,ob,mA,n,r,q⟩:=(show K2 P w H h a (.ins C dx fs) from hok a _ e)
 exact⟨mA,⟨ob,n,ne⟩,r,q,z,d⟩
end
structure Cls (K:A4) (C:Addr):Prop where
 pg:B6w K C Str.empty=true
 hd:A5u K C=true
 po:PySem.W.plainOver K C=true
 sa:J7 K (.ref C) "__setattr__" = some (some (.builtin "object.__setattr__"))
theorem Cls.get {K:A4} {C:Addr} (c:Cls K C) (f:Str):B6w K C f=true:=c.pg
def d7 (K:A4) (C:Addr) (f:Str):Prop:=J7 K (.ref C) f=some none
theorem d7.taker {K:A4} {C:Addr} {f:Str} (n:d7 K C f):PySem.W.takerIn K C f=some none:=by
 unfold PySem.W.takerIn
 rw[show J7 K (.ref C) f=some none from n]
 rfl
structure A96 (K:A4) (C:Addr) (m:Str) (f:Addr):Prop where
 at_:J7 K (.ref C) m=some (some (.ref f))
 fn:PySem.W.isFn K (.ref f)=true
 kp:j4 K (.ref f)=true
section
variable {X:Cx} {pins:List (Addr×Obj)} {σ:St} {H:Hp} {s:Shared} {a C dx:Addr} {fs:List (Str×V)} {f:Str} {v:V} {A:Around} {E:Value->Shared->Prop}
theorem C5c {b:Bool} {Q:Value->Shared->Prop} (I:Inv X pins σ H s) (e:H a=some (.ins C dx fs)) (c:Cls X.K C) (n:d7 X.K C f) (l:fs.lookup f=some v)
  (h:∀u s',Inv X pins σ H s'->C9 v u->Q u s'):wpAny (model X.prog X.w) A (getAttr (.ref a) f b) Q E s:=by
 obtain⟨mA,O,r,_,_,_⟩:=A95 I.hok e
 obtain⟨u,hu,ru⟩:=U9.some_of (v:=v) (o:=mA f) (by rw[<-l];exact r f)
 exact C48 I.kIn O (c.get f) c.hd n hu (B7v ru) (h u _ (I.tok _) ru)
theorem B7w {m:Str} {g:Addr} {pl:Sem Bool} {Q:Value×List Value->Shared->Prop} (I:Inv X pins σ H s) (e:H a=some (.ins C dx fs)) (c:Cls X.K C) (k:A96 X.K C m g) (l:fs.lookup m=none)
  (h:Q (.ref g,[.ref a]) s):wpAny (model X.prog X.w) A (getMethod (.ref a) m pl) Q E s:=by
 obtain⟨mA,O,r,_,_,_⟩:=A95 I.hok e
 have hn:mA m=none:=U9.none_of (by rw[<-l];exact r m)
 exact C49 I.kIn O (c.get m) k.at_ k.fn hn h
theorem C5d {y:V} {u:Value} {Q:Unit->Shared->Prop} (I:Inv X pins σ H s) (e:H a=some (.ins C dx fs)) (c:Cls X.K C) (n:d7 X.K C f) (hl:fs.length < 1000) (ry:C9 y u)
  (h:∀s',Inv X pins σ (upd H a (.ins C dx (Q3 f y fs))) s'->Q () s'):wpAny (model X.prog X.w) A (setAttr (.ref a) f u) Q E s:=by
 obtain⟨mA,O,r,wi,_,ho⟩:=A95 I.hok e
 have hz:(fs.map (·.1)).length<=sizeLine:=by rw[D6,sizeLine_eq];lia
 refine C5a I.kIn O c.sa c.po n.taker c.hd wi hz λh' O' sb=>h _ ?_
 have hd:∃o,h'.get? dx=some o:=let ⟨o,_,_,e',_⟩:=O'.ns;⟨o,e'⟩
 refine I.write (x:=a) (e:=dx) (by rw[e];exact True.intro) (.inr ho) (λb q hb z=>(sb.2 b hb).trans z) hd ?_
 refine⟨by rw[B1 O.ne];exact ho,?_,O.ne,O'.obj,_,O'.ns,λg=>?_,λg hg=>?_⟩
 ·have:=B7u f y fs;lia
 ·show U9 ((Q3 f y fs).lookup g) (if g=f then some u else mA g)
  rw[B7t]
  by_cases q:g=f
  ·rw[if_pos q,if_pos q];exact ry
  ·rw[if_neg q,if_neg q];exact r g
 ·by_cases q:g=f
  ·rw[q];exact (B2z f y fs).1
  ·refine (B2z f y fs).2 g (wi g λz=>hg ?_)
   show (if g=f then some u else mA g)=none
   rw[if_neg q];exact z
theorem Inv.made (I:Inv X pins σ H s):Inv X pins σ (upd (upd H s.heap.objs.size (.own (s.heap.objs.size + 1))) (s.heap.objs.size + 1) (.ins C s.heap.objs.size []))
  { s with heap:=(s.heap.push A3l).push (A5s C s.heap.objs.size) }:=by
 have e1:(s.heap.push A3l).get? s.heap.objs.size=some A3l:=V8 s.heap rfl
 have e2:((s.heap.push A3l).push (A5s C s.heap.objs.size)).get? (s.heap.objs.size + 1)=some (A5s C s.heap.objs.size):=by
  have:=V8 (s.heap.push A3l) (o:=A5s C s.heap.objs.size) rfl
  rwa [B13] at this
 have e3:(s.heap.push A3l).Ns s.heap.objs.size (λ_=>none):=⟨A3l,#[],_,e1,rfl,(λe he=>absurd he (by simp)),λ_=>rfl⟩
 have I1:=I.laid (a:=s.heap.objs.size) (o:=.own (s.heap.objs.size + 1)) (h':=s.heap.push A3l) (t':=s.toks) (λb u q=>L6 _ q) (F7 _) ⟨_,e1⟩
 refine I1.laid (a:=s.heap.objs.size + 1) (o:=.ins C s.heap.objs.size []) (t':=s.toks) (λb u q=>L6 _ q) (Nat.le_of_eq (B13 _ _)) ?_
 have ne:s.heap.objs.size≠s.heap.objs.size + 1:=N5 (B6y _)
 refine⟨by rw[B1 ne,B2],P0 _,ne,e2,λ_=>none,(Heap.Ns1.of_empty e3).at λo q=>L6 _ q,λ_=>True.intro,λy hy=>absurd rfl hy⟩
theorem B7x {prog:Program} {w:World} {env:Env} {e:Expr} {f:Str} {pos:Pos} {s:Shared} {Q:Value->Shared->Prop} (hb:attributeBase e f env (eval e env)=eval e env)
  (h:wpAny (model prog w) A (eval e env) (λo s₁=>wpAny (model prog w) A (getAttr o f true) Q E s₁) E s):wpAny (model prog w) A (eval (.Attribute e f pos) env) Q E s:=
 Attribute_any_ h (by rw[arm_eval_Attribute,hb])
end
def C5e (K:A4) (ta:TE) (f:Str):TE:=fun σ H Q=>ta σ H λx H1=>∃a C dx fs v,x=.ref a/\H1 a=some (.ins C dx fs)/\Cls K C/\d7 K C f/\fs.lookup f=some v/\Q v H1
def C5f (K:A4) (ta tv:TE) (f:Str):TS:=λD σ H=>tv σ H λy H1=>ta σ H1 λx H2=>∃a C dx fs,x=.ref a/\H2 a=some (.ins C dx fs)/\Cls K C/\d7 K C f/\fs.length < 1000/\
 D.nx σ (upd H2 a (.ins C dx (Q3 f y fs)))
section
variable {X:Cx} {o e value:Expr} {f:Str} {pos pos' tpos:Pos} {ta tv:TE}
theorem L1 (he:PE X e ta) (hb:attributeBase e f X.env (eval e X.env)=eval e X.env):PE X (.Attribute e f pos) (C5e X.K ta f):=by
 intro pins s σ H Q I h
 refine B7x hb (thn (he pins s σ H _ I h) λu s1 zz93=>zz93.elim λx zz94=>zz94.elim λH1 zz95=>zz95.elim λI1 zz96=>zz96.elim λrx zz97=>zz97.elim λa zz98=>zz98.elim λC zz99=>zz99.elim λdx zz100=>zz100.elim λfs zz101=>zz101.elim λv zz102=>zz102.elim λex zz103=>zz103.elim λea zz104=>zz104.elim λc zz105=>zz105.elim λn zz106=>zz106.elim λl q=>?_)
 subst ex
 obtain rfl:u=Value.ref a:=rx
 exact C5c I1 ea c n l λu' s2 I2 ru=>⟨v,H1,I2,ru,q⟩
theorem A06 (ha:PE X o ta) (hv:PE X value tv) (hs:swapsWith value (some (.Attribute o f pos')) pos.line X.env=pure false):PS X (.Assign [.Attribute o f pos'] value pos) (C5f X.K ta tv f):=by
 intro pins s σ H D I h
 refine plainObj_wpAny_Assign_Attribute (thn (hv pins s σ H _ I h) λu s1 zz122=>el5 zz122 λy H1 I1 ry q=>thn (ha pins s1 σ H1 _ I1 q) λov s2 zz123=>zz123.elim λx zz124=>zz124.elim λH2 zz125=>zz125.elim λI2 zz126=>zz126.elim λrx zz127=>zz127.elim λa zz128=>zz128.elim λC zz129=>zz129.elim λdx zz130=>zz130.elim λfs zz131=>zz131.elim λex zz132=>zz132.elim λea zz133=>zz133.elim λc zz134=>zz134.elim λn zz135=>zz135.elim λl q2=>?_) hs
 subst ex
 obtain rfl:ov=Value.ref a:=rx
 exact C5d I2 ea c n l ry λs3 I3=>⟨σ,_,I3,q2⟩
end
section
variable {X:Cx} {pins:List (Addr×Obj)} {σ:St} {H:Hp} {s:Shared} {A:Around} {E:Value->Shared->Prop} {Q:Value->Shared->Prop} {c:Value} {b:Bool}
inductive j8 (K:A4) (H:Hp):V->Value->Prop where
 | non:j8 K H .non (.type "NoneType")
 | bl (x:Bool):j8 K H (.bl x) (.type "bool")
 | int (i:Int):j8 K H (.int i) (.type "int")
 | str (x:Str):j8 K H (.str x) (.type "str")
 | flt (x:UInt64):j8 K H (.flt x) (.type "float")
 | lst {a:Addr} {xs:List V} (e:H a=some (.lst xs)):j8 K H (.ref a) (.type "list")
 | frz {a:Addr} {o:Obj} {xs:List V} (e:H a=some (.frz o (.lst xs))):j8 K H (.ref a) (.type "list")
 | tup {a:Addr} {xs:List V} (e:H a=some (.tup xs)):j8 K H (.ref a) (.type "tuple")
 | dK {a:Addr} {kvs:List (Key×V)} (e:H a=some (.dK kvs)):j8 K H (.ref a) (.type "dict")
 | dT {a:Addr} {kvs:List (List Key×V)} (e:H a=some (.dT kvs)):j8 K H (.ref a) (.type "dict")
 | ins {a C dx:Addr} {fs:List (Str×V)} (e:H a=some (.ins C dx fs)) (cl:Cls K C) (ha:J7 K (.ref C) "__class__" = some (some (.builtin "object.__class__")))
   (hn:B14 K (.builtin "object.__class__") "__get__" = some (some (.builtin "getset_descriptor.__get__"))) (htk:B15 K (.builtin "object.__class__")=some true)
   (hm:Q7 K C (.type "object")=some true):j8 K H (.ref a) (.ref C)
theorem C5g {x:V} {u t:Value} (I:Inv X pins σ H s) (rx:C9 x u) (ty:j8 X.K H x t) (e:K5 X.K t c=some b) (h:∀tk,Q (.bool b) { s with toks:=tk }) :
  wpAny (model X.prog X.w) A (call (.builtin "isinstance") [u,c]) Q E s:=by
 cases ty with
 | non=>cases (show u=Value.none from rx);exact A0m PySem.W.kitx_none I.kIn True.intro e (λz=>nomatch z) h
 | bl y=>cases (show u=Value.bool y from rx);exact A0m PySem.W.kitx_bool I.kIn True.intro e (λz=>nomatch z) h
 | int i=>obtain⟨t,q⟩:=(show ∃t,u=Value.int i t from rx);cases q;exact A0m PySem.W.kitx_int I.kIn True.intro e (λz=>nomatch z) h
 | str y=>obtain⟨t,q⟩:=(show ∃t,u=Value.str y t from rx);cases q;exact A0m PySem.W.kitx_str I.kIn True.intro e (λz=>nomatch z) h
 | flt y=>obtain⟨t,q⟩:=(show ∃t,u=Value.float y t from rx);cases q;exact A0m PySem.W.kitx_float I.kIn True.intro e (λz=>nomatch z) h
 | @lst a xs ea=>
  cases (show u=Value.ref a from rx)
  obtain⟨_,_,n,_,h1⟩:=(show K2 X.prog X.w H s.heap a (.lst xs) from I.hok a _ ea)
  exact A0m PySem.W.kitx_list I.kIn ⟨_,h1,rfl⟩ e (λz=>nomatch z) h
 | @frz a ob xs ea=>
  cases (show u=Value.ref a from rx)
  obtain⟨_,_,_,n,_,h1⟩:=(show K2 X.prog X.w H s.heap a (.frz ob (.lst xs)) from I.hok a _ ea)
  exact A0m PySem.W.kitx_list I.kIn ⟨_,h1,rfl⟩ e (λz=>nomatch z) h
 | @tup a xs ea=>
  cases (show u=Value.ref a from rx)
  obtain⟨_,_,_,p⟩:=(show K2 X.prog X.w H s.heap a (.tup xs) from I.hok a _ ea)
  obtain⟨o,h1,h2,_⟩:=p
  exact A0m PySem.W.kitx_tuple I.kIn ⟨o,h1,h2⟩ e (λz=>nomatch z) h
 | @dK a kvs ea=>
  cases (show u=Value.ref a from rx)
  obtain⟨_,_,vs,_,p⟩:=(show K2 X.prog X.w H s.heap a (.dK kvs) from I.hok a _ ea)
  obtain⟨o,es,ep,h1,h2,_⟩:=p
  exact A0m PySem.W.kitx_dict I.kIn ⟨o,h1,h2.1⟩ e (λz=>nomatch z) h
 | @dT a kvs ea=>
  cases (show u=Value.ref a from rx)
  obtain⟨_,_,xs,_,o,es,ep,h1,h2,_⟩:=(show K2 X.prog X.w H s.heap a (.dT kvs) from I.hok a _ ea)
  exact A0m PySem.W.kitx_dict I.kIn ⟨o,h1,h2.1⟩ e (λz=>nomatch z) h
 | @ins a C dx fs ea cl ha hn htk hm=>
  cases (show u=Value.ref a from rx)
  obtain⟨mA,O,_⟩:=A95 I.hok ea
  obtain⟨od,J,_⟩:=O.look
  exact A0m (PySem.W.kitx_own (cl.get _) cl.hd ha hn htk hm) I.kIn J e (λz=>nomatch z) h
end
structure N6 (k:Nat) (A:Around):Prop where
 hd:A.handled=none
 dp:A.depth + 3 * k + 5 < recursionLimit
 un:A.units + 16 * k + 200 < cLine
 gd:A.guards=some []
theorem N6.mono {j k:Nat} {A:Around} (r:N6 k A) (h:j<=k):N6 j A:=⟨r.hd,by have:=r.dp;lia,by have:=r.un;lia,r.gd⟩
theorem N6.deeper {k:Nat} {A:Around} (r:N6 (k + 1) A) (env:Env):N6 k (A.deeper env):=
 ⟨r.hd,by have:=r.dp;show A.depth + 1 + 3 * k + 5 < _;lia,by have:=r.un;show A.units + 3 + 16 * k + 200 < _;lia,r.gd⟩
theorem C5h {A:Around} {C:Addr} {us:List Value} {kw:List (Str×Value)}:(A.under (.builtin "type.__call__" ⟨.ref C::us,kw⟩)).depth=A.depth + 1:=by
 first | rfl | simp [Around.under,Code.weight,Code.isCreation,Code.isGuard,Code.isCaller,Code.frames,Code.isFrame,guardIds]
theorem C5i {A:Around} {C:Addr} {us:List Value} {kw:List (Str×Value)}:(A.under (.builtin "type.__call__" ⟨.ref C::us,kw⟩)).units=A.units + 1:=by
 first | rfl | simp [Around.under,Code.cUnits,Code.frames,Code.isFrame]
theorem N6.make {k:Nat} {A:Around} (r:N6 (k + 1) A) (C:Addr) (us:List Value) (kw:List (Str×Value)):N6 k (A.under (.builtin "type.__call__" ⟨.ref C::us,kw⟩)):=
 ⟨r.hd,by have:=r.dp;rw[C5h];lia,by have:=r.un;rw[C5i];lia,by first | exact r.gd | (show pushGuards _ A.guards=_;rw[r.gd];rfl)⟩
theorem N6.depth {k:Nat} {A:Around} (r:N6 k A):A.depth < recursionLimit:=by have:=r.dp;lia
theorem N6.units {k:Nat} {A:Around} (r:N6 k A):A.units + 64 < cLine:=by have:=r.un;lia
def G7:TA:=λ_ H Q=>Q [] H
def D9 (ta:TE) (tr:TA):TA:=fun σ H Q=>ta σ H λx H1=>tr σ H1 λxs H2=>Q (x::xs) H2
section
variable {X:Cx} {e:Expr} {es:List Expr} {te:TE} {t:TA} {pos:Pos}
theorem A6:PA X [] G7:=λ_ _ _ _ H Q I h=>Calls.spliced_nil ⟨[],H,I,.nil,h⟩
theorem A1 (ha:PE X e te) (hr:PA X es t) (hs:starEach (e::es) X.env=(false,eval e X.env)::starEach es X.env:=by rfl):PA X (e::es) (D9 te t):=by
 intro pos pins s σ H Q I h
 rw[hs]
 show wpAny _ _ (spliced ((false,eval e X.env)::backTo pos (starEach es X.env))) _ _ s
 refine Calls.spliced_cons (thn (ha pins s σ H _ I h) λu s1 zz173=>el5 zz173 λx H1 I1 r1 q1=>?_)
 exact thn (hr pos pins s1 σ H1 _ I1 q1) λus s2 zz174=>el5 zz174 λxs H2 I2 r2 q2=>⟨x::xs,H2,I2,.cons r1 r2,q2⟩
def A8a (t:TA):TE:=fun σ H Q=>t σ H λxs H1=>xs.length<=sizeLine/\∀p,H1 p=none->Q (.ref p) (upd H1 p (.tup xs))
def A0a (t:TA):TE:=fun σ H Q=>t σ H λxs H1=>xs.length<=sizeLine/\∀p,H1 p=none->Q (.ref p) (upd H1 p (.lst xs))
theorem V0 {x1} (h:PA X es t):PE X (.Tuple es x1 pos) (A8a t):=by
 intro pins s σ H Q I hq
 refine wpAny_Tuple_spliced (thn (h pos pins s σ H _ I hq) λus s1 zz175=>zz175.elim λxs zz176=>zz176.elim λH1 zz177=>zz177.elim λI1 zz178=>zz178.elim λr zz179=>zz179.elim λz q=>⟨by rw[<-r.length];exact z,?_⟩)
 have hf:H1 s1.heap.objs.size=none:=I1.hok.fresh (F7 _)
 refine⟨.ref s1.heap.objs.size,upd H1 s1.heap.objs.size (.tup xs),I1.laid (t':=s1.toks) (λb u e=>L6 _ e) (F7 _) ?_,rfl,q _ hf⟩
 exact⟨z,us,r,⟨_,V8 _ rfl,rfl,_,rfl⟩⟩
theorem P7 (h:PA X es t):PE X (.List es pos) (A0a t):=by
 intro pins s σ H Q I hq
 refine wpAny_List_spliced (thn (h pos pins s σ H _ I hq) λus s1 zz180=>zz180.elim λxs zz181=>zz181.elim λH1 zz182=>zz182.elim λI1 zz183=>zz183.elim λr zz184=>zz184.elim λz q=>⟨by rw[<-r.length];exact z,?_⟩)
 have hf:H1 s1.heap.objs.size=none:=I1.hok.fresh (F7 _)
 refine⟨.ref s1.heap.objs.size,upd H1 s1.heap.objs.size (.lst xs),I1.laid (t':=s1.toks) (λb u e=>L6 _ e) (F7 _) ?_,rfl,q _ hf⟩
 exact⟨z,us,0,r,V8 _ rfl⟩
end
abbrev Sp:=List V->Hp->VK->XK->Prop
abbrev CXT:=List Env->Hp->Shared->XK->Value->Shared->Prop
structure A1w (P:Program) (w:World) (K:A4) (mg:Str->Option Value) (base:Heap) (A:Around) (outer:List Env) (s:Shared) (H:Hp):Prop where
 frames:A.frames=some outer
 mod:Mod K mg base
 bs:∀b o,base.get? b=some o->s.heap.get? b=some o/\H b=none
 bsz:base.objs.size<=s.heap.objs.size
 funs:s.heap.FunFrames base outer
 frf:∀b∈frs outer,H b=none
 hok:HOk P w H s.heap
 bare:AllBare s.gens
def CE (outer:List Env) (P:Program) (w:World) (H:Hp) (s:Shared) (Q:VK) (u:Value) (s':Shared):Prop:=
 ∃v H',s'.os=s.os/\AllBare s'.gens/\Un (frs outer) [] H H' s.heap s'.heap/\HOk P w H' s'.heap/\C9 v u/\Q v H'
def CR (CX:CXT) (outer:List Env) (P:Program) (w:World) (H:Hp) (s:Shared) (Q:VK) (E:XK) (r:Result) (s':Shared):Prop:=
 match r with
 | .ok (.ret u)=>CE outer P w H s Q u s'
 | .ok _=>False
 | .error e=>CX outer H s E e s'
structure B9 (P:Program) (w:World) (K:A4) (mg:Str->Option Value) (base:Heap) (CX:CXT) (k:Nat) (f:Addr) (fd:FuncData) (ps:List Str) (sp:Sp):Prop where
 len:∀vs H Q E,sp vs H Q E->vs.length=ps.length
 run:∀(A:Around) (outer:List Env) (s:Shared) (H:Hp) (args:Args) (us:List Value) (vs:List V) (Q:VK) (E:XK),N6 k A->A1w P w K mg base A outer s H->BindsTo s fd args (ps.zip us)->C5 vs us->sp vs H Q E->
  codeAny (model P w) A (.call (.ref f) args) (CR CX outer P w H s Q E) s
theorem B9.imp {P:Program} {w:World} {K:A4} {mg:Str->Option Value} {base:Heap} {CX:CXT} {k:Nat} {f:Addr} {fd:FuncData} {ps:List Str} {sp sp':Sp} (F:B9 P w K mg base CX k f fd ps sp)
  (h:∀vs H Q E,sp' vs H Q E->sp vs H Q E):B9 P w K mg base CX k f fd ps sp':=
 ⟨λvs H Q E q=>F.len vs H Q E (h _ _ _ _ q),λA outer s H args us vs Q E hr he hb hv hs=>F.run A outer s H args us vs Q E hr he hb hv (h _ _ _ _ hs)⟩
theorem A1w.make {P:Program} {w:World} {K:A4} {mg:Str->Option Value} {base:Heap} {A:Around} {outer:List Env} {s:Shared} {H:Hp} (e:A1w P w K mg base A outer s H) (C:Addr) (us:List Value) (kw:List (Str×Value)) :
  A1w P w K mg base (A.under (.builtin "type.__call__" ⟨.ref C::us,kw⟩)) outer s H:=⟨by first | exact e.frames | (simpa [Around.under,Code.envs,Code.isFrame,pushEnvs] using e.frames),e.mod,e.bs,e.bsz,e.funs,e.frf,e.hok,e.bare⟩
section
variable {X:Cx} {pins:List (Addr×Obj)} {σ:St} {H:Hp} {s s':Shared}
theorem Inv.env0 (I:Inv X pins σ H s):A1w X.prog X.w X.K X.mg X.base X.A X.stack s H:=
 ⟨I.ok.frames,I.ok.mod,I.bs,X0 I.ok.bsz I.sz,I.stack,I.stkFree,I.hok,I.bare⟩
theorem Inv.after {Q:VK} {u:Value} (I:Inv X pins σ H s) (h:CE X.stack X.prog X.w H s Q u s'):EP X pins σ Q u s':=by
 obtain⟨v,H',os,bare,un,hok,r,q⟩:=h
 obtain⟨hh,g,d,t,os'⟩:=s'
 obtain rfl:os'=s.os:=os
 exact⟨v,H',I.call (h':=hh) (g':=g) (d':=d) (t':=t) (ch:=[]) un hok bare (λb z=>absurd z (by simp)),r,q⟩
end
def B7y (sp:Sp) (dvs:List V) (E:XK) (t:TA):TE:=fun σ H Q=>t σ H λvs H1=>sp (vs++dvs) H1 Q E
def A8b (C:Addr) (m:Str) (sp:Sp) (dvs:List V) (E:XK) (ta:TE) (t:TA):TE:=fun σ H Q=>ta σ H λx H1=>∃a dx fs,x=.ref a/\H1 a=some (.ins C dx fs)/\fs.lookup m=none/\
 t σ H1 λvs H2=>sp (x::(vs++dvs)) H2 Q E
def C5j (C:Addr) (sp:Sp) (dvs:List V) (E:XK) (t:TA):TE:=fun σ H Q=>t σ H λvs H1=>∀x dx,H1 x=none->H1 dx=none->dx≠x->
 sp (.ref x::(vs++dvs)) (upd (upd H1 dx (.own x)) x (.ins C dx [])) (λv H2=>v=.non/\Q (.ref x) H2) E
def Y0 (K:A4) (fd:FuncData) (ps:List Str) (ds:List Value):Prop:=
 ∀(s:Shared) (us:List Value),K.In s.heap->(us++ds).length=ps.length->BindsTo s fd ⟨us,[]⟩ (ps.zip (us++ds))
theorem Y0.all {K:A4} {fd:FuncData} {ps:List Str} (h:∀us:List Value,us.length=ps.length->bindArgs fd ⟨us,[]⟩=pure (ps.zip us)):Y0 K fd ps []:=λs us _ hl=>by
 rw[A2j] at hl ⊢
 exact .of_eq (h us hl)
def A2w (CX:CXT) (X:Cx) (E:XK):Prop:=∀(pins:List (Addr×Obj)) (σ:St) (H:Hp) (s:Shared) (e:Value) (s':Shared),Inv X pins σ H s->CX X.stack H s E e s'->X.xe e s'
section
variable {X:Cx} {CX:CXT} {k:Nat} {f C:Addr} {fd:FuncData} {ps:List Str} {sp:Sp} {dvs:List V} {ds:List Value} {E:XK} {x m:Str} {p pos apos:Pos} {e o:Expr} {es:List Expr} {ta:TE} {t:TA}
theorem B20 {pins:List (Addr×Obj)} {σ:St} {H:Hp} {s:Shared} {Q:VK} {us:List Value} {vs:List V} (F:B9 X.prog X.w X.K X.mg X.base CX k f fd ps sp) (hr:N6 k X.A) (hb:Y0 X.K fd ps ds) (hd:C5 dvs ds) (hx:A2w CX X E)
  (I:Inv X pins σ H s) (r:C5 vs us) (h:sp (vs++dvs) H Q E):wpAny (model X.prog X.w) X.A (call (.ref f) us) (EP X pins σ Q) X.xe s:=by
 have r2:C5 (vs++dvs) (us++ds):=r.append hd
 have hl:(us++ds).length=ps.length:=by rw[<-r2.length];exact F.len _ _ _ _ h
 refine wpAny_call (codeAny_mono (F.run X.A X.stack s H ⟨us,[]⟩ (us++ds) (vs++dvs) Q E hr I.env0 (hb s us I.kIn hl) r2 h) λr s' hq=>?_)
 cases r with
 | error e=>exact hx pins σ H s e s' I hq
 | ok fl=>
  cases fl with
  | ret u=>exact I.after hq
  | next=>exact False.elim hq
  | brk=>exact False.elim hq
  | cont=>exact False.elim hq
theorem B6 (F:B9 X.prog X.w X.K X.mg X.base CX k f fd ps sp) (hr:N6 k X.A) (hg:Gl X x) (hm:X.mg x=some (.ref f)) (hk:j4 X.K (.ref f)=true) (hb:Y0 X.K fd ps ds) (hd:C5 dvs ds) (hx:A2w CX X E)
  (ha:PA X (e::es) t) (hdb:(x == ("__debug__" : Str))=false:=by decide) (he:starEach (e::es) X.env=(false,eval e X.env)::starEach es X.env:=by rfl) (hpl:(backTo pos (starEach es X.env)).any (·.1)=false:=by rfl) :
  PE X (.Call (.Name x p) (e::es) [] pos) (B7y sp dvs E t):=by
 intro pins s σ H Q I h
 refine wpAny_Call_Name_kw (A59 I hg hm ?_ hdb)
 refine B16 (h₀:=X.base) I.ok.mod.kin hk (thn (ha pos pins s σ H _ I h) λus s1 zz185=>el5 zz185 λvs H1 I1 r q=>⟨I1.kIn,?_⟩) he hpl
 exact B20 F hr hb hd hx I1 r q
theorem A0b {pl:Sem Bool} (he:PE X o ta) (c:Cls X.K C) (hm:A96 X.K C m f) (F:B9 X.prog X.w X.K X.mg X.base CX k f fd ps sp) (hr:N6 k X.A) (hb:Y0 X.K fd ps ds) (hd:C5 dvs ds) (hx:A2w CX X E) (ha:PA X (e::es) t)
  (hst:starEach (e::es) X.env=(false,eval e X.env)::starEach es X.env:=by rfl) (hpl:(backTo pos (starEach es X.env)).any (·.1)=false:=by rfl)
  (ht:eval (.Call (.Attribute o m apos) (e::es) [] pos) X.env=(do
   let ov <-eval o X.env
   standAt apos.atName
   let (f,first) <-holding [ov] (getMethod ov m pl)
   callWith pos f first (backTo pos (starEach (e::es) X.env)) (backToKw pos (keywordEach [] X.env))):=by rfl) :
  PE X (.Call (.Attribute o m apos) (e::es) [] pos) (A8b C m sp dvs E ta t):=by
 intro pins s σ H Q I h
 refine PySem.W.methodCall_KW (pl:=pl) (thn (he pins s σ H _ I h) λu s1 zz186=>zz186.elim λx zz187=>zz187.elim λH1 zz188=>zz188.elim λI1 zz189=>zz189.elim λrx zz190=>zz190.elim λa zz191=>zz191.elim λdx zz192=>zz192.elim λfs zz193=>zz193.elim λex zz194=>zz194.elim λea zz195=>zz195.elim λl q=>?_) ht
 subst ex
 obtain rfl:u=Value.ref a:=rx
 refine B7w I1 ea c hm l ?_
 refine B16 (first:=[.ref a]) (h₀:=X.base) I.ok.mod.kin hm.kp (thn (ha pos pins s1 σ H1 _ I1 q) λus s2 zz196=>el5 zz196 λvs H2 I2 r q2=>⟨I2.kIn,?_⟩) hst hpl
 exact B20 (us:=.ref a::us) (vs:=.ref a::vs) F hr hb hd hx I2 (.cons rfl r) q2
theorem O5 {pl:Sem Bool} (he:PE X o ta) (c:Cls X.K C) (hm:A96 X.K C m f) (F:B9 X.prog X.w X.K X.mg X.base CX k f fd ps sp) (hr:N6 k X.A) (hb:Y0 X.K fd ps ds) (hd:C5 dvs ds) (hx:A2w CX X E)
  (ht:eval (.Call (.Attribute o m apos) [] [] pos) X.env=(do
   let ov <-eval o X.env
   standAt apos.atName
   let (f,first) <-holding [ov] (getMethod ov m pl)
   callWith pos f first (backTo pos (starEach [] X.env)) (backToKw pos (keywordEach [] X.env))):=by rfl) :
  PE X (.Call (.Attribute o m apos) [] [] pos) (A8b C m sp dvs E ta G7):=by
 intro pins s σ H Q I h
 refine PySem.W.methodCall_KW (pl:=pl) (thn (he pins s σ H _ I h) λu s1 zz197=>zz197.elim λx zz198=>zz198.elim λH1 zz199=>zz199.elim λI1 zz200=>zz200.elim λrx zz201=>zz201.elim λa zz202=>zz202.elim λdx zz203=>zz203.elim λfs zz204=>zz204.elim λex zz205=>zz205.elim λea zz206=>zz206.elim λl q=>?_) ht
 subst ex
 obtain rfl:u=Value.ref a:=rx
 refine B7w I1 ea c hm l ?_
 exact PySem.W.callWith_K0 (first:=[.ref a]) I1.kIn hm.kp (B20 (us:=[.ref a]) (vs:=[.ref a]) F hr hb hd hx I1 (.cons rfl .nil) q)
structure Mk (K:A4) (C f:Addr):Prop where
 makes:PySem.W.makesIn K C=true
 init:J7 K (.ref C) "__init__" = some (some (.ref f))
 fn:PySem.W.isFn K (.ref f)=true
 kp:j4 K (.ref C)=true
theorem C5k {pins:List (Addr×Obj)} {σ:St} {H:Hp} {s:Shared} {Q:VK} {us:List Value} {vs:List V} (M:Mk X.K C f) (F:B9 X.prog X.w X.K X.mg X.base CX k f fd ps sp) (hr:N6 (k + 1) X.A) (hb:Y0 X.K fd ps ds) (hd:C5 dvs ds)
  (hx:A2w CX X E) (I:Inv X pins σ H s) (r:C5 vs us)
  (h:∀x dx,H x=none->H dx=none->dx≠x->sp (.ref x::(vs++dvs)) (upd (upd H dx (.own x)) x (.ins C dx [])) (λv H2=>v=.non/\Q (.ref x) H2) E) :
  wpAny (model X.prog X.w) X.A (call (.ref C) us) (EP X pins σ Q) X.xe s:=by
 have hq:=h (s.heap.objs.size + 1) s.heap.objs.size (I.hok.fresh (A2k _)) (I.hok.fresh (F7 _)) (N5 (B6y _))
 have I2:=Inv.made (C:=C) I
 have r2:C5 (V.ref (s.heap.objs.size + 1)::(vs++dvs)) (Value.ref (s.heap.objs.size + 1)::(us++ds)):=.cons rfl (r.append hd)
 have hl:(Value.ref (s.heap.objs.size + 1)::us++ds).length=ps.length:=by
  have e:=r2.length
  rw[F.len _ _ _ _ hq] at e
  exact e.symm
 refine wpAny_call (C5b (f:=f) I.kIn M.makes M.init (beq_iff_eq.mp M.fn) (codeAny_mono (F.run _ X.stack _ _ ⟨Value.ref (s.heap.objs.size + 1)::us,[]⟩ (Value.ref (s.heap.objs.size + 1)::(us++ds)) _ _ E (hr.make C us [])
  (I2.env0.make C us []) (hb _ (Value.ref (s.heap.objs.size + 1)::us) I2.kIn hl) r2 hq) λr s' hq'=>?_))
 cases r with
 | error e=>exact hx pins σ _ _ e s' I2 hq'
 | ok fl=>
  cases fl with
  | ret u=>
   obtain⟨v,H',I3,rv,ev,q3⟩:=I2.after hq'
   subst ev
   exact⟨rv,⟨V.ref (s.heap.objs.size + 1),H',I3,rfl,q3⟩⟩
  | next=>exact False.elim hq'
  | brk=>exact False.elim hq'
  | cont=>exact False.elim hq'
theorem C5l (M:Mk X.K C f) (F:B9 X.prog X.w X.K X.mg X.base CX k f fd ps sp) (hr:N6 (k + 1) X.A) (hg:Gl X x) (hm:X.mg x=some (.ref C)) (hb:Y0 X.K fd ps ds) (hd:C5 dvs ds) (hx:A2w CX X E)
  (ha:PA X (e::es) t) (hdb:(x == ("__debug__" : Str))=false:=by decide) (he:starEach (e::es) X.env=(false,eval e X.env)::starEach es X.env:=by rfl) (hpl:(backTo pos (starEach es X.env)).any (·.1)=false:=by rfl) :
  PE X (.Call (.Name x p) (e::es) [] pos) (C5j C sp dvs E t):=by
 intro pins s σ H Q I h
 refine wpAny_Call_Name_kw (A59 I hg hm ?_ hdb)
 refine B16 (h₀:=X.base) I.ok.mod.kin M.kp (thn (ha pos pins s σ H _ I h) λus s1 zz207=>el5 zz207 λvs H1 I1 r q=>⟨I1.kIn,?_⟩) he hpl
 exact C5k M F hr hb hd hx I1 r q
end
section
variable {X:Cx} {CX:CXT} {k:Nat} {f C:Addr} {fd:FuncData} {ps ks:List Str} {sp:Sp} {E:XK} {x m:Str} {p pos apos kpos:Pos} {e o:Expr} {es:List Expr} {kws:List Keyword} {te ta:TE} {t tk:TA} {nm:Option Str}
variable {g:List Value->List Value->List Value} {gV:List V->List V->List V}
end
structure D3 (N P:List Str) (sc:Scope):Prop where
 kind:sc.kind=.function
 co:sc.isCoroutine=false
 gen:sc.isGenerator=false
 nd:N.Nodup
 pre:N.take P.length=P
 par:∀x∈P,sc.names.lookup x=some .local\/sc.names.lookup x=some .cell
 nofree:∀y∈sc.names,y.2≠.free
theorem B7z {kindOf:Str->Option NameKind} {x:Str}:∀{binds:List (Str×Value)} {m:Str->Option Value},(∀v,(x,v)∉binds)->bindL kindOf binds m x=m x
 | [],_,_=>rfl
 | (n,v)::r,m,h=>by
  unfold bindL
  rw[B7z λw hw=>h w (C8 _ hw)]
  split
  ·have:x≠n:=by rintro rfl;exact h v D4
   simp [this]
  ·rfl
theorem B70 {kindOf:Str->Option NameKind} {x:Str}:∀{binds:List (Str×Value)} {m:Str->Option Value},(∀v,(x,v)∉binds)->bindC kindOf binds m x=m x
 | [],_,_=>rfl
 | (n,v)::r,m,h=>by
  unfold bindC
  rw[B70 λw hw=>h w (C8 _ hw)]
  split
  ·rfl
  ·have:x≠n:=by rintro rfl;exact h v D4
   simp [this]
theorem B71 {kindOf:Str->Option NameKind} {x:Str} {v:Value}:∀{P:List Str} {vs:List Value} {i:Nat} {m:Str->Option Value},P.Nodup->P[i]?=some x->vs[i]?=some v->kindOf x=some .local->
  bindL kindOf (P.zip vs) m x=some v
 | [],_,_,_,_,h,_,_=>by simp at h
 | _::_,[],_,_,_,_,h,_=>by simp at h
 | p::P,w::vs,0,m,nd,h1,h2,hk=>by
  simp at h1 h2;subst h1;subst h2
  show bindL kindOf ((p,w)::P.zip vs) m p=_
  unfold bindL
  rw[B7z λv hv=>(B17.mp nd).1 (List.of_mem_zip hv).1,if_pos hk]
  simp
 | p::P,w::vs,i + 1,m,nd,h1,h2,hk=>by
  show bindL kindOf ((p,w)::P.zip vs) m x=_
  unfold bindL
  exact B71 (i:=i) (B17.mp nd).2 (by simpa using h1) (by simpa using h2) hk
theorem B72 {kindOf:Str->Option NameKind} {x:Str} {v:Value}:∀{P:List Str} {vs:List Value} {i:Nat} {m:Str->Option Value},P.Nodup->P[i]?=some x->vs[i]?=some v->kindOf x≠some .local->
  bindC kindOf (P.zip vs) m x=some v
 | [],_,_,_,_,h,_,_=>by simp at h
 | _::_,[],_,_,_,_,h,_=>by simp at h
 | p::P,w::vs,0,m,nd,h1,h2,hk=>by
  simp at h1 h2;subst h1;subst h2
  show bindC kindOf ((p,w)::P.zip vs) m p=_
  unfold bindC
  rw[B70 λv hv=>(B17.mp nd).1 (List.of_mem_zip hv).1,if_neg hk]
  simp
 | p::P,w::vs,i + 1,m,nd,h1,h2,hk=>by
  show bindC kindOf ((p,w)::P.zip vs) m x=_
  unfold bindC
  exact B72 (i:=i) (B17.mp nd).2 (by simpa using h1) (by simpa using h2) hk
def start (N:List Str) (vs:List V):St:=vs.map some++E5 (N.length - vs.length) none
def O6 (CX:CXT) (P:Program) (w:World) (K:A4) (mg:Str->Option Value) (base:Heap) (N:List Str) (qual:Str) (scope:Scope) (f:Addr) (cd:Value) (A:Around) (outer:List Env) (s:Shared) (H:Hp) (E:XK):Cx where
 prog:=P
 w:=w
 K:=K
 mg:=mg
 base:=base
 A:=A.deeper (envOfC qual scope s.heap.objs.size f cd)
 N:=N
 s₀:=s
 H₀:=H
 env:=envOfC qual scope s.heap.objs.size f cd
 outer:=outer
 stack:=envOfC qual scope s.heap.objs.size f cd::outer
 ex:=[]
 calm:=true
 fn:=λ_=>true
 pn:=[]
 xe:=λe s'=>wpAny (model P w) (A.deeper (envOfC qual scope s.heap.objs.size f cd)) (leaving (envOfC qual scope s.heap.objs.size f cd) e) (λ_ s''=>CX outer H s E e s'') (λe' s''=>CX outer H s E e' s'') s'
theorem B73 {sc:Scope} {n:Nat} {x:Str} (h:sc.names.lookup x=some .cell):∃c,(cellsFrom n sc.names []).lookup x=some c:=by
 have q:=C3u sc.names n [] (.inl h)
 exact Option.isSome_iff_exists.mp q
theorem B74 {CX:CXT} {P:Program} {w:World} {K:A4} {mg:Str->Option Value} {base:Heap} {N ps:List Str} {qual:Str} {scope:Scope} {f:Addr} {cd:Value} {A:Around} {outer:List Env} {s s1:Shared} {H:Hp} {E:XK} {us:List Value} {vs:List V}
  (S:D3 N ps scope) (hd:A.handled=none) (e0:A1w P w K mg base A outer s H) (hl:vs.length=ps.length) (r:C5 vs us)
  (x:InCallC s s.heap.objs.size (bindL (envOfC qual scope s.heap.objs.size f cd).kindOf (ps.zip us) λ_=>none) (cellsFrom (s.heap.objs.size + 1) scope.names []) (bindC (envOfC qual scope s.heap.objs.size f cd).kindOf (ps.zip us) λ_=>none) s1) :
  Inv (O6 CX P w K mg base N qual scope f cd A outer s H E) [] (start N vs) H s1:=by
 have hpl:ps.length<=N.length:=by have:=congrArg B18 S.pre;rw[Z0] at this;lia
 obtain⟨h1,tk,rfl,hk⟩:=x.done
 have noA:∀b:Addr,b∉(O6 CX P w K mg base N qual scope f cd A outer s H E).ex:=λb z=>absurd (show b∈([]:List Addr) from z) (by simp)
 refine⟨⟨e0.mod,S.kind,rfl,rfl,F7 _,λy z c h1 h2=>?_,λy hy=>?_,λy c _ h=>?_,λ_=>hd,Around.frames_deeper e0.frames,.inr ⟨rfl,rfl⟩,λb z=>absurd z (noA b),e0.bs,e0.bsz,λb _ _=>noA b,λb z=>absurd z (noA b),e0.funs,e0.frf⟩,
  rfl,e0.bare,Un.kept hk,⟨_,x.toInCall.ns,λi y v h1 h2 h3=>?_⟩,λy c h=>⟨_,x.cell y c h⟩,e0.hok.fresh (F7 _),λy c h=>?_,λp hp=>absurd (show p∈([]:List (Addr×Obj)) from hp) (by simp),e0.hok.kept hk,?_⟩
 ·exact name_of_addr x.apart (B19 h1) (B19 h2)
 ·have hy:scope.names.lookup y=some .cell\/scope.names.lookup y=some .free:=hy
  rcases hy with hy | hy
  ·exact B73 hy
  ·exact absurd rfl (S.nofree _ (B19 hy))
 ·exact A7p (x.above y c (B19 h))
 ·have hi:i < vs.length:=by
   unfold start at h2
   by_cases hi:i < vs.length
   ·exact hi
   ·rw[A7q (by simpa using hi)] at h2
    rw[A7r] at h2
    split at h2 <;> cases h2
  have ha:vs[i]?=some v:=by
   unfold start at h2
   rw[A5w (by simpa using hi),S0] at h2
   cases e:vs[i]? with
   | none=>rw[e] at h2;cases h2
   | some a=>rw[e] at h2;cases h2;rfl
  obtain⟨u,hu,rv⟩:=r.get ha
  have hp:ps[i]?=some y:=by
   rw[<-S.pre,List.getElem?_take_of_lt (by lia)];exact h1
  have ndP:ps.Nodup:=by rw[<-S.pre];exact S.nd.sublist (List.take_sublist _ _)
  refine⟨u,rv,?_⟩
  rcases S.par y (X1 hp) with k | k
  ·exact .inl ⟨k,B71 ndP hp hu k⟩
  ·obtain⟨c,e⟩:=B73 (n:=s.heap.objs.size + 1) k
   refine .inr ⟨.inl k,c,e,?_⟩
   have q:=x.cell y c e
   rw[B72 ndP hp hu (by show scope.names.lookup y≠_;rw[k];decide)] at q
   exact q
 ·exact e0.hok.fresh (A7p (x.above y c (B19 h)))
 ·unfold start
  show _=N.length
  rw[Q1,D6,A1o]
  lia
theorem B75 {CX:CXT} {P:Program} {w:World} {K:A4} {mg:Str->Option Value} {base:Heap} {k:Nat} {f:Addr} {name qual:Str} {params:Arguments} {body:List Stmt} {scope:Scope} {dV kV doc pm cdv ct oc:Value} {an od:Option Addr}
  {osl:Array (Option Value)} {N ps:List Str} {sp:Sp} (lk:K.lookup f=some ⟨oc,od,.func (A0n name qual params body scope dV kV doc pm an cdv ct),osl⟩) (hcd:A9i K cdv qual=true) (S:D3 N ps scope)
  (len:∀vs H Q E,sp vs H Q E->vs.length=ps.length)
  (hbody:∀(A:Around) (outer:List Env) (s:Shared) (H:Hp) (vs:List V) (Q:VK) (E:XK),N6 k (A.deeper (envOfC qual scope s.heap.objs.size f cdv))->sp vs H Q E->
   ∃t,PSs (O6 CX P w K mg base N qual scope f cdv A outer s H E) body t/\t { nx:=λ_ H'=>Q .non H',rt:=Q } (start N vs) H) :
  B9 P w K mg base CX (k + 1) f (A0n name qual params body scope dV kV doc pm an cdv ct) ps sp:=by
 refine⟨len,λA outer s H args us vs Q E hr e0 hb r hsp=>?_⟩
 have hl:=len _ _ _ _ hsp
 have KX:K.In s.heap:=e0.mod.kin.keeps λb o e=>(e0.bs b o e).1
 have lim:s.heap.NoLimit:=e0.mod.nolimit.keeps λb o e=>(e0.bs b o e).1
 have hkind:∀y∈ps.zip us,scope.names.lookup y.1=some .local\/(scope.names.lookup y.1=some .cell/\((cellsFrom (s.heap.objs.size + 1) scope.names []).lookup y.1).isSome=true):=λ⟨n,v⟩ hy=>by
  rcases S.par n (List.of_mem_zip hy).1 with q | q
  ·exact .inl q
  ·exact .inr ⟨q,C3u _ _ _ (.inl q)⟩
 refine codeAny_call_function hr.depth (KX _ _ lk) rfl S.co S.gen rfl (PySem.W.codeRec_of KX hcd) (hb _ _ _ _ ?_)
 refine wpAny_newFunctionEnv_cells S.kind hkind λenv he s1 x=>?_
 subst he
 refine⟨lim.keeps x.toInCall.keep,codeAny_func ?_⟩
 obtain⟨t,ht,hq⟩:=hbody A outer s H vs Q E (hr.deeper _) hsp
 have I:Inv (O6 CX P w K mg base N qual scope f cdv A outer s H E) [] (start N vs) H s1:=B74 S hr.hd e0 hl r x
 refine wpAny_mono (ht [] s1 (start N vs) H _ I hq) (λfl s' hs=>?_) λe s' hs=>hs
 have fin:∀{σ':St} {H':Hp} {v:V} {u:Value},Inv (O6 CX P w K mg base N qual scope f cdv A outer s H E) [] σ' H' s'->C9 v u->Q v H'->CE outer P w H s Q u s':=
  λ{σ' H' v u} J rv q=>⟨v,H',J.os,J.bare,J.base,J.hok,rv,q⟩
 cases fl with
 | ret u=>
  obtain⟨v,σ',H',J,rv,q⟩:=hs
  exact fin J rv q
 | next=>
  obtain⟨σ',H',J,q⟩:=hs
  exact fin (v:=V.non) (u:=Value.none) J rfl q
 | brk=>
  obtain⟨_,_,_,q⟩:=hs
  exact False.elim q
 | cont=>
  obtain⟨_,_,_,q⟩:=hs
  exact False.elim q
section
variable {X:Cx} {x:Str} {p pos:Pos} {e:Expr} {es:List Expr} {t:TA} {id T:String} {r:List V->Hp->VK->Prop}
def tCB (r:List V->Hp->VK->Prop) (t:TA):TE:=fun σ H Q=>t σ H λvs H1=>r vs H1 Q
theorem G8 (hc:X9 X (.builtin id) r) (hg:Gl X x) (hm:X.mg x=none) (hv:bootBuiltins x=some (.builtin id)) (ha:PA X (e::es) t) (hn:x≠ "__name__" :=by decide) (hdb:(x == ("__debug__" : Str))=false:=by decide)
  (he:starEach (e::es) X.env=(false,eval e X.env)::starEach es X.env:=by rfl) (hpl:(backTo pos (starEach es X.env)).any (·.1)=false:=by rfl):PE X (.Call (.Name x p) (e::es) [] pos) (tCB r t):=by
 intro pins s σ H Q I h
 refine wpAny_Call_Name_kw (A2p I hg hm hv ?_ hn hdb)
 exact PyProof.Rows.callWith_builtin1 (thn (ha pos pins s σ H _ I h) λus s1 zz213=>el5 zz213 λvs H1 I1 r1 q1=>hc pins s1 σ H1 vs us Q I1 r1 q1) he hpl
theorem j9 (hc:X9 X (.type T) r) (hg:Gl X x) (hm:X.mg x=none) (hv:bootBuiltins x=some (.type T)) (ha:PA X (e::es) t) (hn:x≠ "__name__" :=by decide) (hdb:(x == ("__debug__" : Str))=false:=by decide)
  (he:starEach (e::es) X.env=(false,eval e X.env)::starEach es X.env:=by rfl) (hpl:(backTo pos (starEach es X.env)).any (·.1)=false:=by rfl):PE X (.Call (.Name x p) (e::es) [] pos) (tCB r t):=by
 intro pins s σ H Q I h
 refine wpAny_Call_Name_kw (A2p I hg hm hv ?_ hn hdb)
 exact PyProof.Rows.callWith_type1 (thn (ha pos pins s σ H _ I h) λus s1 zz214=>el5 zz214 λvs H1 I1 r1 q1=>hc pins s1 σ H1 vs us Q I1 r1 q1) he hpl
end
end L2
namespace HT
open PySem PyProof.Rows
section
open PySem.SeqAt
open PySem.AutoSeq1 (wpAny_loadPart')
open PySem.MeetsSeq PySem.MeetsSeq2 PySem.MeetsSeq3
end
section
variable {prog:Program} {w:World} {A:Around} {E:Value->Shared->Prop} {s:Shared}
theorem cat_tup {t b:Addr} {vs ws:List Value} {Q:Value->Shared->Prop} (ht:IsTup s.heap t vs.toArray) (hb:IsTup s.heap b ws.toArray) (hv:vs≠[])
  (h1:ws=[]->Q (.ref t) s) (h2:ws≠[]->Q (.ref s.heap.objs.size) { s with heap:=s.heap.push { cls:=.type "tuple",data:=.seq (vs++ws).toArray } })
  (hsz:vs.length + ws.length<=sizeLine):wpAny (model prog w) A (binaryOp .Add (.ref t) (.ref b)) Q E s:=by
 obtain⟨⟨cls,dd,data,sl⟩,ho,hc,n,hd⟩:=id ht
 obtain⟨⟨cls2,dd2,data2,sl2⟩,ho2,hc2,n2,hd2⟩:=id hb
 simp only at hc hd hc2 hd2
 subst hc hd hc2 hd2
 have e:vs.toArray++ws.toArray=(vs++ws).toArray:=by simp
 by_cases hw:ws=[]
 ·exact concat_meets ⟨_,ho,rfl⟩ ⟨_,ho2,rfl⟩ noFill_tuple_add seq_tuple_add PySem.F.slot_tuple_add PySem.F.entry_tuple_add (PySem.F.args_tuple_add_2 _ _)
   (tuple_addW1 t b vs.toArray ws.toArray n n2 dd dd2 sl sl2 (by simpa using hv) (by simp [hw])) ⟨ho,ho2,h1 hw⟩
 ·refine concat_meets ⟨_,ho,rfl⟩ ⟨_,ho2,rfl⟩ noFill_tuple_add seq_tuple_add PySem.F.slot_tuple_add PySem.F.entry_tuple_add (PySem.F.args_tuple_add_2 _ _)
   (tuple_addW2 t b vs.toArray ws.toArray n n2 dd dd2 sl sl2 (by simpa using hv) (by simpa using hw) (by rw[O2,O2];exact hsz)) ⟨ho,ho2,?_⟩
  rw[e]
  exact h2 hw
def sIx (n d:Nat):Option Int->Nat
 | none=>d
 | some v=>if v < 0 then (v + (n:Int)).toNat else min v.toNat n
theorem sIx_none (n d:Nat):sIx n d none=d:=rfl
theorem sIx_nat (n d k:Nat):sIx n d (some (k:Int))=min k n:=by
 show (if (k:Int) < 0 then ((k:Int) + (n:Int)).toNat else min (k:Int).toNat n)=min k n
 rw[if_neg (by lia),Int.toNat_natCast]
end
end HT
namespace L2
open PySem PySem.Spec PyProof.Rows
abbrev TO:=St->Hp->(Option Int->Hp->Prop)->Prop
def PO (X:Cx) (e:Option Expr) (t:TO):Prop:=
 ∀(pins:List (Addr×Obj)) (s:Shared) (σ:St) (H:Hp) (Q:Option Int->Hp->Prop),Inv X pins σ H s->t σ H Q->
  wpAny (model X.prog X.w) X.A (evalPart e X.env) (λu s'=>∃o H',Inv X pins σ H' s'/\IsPart u o/\Q o H') X.xe s
def C5m:TO:=λ_ H Q=>Q none H
def C5n (t:TE):TO:=fun σ H Q=>t σ H λx H1=>∃i,x=.int i/\Q (some i) H1
theorem B76 {ns:List Int}:∀{us:List Value},C5 (ns.map V.int) us->IntsAre us ns:=by
 induction ns with
 | nil=>intro us r;rw[A9j] at r;cases r;exact .nil
 | cons n ns ih=>
  intro us r
  rw[P2] at r
  cases r with
  | cons r1 r2=>
   obtain⟨t,e⟩:=r1
   subst e
   exact .cons n t (ih r2)
section
variable {X:Cx} {e:Expr} {te:TE} {lo hi:Option Expr} {tl th:TO} {pos p2:Pos}
theorem B77:PO X none C5m:=by
 intro pins s σ H Q I h
 rw[evalPart_none]
 exact wpAny_pure ⟨none,H,I,.none,h⟩
theorem B78 (h:PE X e te):PO X (some e) (C5n te):=by
 intro pins s σ H Q I hw
 rw[evalPart_some]
 refine thn (h pins s σ H _ I hw) λu s1 zz215=>el5 zz215 λx H1 I1 r1 q1=>?_
 obtain⟨i,rfl,q⟩:=q1
 obtain⟨t,rfl⟩:=r1
 exact⟨some i,H1,I1,.int i t,q⟩
def SlR (X:Cx) (r:V->Option Int->Option Int->Hp->VK->Prop):Prop:=
 ∀(pins:List (Addr×Obj)) (s:Shared) (σ:St) (H:Hp) (x:V) (v vl vu:Value) (lo hi:Option Int) (sl:Addr) (Q:VK),Inv X pins σ H s->C9 x v->s.heap.IsSliceOf sl vl vu .none->IsPart vl lo->IsPart vu hi->r x lo hi H Q->
  ∃T id,typeLookup (.type T) "__getitem__" = pure (some (.builtin id))/\s.TypeIs v T/\wpAny (model X.prog X.w) X.A (getItem v (.ref sl)) (EP X pins σ Q) X.xe s
def tSl (r:V->Option Int->Option Int->Hp->VK->Prop) (te:TE) (tl th:TO):TE:=fun σ H Q=>te σ H λx H1=>tl σ H1 λl H2=>th σ H2 λu H3=>r x l u H3 Q
theorem B21 {r:V->Option Int->Option Int->Hp->VK->Prop} (hr:SlR X r) (he:PE X e te) (hl:PO X lo tl) (hu:PO X hi th):PE X (.Subscript e (.Slice lo hi none p2) pos) (tSl r te tl th):=by
 intro pins s σ H Q I h
 refine Subscript_ (thn (he pins s σ H _ I h) λv s1 zz216=>el5 zz216 λx H1 I1 r1 q1=>?_)
 refine wpAny_Slice (thn (hl pins s1 σ H1 _ I1 q1) λvl s2 zz217=>el5 zz217 λl H2 I2 pl q2=>thn (hu pins s2 σ H2 _ I2 q2) λvu s3 zz218=>el5 zz218 λu H3 I3 pu q3=>?_)
 rw[evalPart_none]
 refine wpAny_pure ?_
 have I4:Inv X pins σ H3 { s3 with heap:=s3.heap.push { cls:=.type "slice",data:=.fields #[vl,vu,.none] } }:=I3.kept (t':=s3.toks) λb ob q=>L6 _ q
 obtain⟨T,id,hT,ht,hg⟩:=hr pins { s3 with heap:=s3.heap.push { cls:=.type "slice",data:=.fields #[vl,vu,.none] } } σ H3 x v vl vu l u s3.heap.objs.size Q I4 r1 (Heap.IsSliceOf.new ..) pl pu q3
 show wpAny (model X.prog X.w) X.A (subscriptTail e (.Slice lo hi none p2) v (.ref s3.heap.objs.size)) (EP X pins σ Q) X.xe { s3 with heap:=s3.heap.push { cls:=.type "slice",data:=.fields #[vl,vu,.none] } }
 exact tail_any (ops:=[.ref s3.heap.objs.size,v]) ht hT hg (by with_unfolding_all rfl)
def A3w (xs:List V) (lo hi:Option Int):List V:=(xs.drop (HT.sIx xs.length 0 lo)).take (HT.sIx xs.length xs.length hi - HT.sIx xs.length 0 lo)
theorem C5o (xs:List V) (lo hi:Option Int):(A3w xs lo hi).length<=xs.length:=by
 unfold A3w
 rw[Z0,B6z]
 lia
def C5p (K:A4):R2:=λx y H Q=>∃a b xs ys,x=.ref a/\y=.ref b/\SqT K H a xs/\SqT K H b ys/\xs≠[]/\xs.length + ys.length<=sizeLine/\
 (ys=[]->Q (.ref a) H)/\(ys≠[]->∀p,H p=none->Q (.ref p) (upd H p (.tup (xs++ys))))
theorem C5.nil_iff {xs:List V} {us:List Value} (r:C5 xs us):us=[]↔xs=[]:=by
 cases r with
 | nil=>simp
 | cons _ _=>simp
theorem C5q:OpR X (binaryOp .Add) (C5p X.K):=by
 intro pins s σ H x y v u Q I rx ry h
 obtain⟨a,b,xs,ys,rfl,rfl,ha,hb,hx,hz,q1,q2⟩:=h
 cases rx
 cases ry
 obtain⟨its,r1,p1,_⟩:=I.tuple ha
 obtain⟨its2,r2,p2,_⟩:=I.tuple hb
 refine HT.cat_tup p1 p2 (λz=>hx (r1.nil_iff.mp z)) (λz=>⟨.ref a,H,I,rfl,q1 (r2.nil_iff.mp z)⟩) (λz=>?_) (by rw[<-r1.length,<-r2.length];exact hz)
 refine⟨.ref s.heap.objs.size,_,I.laid (t':=s.toks) (o:=.tup (xs++ys)) (λb ob q=>L6 _ q) (F7 _) ?_,rfl,q2 (λw=>z (r2.nil_iff.mpr w)) _ (I.hok.fresh (F7 _))⟩
 exact⟨by rw[Q1];exact hz,_,r1.append r2,IsTup.new _ _⟩
end
def ixN (n:Nat) (i:Int):Option Nat:=if 0<=i then (if i < n then some i.toNat else none) else if -(n:Int)<=i then some (i + n).toNat else none
def atI {α:Type} (xs:List α) (i:Int):Option α:=(ixN xs.length i).bind λj=>xs[j]?
theorem B79 {n:Nat} {i:Int} {j:Nat} (h:ixN n i=some j):seqIndex? i n=some j/\j < n/\-(n:Int)<=i/\i < n:=by
 unfold ixN at h
 by_cases h0:0<=i
 ·rw[if_pos h0] at h
  by_cases h1:i < n
  ·rw[if_pos h1] at h
   have e:i.toNat=j:=Option.some.inj h
   exact⟨by rw[seqIndex_of h0 h1,e],by lia,by lia,h1⟩
  ·rw[if_neg h1] at h;cases h
 ·rw[if_neg h0] at h
  by_cases h1:-(n:Int)<=i
  ·rw[if_pos h1] at h
   have e:(i + n).toNat=j:=Option.some.inj h
   exact⟨by rw[seqIndex_neg (by lia) h1,e],by lia,h1,by lia⟩
  ·rw[if_neg h1] at h;cases h
theorem A97 {α:Type} {xs:List α} {i:Int} {v:α} (h:atI xs i=some v):∃j,seqIndex? i xs.length=some j/\xs[j]?=some v/\j < xs.length/\-(xs.length:Int)<=i/\i < xs.length:=by
 unfold atI at h
 cases e:ixN xs.length i with
 | none=>rw[e] at h;cases h
 | some j=>
  rw[e] at h
  obtain⟨h1,h2,h3,h4⟩:=B79 e
  exact⟨j,h1,h,h2,h3,h4⟩
theorem A0q {α:Type} {xs:List α} {j:Nat} {v:α} (h:xs[j]?=some v):atI xs (j:Int)=some v:=by
 have hj:j < xs.length:=(A2h.mp h).1
 have e:ixN xs.length (j:Int)=some j:=by
  unfold ixN
  rw[if_pos (by lia),if_pos (by lia)];simp
 unfold atI;rw[e];exact h
theorem B8a {α:Type} (xs:List α) (v:α):atI (xs++[v]) (-1)=some v:=by
 have hl:(xs++[v]).length=xs.length + 1:=by simp
 have e:ixN (xs++[v]).length (-1)=some xs.length:=by
  unfold ixN
  rw[hl,if_neg DD,if_pos (by lia)]
  congr 1
  lia
 unfold atI
 rw[e]
 show (xs++[v])[xs.length]?=some v
 simp
def B22 (b:Expr):Prop:=∀o i,subscripted b false o i=operate [o,i] (getItem o i)
def IxR (X:Cx) (r:R2):Prop:=
 ∀(value slice:Expr) (pins:List (Addr×Obj)) (s:Shared) (σ:St) (H:Hp) (x y:V) (v u:Value) (Q:VK),Inv X pins σ H s->C9 x v->C9 y u->r x y H Q->
  subscripted slice false v u=operate [v,u] (getItem v u)->wpAny (model X.prog X.w) X.A (subscriptTail value slice v u) (EP X pins σ Q) X.xe s
def MtR (X:Cx) (id:String) (r:V->List V->Hp->VK->Prop):Prop:=
 ∀(pins:List (Addr×Obj)) (s:Shared) (σ:St) (H:Hp) (x:V) (xs:List V) (v:Value) (us:List Value) (Q:VK),Inv X pins σ H s->C9 x v->C5 xs us->r x xs H Q->
  wpAny (model X.prog X.w) X.A (call (.builtin id) (v::us)) (EP X pins σ Q) X.xe s
section
variable {X:Cx} {a b:Expr} {ta tb:TE} {pos:Pos}
theorem IxR.or {r r':R2} (h:IxR X r) (h':IxR X r'):IxR X (λx y H Q=>r x y H Q\/r' x y H Q):=by
 intro value slice pins s σ H x y v u Q I rx ry q hs
 rcases q with q | q
 ·exact h value slice pins s σ H x y v u Q I rx ry q hs
 ·exact h' value slice pins s σ H x y v u Q I rx ry q hs
theorem G9 {r:R2} (hr:IxR X r) (ha:PE X a ta) (hb:PE X b tb) (hs:B22 b):PE X (.Subscript a b pos) (tOp r ta tb):=by
 intro pins s σ H Q I h
 exact Subscript_ (B2v ha hb I h λv u s2 x y H2 I2 rx ry q=>hr a b pins s2 σ H2 x y v u Q I2 rx ry q (hs _ _))
def d8 (K:A4):R2:=λx y H Q=>∃p xs i v,x=.ref p/\y=.int i/\SqL K H p xs/\atI xs i=some v/\Q v H
def B8b (K:A4):R2:=λx y H Q=>∃p xs i v,x=.ref p/\y=.int i/\SqT K H p xs/\atI xs i=some v/\Q v H
def B8c:R2:=λx y H Q=>∃z i c,x=.str z/\y=.int i/\z.length<=sizeLine/\atI z.cps.toList i=some c/\Q (.str ⟨#[c]⟩) H
theorem Q4:IxR X (d8 X.K):=by
 intro value slice pins s σ H x y v u Q I rx ry h hs
 obtain⟨p,xs,i,z,rfl,rfl,hq,he,q⟩:=h
 cases rx
 obtain⟨t,rfl⟩:=ry
 obtain⟨its,r,pl,hz⟩:=I.list hq
 obtain⟨j,h1,h2,h3,h4,h5⟩:=A97 he
 obtain⟨w,ew,rw'⟩:=r.get h2
 have hl:=r.length
 have hn:=A6b
 have fin:EP X pins σ Q w s:=⟨z,H,I,rw',q⟩
 by_cases h0:0<=i
 ·have hj:i.toNat=j:=by
   rw[seqIndex_of h0 h5] at h1
   exact Option.some.inj h1
  exact item_listR pl.isList h0 (by lia) (by rw[hj];simpa using ew) fin hs
 ·have hj:(i + (its.toArray.size:Int)).toNat=j:=by
   rw[seqIndex_neg (by lia) h4] at h1
   rw[O2,<-hl]
   exact Option.some.inj h1
  exact subscriptTail_builtinR (x:=w) pl.isList.typeIs slot_list_getitem.lookup
   (wpAny_getItem_list_neg (Q:=λr s'=>r=w/\EP X pins σ Q r s') pl.isList (by lia) (by rw[O2] <;> lia) (by lia) (by rw[hj];simpa using ew) ⟨rfl,fin⟩) hs
theorem C5r:IxR X (B8b X.K):=by
 intro value slice pins s σ H x y v u Q I rx ry h hs
 obtain⟨p,xs,i,z,rfl,rfl,hq,he,q⟩:=h
 cases rx
 obtain⟨t,rfl⟩:=ry
 obtain⟨its,r,pl,hz⟩:=I.tuple hq
 obtain⟨j,h1,h2,h3,h4,h5⟩:=A97 he
 obtain⟨w,ew,rw'⟩:=r.get h2
 have hl:=r.length
 have hn:=A6b
 have fin:EP X pins σ Q w s:=⟨z,H,I,rw',q⟩
 exact subscriptTail_builtinR (x:=w) pl.typeIs slot_tuple_getitem.lookup
  (getItem_tuple (j:=j) (Q:=λr s'=>r=w/\EP X pins σ Q r s') pl (by lia) (by lia) (by rw[O2,<-hl];exact h1) (by simpa using ew) ⟨rfl,fin⟩) hs
theorem C5s:IxR X B8c:=by
 intro value slice pins s σ H x y v u Q I rx ry h hs
 obtain⟨z,i,c,rfl,rfl,hz,he,q⟩:=h
 obtain⟨t,rfl⟩:=rx
 obtain⟨t',rfl⟩:=ry
 obtain⟨j,h1,h2,h3,h4,h5⟩:=A97 he
 have hl:z.cps.toList.length=z.length:=by simp [Str.length]
 rw[hl] at h1 h4 h5
 have hn:=A6b
 exact tail_any (typeIs_str s z t) slot_str_getitem.lookup (getItem_str (c:=c) (by
  have e1:decide (i < -(2 ^ 63:Int))=false:=decide_eq_false (by lia)
  have e2:decide (i ≥ 2 ^ 63)=false:=decide_eq_false (by lia)
  rw[e1,e2,Bool.or_false]) (by rw[h1];simpa using h2) ⟨.str ⟨#[c]⟩,H,I.tok _,⟨_,rfl⟩,q⟩) hs
def rIx (K:A4):R2:=λx y H Q=>d8 K x y H Q\/B8b K x y H Q\/B8c x y H Q
theorem k9:IxR X (rIx X.K):=Q4.or (C5r.or C5s)
theorem C5t (its:List Value) (n j:Nat) (u:Value):A5x (·.setIfInBounds j u) { cls:=.type "list",data:=.seq its.toArray n }={ cls:=.type "list",data:=.seq (its.set j u).toArray n }:=by
 simp [A5x]
theorem Inv.lst {pins:List (Addr×Obj)} {σ:St} {H:Hp} {s:Shared} {p:Addr} {xs:List V} (I:Inv X pins σ H s) (h:H p=some (.lst xs)) :
  ∃(its:List Value) (n:Nat),C5 xs its/\s.heap.get? p=some { cls:=.type "list",data:=.seq its.toArray n }/\xs.length<=sizeLine:=by
 obtain⟨z,its,n,r,e⟩:=I.hok p _ h
 exact⟨its,n,r,e,z⟩
theorem Inv.lstUpd {pins:List (Addr×Obj)} {σ:St} {H:Hp} {s:Shared} {p:Addr} {xs ys:List V} {its its':List Value} {n n':Nat} {f:Obj->Obj} (I:Inv X pins σ H s) (h:H p=some (.lst xs))
  (ho:s.heap.get? p=some { cls:=.type "list",data:=.seq its.toArray n }) (hf:f { cls:=.type "list",data:=.seq its.toArray n }={ cls:=.type "list",data:=.seq its'.toArray n' }) (r:C5 ys its') (hz:ys.length<=sizeLine) (t:Nat) :
  Inv X pins σ (upd H p (.lst ys)) { s with heap:=s.heap.update p f,toks:=t }:=by
 have e:(s.heap.update p f).get? p=some { cls:=.type "list",data:=.seq its'.toArray n' }:=by
  rw[A5y f ho (by rw[hf] <;> rfl),hf]
 refine I.write (x:=p) (e:=p) (by rw[h];trivial) (.inl rfl) (λb u hb q=>(p9 _ _ (Ne.symm hb)).trans q) ⟨_,e⟩ ?_
 exact⟨hz,its',n',r,e⟩
def B8d:V->V->V->Hp->(Hp->Prop)->Prop:=λo i v H Q=>∃p xs k j,o=.ref p/\i=.int k/\H p=some (.lst xs)/\ixN xs.length k=some j/\Q (upd H p (.lst (xs.set j v)))
theorem f7:B2p X B8d:=by
 intro pins s σ H o i v ov iv u Q I ro ri rv h
 obtain⟨p,xs,k,j,rfl,rfl,hp,hj,q⟩:=h
 cases ro
 obtain⟨t,rfl⟩:=ri
 obtain⟨its,n,r,ho,hz⟩:=I.lst hp
 obtain⟨h1,h2,h3,h4⟩:=B79 hj
 have hl:=r.length
 have hn:=A6b
 have I':Inv X pins σ (upd H p (.lst (xs.set j v))) { s with heap:=s.heap.update p (A5x (·.setIfInBounds j u)) }:=
  I.lstUpd hp ho (C5t its n j u) (r.set rv j) (by rw[X2];exact hz) s.toks
 by_cases h0:0<=k
 ·have hk:k.toNat=j:=by
   rw[seqIndex_of h0 h4] at h1
   exact Option.some.inj h1
  exact PySem.W.ki_setAt ho h0 (by lia) (by rw[O2,<-hl];exact h4) (by rw[hk];exact⟨_,I',q⟩)
 ·have hk:(k + (its.toArray.size:Int)).toNat=j:=by
   rw[seqIndex_neg (by lia) h3] at h1
   rw[O2,<-hl]
   exact Option.some.inj h1
  exact PySem.W.ki_setBack ho (by lia) (by rw[O2,<-hl];exact h3) (by lia) (by rw[hk];exact⟨_,I',q⟩)
theorem C5u (lo hi:Option Int) (n:Nat):(sliceBounds lo hi none n).1=((HT.sIx n 0 lo:Nat):Int)/\(sliceBounds lo hi none n).2.1=((HT.sIx n n hi:Nat):Int)/\(sliceBounds lo hi none n).2.2=1:=by
 refine⟨?_,?_,rfl⟩
 ·cases lo with
  | none=>simp [sliceBounds,HT.sIx]
  | some i=>
   simp only[sliceBounds,HT.sIx,Option.getD_none,show (1:Int) > 0 by decide,if_true]
   by_cases h:i < 0
   ·simp only[h,if_true] <;> lia
   ·simp only[h,if_false] <;> lia
 ·cases hi with
  | none=>simp [sliceBounds,HT.sIx]
  | some i=>
   simp only[sliceBounds,HT.sIx,Option.getD_none,show (1:Int) > 0 by decide,if_true]
   by_cases h:i < 0
   ·simp only[h,if_true] <;> lia
   ·simp only[h,if_false] <;> lia
theorem C5v (its:List Value) (lo hi:Option Int):slicePick its.toArray lo hi none=((its.drop (HT.sIx its.length 0 lo)).take (HT.sIx its.length its.length hi - HT.sIx its.length 0 lo)).toArray:=by
 obtain⟨h1,h2,h3⟩:=C5u lo hi its.toArray.size
 unfold slicePick
 rw[h1,h2,h3]
 simp only[sliceRange_one,pick_run,O2] <;> rfl
def C5w (K:A4):V->Option Int->Option Int->Hp->VK->Prop:=λx lo hi H Q=>∃a xs,x=.ref a/\SqL K H a xs/\∀p,H p=none->Q (.ref p) (upd H p (.lst (A3w xs lo hi)))
theorem B23:SlR X (C5w X.K):=by
 intro pins s σ H x v vl vu lo hi sl Q I rx hs pl pu h
 obtain⟨a,xs,rfl,hx,q⟩:=h
 cases rx
 obtain⟨its,r,ht,hz⟩:=I.list hx
 have hlen:=r.length
 refine⟨"list",_,slot_list_getitem.lookup,ht.isList.typeIs,?_⟩
 refine wpAny_getItem_list_slice ht.isList hs pl pu .none (by simp) ?_ (by rw[O2] <;> lia)
 rw[C5v,<-hlen]
 refine⟨.ref s.heap.objs.size,_,I.laid (t':=s.toks) (o:=.lst (A3w xs lo hi)) (λb ob q=>L6 _ q) (F7 _) ?_,rfl,q _ (I.hok.fresh (F7 _))⟩
 exact⟨X0 (C5o xs lo hi) hz,_,0,(r.drop (HT.sIx xs.length 0 lo)).take (HT.sIx xs.length xs.length hi - HT.sIx xs.length 0 lo),V8 _ rfl⟩
def A1x:V->Bool
 | .non=>true
 | .bl _=>true
 | .int _=>true
 | .str _=>true
 | _=>false
def eqV:V->V->Bool
 | .non,.non=>true
 | .bl a,.bl b=>a == b
 | .bl a,.int b=>(if a then 1 else 0) == b
 | .int a,.bl b=>a == (if b then 1 else 0)
 | .int a,.int b=>a == b
 | .str a,.str b=>a == b
 | _,_=>false
theorem C5x {A:Around} {s:Shared} {y x:V} {u v:Value} (ry:C9 y u) (rx:C9 x v) (fy:A1x y=true) (fx:A1x x=true):SeqAt.EqAt A s u v (eqV y x):=by
 cases y with
 | non=>
  cases ry
  cases x with
  | non=>cases rx;exact SeqAt.EqAt.same _
  | bl b=>cases rx;exact SeqAt.EqAt.none_bool b
  | int b=>obtain⟨t,rfl⟩:=rx;exact SeqAt.EqAt.none_int b t
  | str b=>obtain⟨t,rfl⟩:=rx;exact SeqAt.EqAt.none_str b t
  | _=>exact absurd (show false=true from fx) R9
 | bl a=>
  cases ry
  cases x with
  | non=>cases rx;exact SeqAt.EqAt.bool_none a
  | bl b=>cases rx;exact SeqAt.EqAt.bool_bool a b
  | int b=>obtain⟨t,rfl⟩:=rx;exact SeqAt.EqAt.bool_int a b t
  | str b=>obtain⟨t,rfl⟩:=rx;exact SeqAt.EqAt.bool_str a b t
  | _=>exact absurd (show false=true from fx) R9
 | int a=>
  obtain⟨t',rfl⟩:=ry
  cases x with
  | non=>cases rx;exact SeqAt.EqAt.int_none a t'
  | bl b=>cases rx;exact SeqAt.EqAt.int_bool a t' b
  | int b=>obtain⟨t,rfl⟩:=rx;exact SeqAt.EqAt.int_int a t' b t
  | str b=>obtain⟨t,rfl⟩:=rx;exact SeqAt.EqAt.int_str a t' b t
  | _=>exact absurd (show false=true from fx) R9
 | str a=>
  obtain⟨t',rfl⟩:=ry
  cases x with
  | non=>cases rx;exact SeqAt.EqAt.str_none a t'
  | bl b=>cases rx;exact SeqAt.EqAt.str_bool a t' b
  | int b=>obtain⟨t,rfl⟩:=rx;exact SeqAt.EqAt.str_int a t' b t
  | str b=>obtain⟨t,rfl⟩:=rx;exact SeqAt.EqAt.str_str a t' b t
  | _=>exact absurd (show false=true from fx) R9
 | _=>exact absurd (show false=true from fy) R9
def eqU (x:V) (u:Value):Bool:=match u with
 | .none=>eqV .non x
 | .bool b=>eqV (.bl b) x
 | .int i _=>eqV (.int i) x
 | .str z _=>eqV (.str z) x
 | _=>false
theorem B8e {x y:V} {u:Value} (r:C9 y u) (f:A1x y=true):eqU x u=eqV y x:=by
 cases y with
 | non=>cases r;rfl
 | bl b=>cases r;rfl
 | int i=>obtain⟨t,rfl⟩:=r;rfl
 | str z=>obtain⟨t,rfl⟩:=r;rfl
 | _=>exact absurd (show false=true from f) R9
theorem B24 {x:V}:∀{xs:List V} {us:List Value},C5 xs us->xs.all A1x=true->us.any (eqU x)=xs.any λy=>eqV y x
 | _,_,.nil,_=>rfl
 | y::xs,u::us,.cons r t,f=>by
  rw[List.all_cons,r8] at f
  rw[A5z,A5z,B8e r f.1,B24 t f.2]
theorem B25 {A:Around} {s:Shared} {x:V} {v:Value} (rx:C9 x v) (fx:A1x x=true):∀{xs:List V} {us:List Value},C5 xs us->xs.all A1x=true->∀u∈us,SeqAt.EqAt A s u v (eqU x u)
 | _,_,.nil,_=>λu hu=>by cases hu
 | y::xs,u::us,.cons r t,f=>λu' hu=>by
  rw[List.all_cons,r8] at f
  rcases J8.mp hu with rfl | hu
  ·rw[B8e r f.1];exact C5x r rx f.1 fx
  ·exact B25 rx fx t f.2 u' hu
def inV (x:V) (xs:List V):Bool:=xs.any λy=>eqV y x
def rIn (K:A4) (neg:Bool):R2:=λx y H Q=>∃p xs,y=.ref p/\(SqL K H p xs\/SqT K H p xs)/\A1x x=true/\xs.all A1x=true/\Q (.bl (if neg then !inV x xs else inV x xs)) H
theorem C5y:OpR X (compareOp .NotIn) (rIn X.K true):=by
 intro pins s σ H x y v u Q I rx ry h
 obtain⟨p,xs,rfl,hq,fx,fs,q⟩:=h
 cases ry
 rcases hq with hq | hq
 ·obtain⟨its,r,pl,hz⟩:=I.list hq
  refine SeqAt.notIn_listAt (eqU x) pl.isList (λw hw=>B25 rx fx r fs w (by simpa using hw)) ⟨.bl _,H,I,rfl,?_⟩
  rw[show its.toArray.any (eqU x)=its.any (eqU x) by simp,B24 r fs]
  exact q
 ·obtain⟨its,r,pl,hz⟩:=I.tuple hq
  refine SeqAt.notIn_tupleAt (eqU x) pl (λw hw=>B25 rx fx r fs w (by simpa using hw)) ⟨.bl _,H,I,rfl,?_⟩
  rw[show its.toArray.any (eqU x)=its.any (eqU x) by simp,B24 r fs]
  exact q
theorem Y1:X9 X (.builtin "len") (λxs H Q=>∃p ys,xs=[.ref p]/\(SqL X.K H p ys\/SqT X.K H p ys)/\Q (.int ys.length) H):=by
 intro pins s σ H xs us Q I r h
 obtain⟨p,ys,rfl,hq,q⟩:=h
 obtain⟨u,rfl,rx⟩:=Z2 r
 cases rx
 have hn:=A6b
 rcases hq with hq | hq
 ·obtain⟨its,r',pl,hz⟩:=I.list hq
  have hlen:=r'.length
  exact Calls.call_len_list pl.isList (by simp only[O2] <;> lia) ⟨.int ys.length,H,I.tok _,⟨s.toks + 1,by rw[O2,hlen]⟩,q⟩
 ·obtain⟨its,r',pl,hz⟩:=I.tuple hq
  have hlen:=r'.length
  exact len_tuple pl (by simp only[O2] <;> lia) ⟨.int ys.length,H,I.tok _,⟨s.toks + 1,by rw[O2,hlen]⟩,q⟩
theorem A1y:X9 X (.type "list") (λxs H Q=>∃p ys,xs=[.ref p]/\(SqL X.K H p ys\/SqT X.K H p ys)/\∀l,H l=none->Q (.ref l) (upd H l (.lst ys))):=by
 intro pins s σ H xs us Q I r h
 obtain⟨p,ys,rfl,hq,q⟩:=h
 obtain⟨u,rfl,rx⟩:=Z2 r
 cases rx
 have fin:∀(its:List Value),C5 ys its->ys.length<=sizeLine->∀(h':Heap) (c':Nat),(∀b o',s.heap.get? b=some o'->h'.get? b=some o')->
   h'.get? s.heap.objs.size=some { cls:=.type "list",dict:=none,data:=.seq its.toArray c',slots:=#[] }->EP X pins σ Q (.ref s.heap.objs.size) { s with heap:=h' }:=λits r' hz h' c' kp e=>
  ⟨.ref s.heap.objs.size,_,I.laid (t':=s.toks) kp (F7 _) (show K2 X.prog X.w _ h' _ (.lst ys) from ⟨hz,its,c',r',e⟩),rfl,q _ (I.hok.fresh (F7 _))⟩
 rcases hq with hq | hq
 ·obtain⟨its,r',pl,hz⟩:=I.list hq
  have hlen:=r'.length
  obtain⟨o,ho,hc,n,hd⟩:=pl.isList
  exact call_list_seq p (.inl rfl) ho hc hd (λh' c' kp e=>fin its r' hz h' c' kp e) (by simp only[O2] <;> lia)
 ·obtain⟨its,r',pl,hz⟩:=I.tuple hq
  have hlen:=r'.length
  obtain⟨o,ho,hc,n,hd⟩:=pl
  exact call_list_seq p (.inr rfl) ho hc hd (λh' c' kp e=>fin its r' hz h' c' kp e) (by simp only[O2] <;> lia)
theorem C5z:X9 X (.type "tuple") (λxs H Q=>∃p ys,xs=[.ref p]/\((SqL X.K H p ys/\∀l,H l=none->Q (.ref l) (upd H l (.tup ys)))\/(SqT X.K H p ys/\Q (.ref p) H))):=by
 intro pins s σ H xs us Q I r h
 obtain⟨p,ys,rfl,h⟩:=h
 obtain⟨u,rfl,rx⟩:=Z2 r
 cases rx
 rcases h with ⟨hq,q⟩ | ⟨hq,q⟩
 ·obtain⟨its,r',pl,hz⟩:=I.list hq
  have hlen:=r'.length
  refine call_tuple_list pl.isList (λh' kp=>?_) (by simp only[O2] <;> lia)
  have I1:Inv X pins σ H { s with heap:=h' }:=I.kept (t':=s.toks) kp
  have I2:Inv X pins σ (upd H h'.objs.size (.tup ys)) { s with heap:=h'.push { cls:=.type "tuple",data:=.seq its.toArray } }:=
   I1.laid (t':=s.toks) (λb o e=>L6 _ e) (F7 _) (show K2 X.prog X.w _ _ _ (.tup ys) from ⟨hz,its,r',IsTup.new _ _⟩)
  exact⟨.ref h'.objs.size,_,I2,rfl,q _ (I1.hok.fresh (F7 _))⟩
 ·obtain⟨its,r',pl,hz⟩:=I.tuple hq
  exact call_tuple_same pl ⟨.ref p,H,I,rfl,q⟩
def tyV (K:A4) (T:String) (x:V) (H:Hp):Prop:=match x with
 | .str _=>T = "str"
 | .int _=>T = "int"
 | .ref p=>(T = "list" /\∃xs,SqL K H p xs)\/(T = "tuple" /\∃o,K.lookup p=some o/\o.cls=.type "tuple" /\o.dict=none)\/
   (T = "dict" /\((∃kvs,H p=some (.dK kvs))\/∃kvs,H p=some (.dT kvs)))\/(T = "set" /\∃S n,H p=some (.set S n))
 | _=>False
theorem B8f {pins:List (Addr×Obj)} {σ:St} {H:Hp} {s:Shared} {T:String} {x:V} {v:Value} (I:Inv X pins σ H s) (r:C9 x v) (ty:tyV X.K T x H) :
  s.TypeIs v T/\∀a,v=.ref a->∃ob,s.heap.get? a=some ob/\ob.dict=none:=by
 cases x with
 | str z=>
  obtain⟨t,rfl⟩:=r
  cases (show T = "str" from ty)
  exact⟨typeIs_str s z t,λ_ e=>nomatch e⟩
 | int i=>
  obtain⟨t,rfl⟩:=r
  cases (show T = "int" from ty)
  exact⟨typeIs_int s i t,λ_ e=>nomatch e⟩
 | ref p=>
  cases r
  rcases ty with ⟨rfl,xs,hq⟩ | ⟨rfl,o,hk,hc,hd⟩ | ⟨rfl,hk⟩ | ⟨rfl,S,n,hk⟩
  ·obtain⟨its,_,pl,_⟩:=I.list hq
   refine⟨pl.isList.typeIs,λa e=>?_⟩
   cases e
   obtain⟨o,n,e,c,hd,_⟩:=pl
   exact⟨o,e,hd⟩
  ·refine⟨⟨o,I.kIn p o hk,hc⟩,λa e=>?_⟩
   cases e
   exact⟨o,I.kIn _ o hk,hd⟩
  ·have z:∃o,s.heap.get? p=some o/\o.ExactDict:=by
    rcases hk with ⟨kvs,hk⟩ | ⟨kvs,hk⟩
    ·obtain⟨_,_,_,_,o,_,_,e,ex,_⟩:=I.hok p _ hk
     exact⟨o,e,ex⟩
    ·obtain⟨_,_,_,_,o,_,_,e,ex,_⟩:=I.hok p _ hk
     exact⟨o,e,ex⟩
   obtain⟨o,e,ex⟩:=z
   refine⟨⟨o,e,ex.1⟩,λa e2=>?_⟩
   cases e2
   exact⟨o,e,ex.2.1⟩
  ·obtain⟨o,_,_,_,e,ex,_⟩:=I.hok p _ hk
   refine⟨⟨o,e,ex.1⟩,λa e2=>?_⟩
   cases e2
   exact⟨o,e,ex.2.1⟩
 | _=>exact False.elim ty
def C50 (K:A4) (T:String) (r:V->List V->Hp->VK->Prop) (to:TE):TE:=fun σ H Q=>to σ H λx H1=>tyV K T x H1/\r x [] H1 Q
def tBM (K:A4) (T:String) (r:V->List V->Hp->VK->Prop) (to:TE) (t:TA):TE:=fun σ H Q=>to σ H λx H1=>tyV K T x H1/\t σ H1 λxs H2=>r x xs H2 Q
variable {o e:Expr} {es:List Expr} {to:TE} {t:TA} {name:Str} {apos cpos:Pos} {T id:String} {r:V->List V->Hp->VK->Prop}
theorem C51 (pa:PlainAttrs T) (slot:Slot T name id) (hty:typeOf (.builtin id)=pure (.type "method_descriptor")) (hm:MtR X id r) (ho:PE X o to)
  (hbase:attributeBase o name X.env (eval o X.env)=eval o X.env:=by rfl) (hline:(apos.endLine == cpos.line)=true:=by rfl):PE X (.Call (.Attribute o name apos) [] [] cpos) (C50 X.K T r to):=by
 intro pins s σ H Q I h
 refine wpAny_Call_method0_late hbase hline (thn (ho pins s σ H _ I h) λv s1 zz219=>zz219.elim λx zz220=>zz220.elim λH1 zz221=>zz221.elim λI1 zz222=>zz222.elim λr1 zz223=>zz223.elim λty q1=>?_)
 obtain⟨h1,h2⟩:=B8f I1 r1 ty
 exact⟨T,id,pa,slot,hty,h1,h2,Calls.callWith_builtin rfl (PySem.evalArgs_none (hm pins s1 σ H1 x [] v [] Q I1 r1 .nil q1))⟩
theorem A07 (pa:PlainAttrs T) (slot:Slot T name id) (hty:typeOf (.builtin id)=pure (.type "method_descriptor")) (hm:MtR X id r) (ho:PE X o to) (ha:PA X (e::es) t)
  (hbase:attributeBase o name X.env (eval o X.env)=eval o X.env:=by rfl)
  (hfew:((backTo cpos (starEach (e::es) X.env)).all (λx=>!x.1)&&(backToKw cpos (keywordEach [] X.env)).all (λx=>x.1.isSome)
   &&decide ((e::es).length + ([]:List Keyword).length + (if ([]:List Keyword).isEmpty then 0 else 1) < 30))=true:=by rfl)
  (hline:(apos.endLine == cpos.line)=true:=by rfl) (hs:starEach (e::es) X.env=(false,eval e X.env)::starEach es X.env:=by rfl) (hplain:(backTo cpos (starEach es X.env)).any (·.1)=false:=by rfl) :
  PE X (.Call (.Attribute o name apos) (e::es) [] cpos) (tBM X.K T r to t):=by
 intro pins s σ H Q I h
 refine wpAny_Call_method_late hbase hfew hline rfl (thn (ho pins s σ H _ I h) λv s1 zz224=>zz224.elim λx zz225=>zz225.elim λH1 zz226=>zz226.elim λI1 zz227=>zz227.elim λr1 zz228=>zz228.elim λty q1=>?_)
 obtain⟨h1,h2⟩:=B8f I1 r1 ty
 refine⟨T,id,pa,slot,hty,h1,h2,?_⟩
 have hA:=ha cpos pins s1 σ H1 _ I1 q1
 rw[hs] at hA ⊢
 refine Calls.callWith_builtin (by show (false||(backTo cpos (starEach es X.env)).any (·.1))=false;rw[hplain] <;> rfl) (Calls.evalArgs_plain ?_)
 exact thn hA λus s2 zz229=>el5 zz229 λvs H2 I2 r2 q2=>hm pins s2 σ H2 x vs v us Q I2 r1 r2 q2
end
def MtM (X:Cx) (id:String) (r:V->List V->Hp->VK->Prop):Prop:=
 ∀(pins:List (Addr×Obj)) (s:Shared) (σ:St) (H:Hp) (x:V) (xs:List V) (v:Value) (us:List Value) (Q:VK),Inv X pins σ H s->C9 x v->C5 xs us->r x xs H Q->
  wpAny (model X.prog X.w) X.A (call (.builtin id) (v::us)) (EP X pins σ Q) X.xe s
theorem C5.one {x:V} {us:List Value} (h:C5 [x] us):∃u,us=[u]/\C9 x u:=by
 cases h with
 | cons r t=>cases t;exact⟨_,rfl,r⟩
theorem C5.zero:∀{us:List Value},C5 [] us->us=[]
 | _,.nil=>rfl
theorem C5.dropLast {xs:List V} {us:List Value} (h:C5 xs us):C5 xs.dropLast us.dropLast:=by
 induction h with
 | nil=>exact .nil
 | cons r t ih=>
  cases t with
  | nil=>exact .nil
  | cons q t'=>exact .cons r ih
theorem C5.rep {xs:List V} {us:List Value} (h:C5 xs us):∀k:Nat,C5 (E5 k xs).flatten (E5 k us).flatten
 | 0=>.nil
 | k + 1=>by
  rw[A3n,A3n,A7s,A7s]
  exact C5.append h (C5.rep h k)
theorem C52 {α:Type} (l:List α):l.eraseIdx (l.length - 1)=l.dropLast:=by
 induction l with
 | nil=>rfl
 | cons a r ih=>
  cases r with
  | nil=>rfl
  | cons b r=>
   have e:(a::b::r).length - 1=((b::r).length - 1) + 1:=by
    have h1:(a::b::r).length=r.length + 2:=rfl
    have h2:(b::r).length=r.length + 1:=rfl
    lia
   rw[e,List.eraseIdx_cons_succ,ih]
   all_goals rfl
theorem B8g (its:List Value):∀(k:Nat) (acc:List Value),
  List.foldl (λx1 x2=>x1++x2) acc.toArray (E5 k its.toArray)=(acc++(E5 k its).flatten).toArray
 | 0,acc=>by simp
 | k + 1,acc=>by
  have e:acc.toArray++its.toArray=(acc++its).toArray:=by simp
  have e2:(acc++its)++(E5 k its).flatten=acc++(E5 (k + 1) its).flatten:=by
   rw[A3n,A7s,B2a]
  rw[<-e2,<-B8g its k (acc++its),<-e,A3n,List.foldl_cons]
section
variable {X:Cx} {pins:List (Addr×Obj)} {σ:St} {H:Hp} {s:Shared} {l b:Addr} {xs ys zs:List V}
theorem Inv.lset {its its':List Value} {n:Nat} {f:Array Value->Array Value} {t':Nat} (I:Inv X pins σ H s) (hH:H l=some (.lst xs))
  (e:s.heap.get? l=some { cls:=.type "list",data:=.seq its.toArray n }) (hf:f its.toArray=its'.toArray) (hv:C5 ys its') (hz:ys.length<=sizeLine) :
  Inv X pins σ (upd H l (.lst ys)) { s with heap:=s.heap.update l (A5x f),toks:=t' }:=by
 have q:=PySem.IsL.update e f
 rw[hf] at q
 refine I.write (x:=l) (e:=l) (by rw[hH];exact trivial) (.inl rfl) (λb' u hb hu=>(p9 s.heap (A5x f) (Ne.symm hb)).trans hu) ⟨_,q⟩ ?_
 exact⟨hz,its',_,hv,q⟩
theorem Inv.lnew {its:List Value} {t':Nat} (I:Inv X pins σ H s) (hv:C5 ys its) (hz:ys.length<=sizeLine) :
  Inv X pins σ (upd H s.heap.objs.size (.lst ys)) { s with heap:=s.heap.push { cls:=.type "list",data:=.seq its.toArray },toks:=t' }:=
 I.laid (λ_ _ q=>L6 _ q) (F7 _) ⟨hz,its,0,hv,V8 _ rfl⟩
theorem Inv.fresh (I:Inv X pins σ H s):H s.heap.objs.size=none:=I.hok.fresh (F7 _)
theorem Inv.lstM (I:Inv X pins σ H s) (hH:H l=some (.lst xs)):xs.length<=sizeLine/\∃(its:List Value) (n:Nat),C5 xs its/\xs.length=its.length/\s.heap.get? l=some { cls:=.type "list",data:=.seq its.toArray n }:=by
 obtain⟨z,its,n,r,e⟩:=I.hok l _ hH
 exact⟨z,its,n,r,r.length,e⟩
theorem C53 {n:Nat} (h:n<=sizeLine):Builtin.List.listTooLong n=false:=by
 unfold Builtin.List.listTooLong
 exact decide_eq_false (by lia)
end
section
variable {X:Cx}
def B8h:V->List V->Hp->VK->Prop:=λx vs H Q=>∃l xs y,x=.ref l/\vs=[y]/\H l=some (.lst xs)/\xs.length < sizeLine/\Q .non (upd H l (.lst (xs++[y])))
theorem A2x:MtM X "list.append" B8h:=by
 intro pins s σ H x vs v us Q I rx rv h
 obtain⟨l,xs,y,rfl,rfl,hH,hz,q⟩:=h
 cases rx
 obtain⟨u,rfl,ru⟩:=rv.one
 obtain⟨z,its,n,r,hl,e⟩:=I.lstM hH
 refine call_meets F.slot_list_append ⟨_,e,rfl⟩ F.entry_list_append (F.args_list_append_2 _ _) (PySem.list_append l its.toArray n u (by rw[O2];lia)) ⟨e,?_⟩
 refine⟨.non,_,I.lset (its':=its++[u]) hH e (by simp) (r.append (.cons ru .nil)) ?_,rfl,q⟩
 rw[Q1,C3v]
 lia
def C54:V->List V->Hp->VK->Prop:=λx vs H Q=>∃l xs y,x=.ref l/\vs=[]/\H l=some (.lst xs)/\xs[xs.length - 1]?=some y/\Q y (upd H l (.lst xs.dropLast))
theorem C55:MtM X "list.pop" C54:=by
 intro pins s σ H x vs v us Q I rx rv h
 obtain⟨l,xs,y,rfl,rfl,hH,hy,q⟩:=h
 cases rx
 have hus:=rv.zero
 subst hus
 obtain⟨z,its,n,r,hl,e⟩:=I.lstM hH
 obtain⟨u,hu,ru⟩:=r.get hy
 have hy':its.toArray[its.toArray.size - 1]?=some u:=by
  show its.toArray[its.length - 1]?=some u
  rw[<-B2b,<-hl]
  exact hu
 refine call_meets F.slot_list_pop ⟨_,e,rfl⟩ F.entry_list_pop (F.args_list_pop_1 _) (MeetsSeq.list_pop_last l its.toArray n u hy' (by rw[O2];lia)) ⟨e,?_⟩
 refine⟨y,_,I.lset (its':=its.dropLast) hH e ?_ r.dropLast ?_,ru,q⟩
 ·show its.toArray.eraseIdxIfInBounds (its.toArray.size - 1)=its.dropLast.toArray
  rw[O2,List.eraseIdxIfInBounds_toArray,C52]
 ·rw[List.length_dropLast]
  lia
def B26:R2:=λx y H Q=>∃l b xs zs,x=.ref l/\y=.ref b/\H l=some (.lst xs)/\H b=some (.lst zs)/\xs.length + zs.length<=sizeLine/\∀p,H p=none->Q (.ref p) (upd H p (.lst (xs++zs)))
theorem B8i:OpR X (binaryOp .Add) B26:=by
 intro pins s σ H x y v u Q I rx ry h
 obtain⟨l,b,xs,zs,rfl,rfl,hH,hB,hz,q⟩:=h
 cases rx
 cases ry
 obtain⟨z,its,n,r,hl,e⟩:=I.lstM hH
 obtain⟨z2,its2,n2,r2,hl2,e2⟩:=I.lstM hB
 refine PySem.P.add_list e e2 ?_ (by rw[O2,O2];lia)
 have ea:its.toArray++its2.toArray=(its++its2).toArray:=by simp
 rw[ea]
 exact⟨.ref _,_,I.lnew (t':=s.toks) (r.append r2) (by rw[Q1];lia),rfl,q _ I.fresh⟩
def C56:R2:=λx y H Q=>∃l k xs,x=.ref l/\y=.int k/\H l=some (.lst xs)/\-(2 ^ 63)<=k/\k < 2 ^ 63/\xs.length * k.toNat<=sizeLine/\
 ∀p,H p=none->Q (.ref p) (upd H p (.lst (E5 k.toNat xs).flatten))
theorem C57 {α:Type} (xs:List α) (k:Nat):(E5 k xs).flatten.length=k * xs.length:=by
 induction k with
 | zero=>simp
 | succ k ih=>rw[A3n,A7s,Q1,ih,Nat.succ_mul,Nat.add_comm]
theorem C58:OpR X (binaryOp .Mult) C56:=by
 intro pins s σ H x y v u Q I rx ry h
 obtain⟨l,k,xs,rfl,rfl,hH,h1,h2,hz,q⟩:=h
 cases rx
 obtain⟨t,rfl⟩:=ry
 obtain⟨z,its,n,r,hl,e⟩:=I.lstM hH
 have hlen:its.toArray.size * k.toNat<=sizeLine:=by rw[O2,<-hl];exact hz
 have hcap:¬ its.toArray.size * k.toNat > (2 ^ 63 - 1) / 8:=by
  have:(sizeLine:Nat)<=(2 ^ 63 - 1) / 8:=by decide
  lia
 have hfit:¬ (!Builtin.List.listFitsIndex k)=true:=by
  rw[fitsIndex_both h1 h2]
  exact R9
 have hlong:¬ Builtin.List.listTooLong (its.toArray.size * k.toNat)=true:=by
  rw[C53 hlen]
  exact R9
 have hnew:List.foldl (λx1 x2=>x1++x2) #[] (E5 (if its.toArray.isEmpty=true then 0 else k.toNat) its.toArray)=(E5 k.toNat its).flatten.toArray:=by
  have f0:∀m:Nat,List.foldl (λx1 x2=>x1++x2) #[] (E5 m its.toArray)=(E5 m its).flatten.toArray:=λm=>by
   have:=B8g its m []
   rw[Z1] at this
   exact this
  rw[f0]
  cases its with
  | nil=>simp
  | cons a r'=>rw[if_neg (by simp)]
 refine wpAny_binaryOp_repeat_ref (T:= "list") (U:= "int") DD ⟨_,e,rfl⟩ (λs'=>typeIs_int s' k t) noFill_list_mul F.fills_int_mul F.slot_int_rmul repeat_list F.slot_int_index.lookup
  (call_meets F.slot_int_rmul (typeIs_int s k t) F.entry_int_rmul (F.args_int_rmul_2 _ _) (int___rmul___int_list k t l its.toArray n)
   ⟨e,rfl,⟨_,e,rfl⟩,call_meets F.slot_list_mul ⟨_,e,rfl⟩ F.entry_list_mul (F.args_list_mul_2 _ _) (AutoListH.list___mul___list_int_3 l its.toArray n k t hfit hcap hlong) ⟨e,?_⟩⟩)
 rw[hnew]
 exact⟨.ref _,_,I.lnew (t':=s.toks) (r.rep k.toNat) (by rw[C57,Nat.mul_comm];exact hz),rfl,q _ I.fresh⟩
end
section
variable {prog:Program} {w:World} {A:Around} {E:Value->Shared->Prop} {s:Shared}
set_option maxRecDepth 100000 in
end
section
variable {X:Cx}
end
end L2
namespace Att
open PySem PySem.W PySem.Calls PyProof.Rows
theorem C59 {P:Params} {h:Heap}:∀(ns:List Int) (vs:List Value),WellAll P h vs (ns.map WData.int)->IntsAre vs ns:=by
 intro ns
 induction ns with
 | nil=>
  intro vs w
  rw[A9j] at w
  cases w
  exact .nil
 | cons n ns ih=>
  intro vs w
  rw[P2] at w
  cases w with
  | cons a b=>
   cases a
   exact .cons _ _ (ih _ b)
theorem C6a {l:OpenLaw} {n:Nat} (hn:l.most=some n) {P:Params} {h:Heap} {args:List WData} {vals:List Value}
  (hpre:l.row.toRowW.claim.pre args=true) (hwl:WellAll P h vals args) :
  ∃a vs ns,vals=[Value.ref a]/\args=[WData.list (ns.map WData.int)]/\h.get? a=some { cls:=.type "list",data:=.seq vs.toArray }/\IntsAre vs ns/\ns.length<=n:=by
 have hsh:WShape.hasAll [] args [.list .int]=true:=(pre_splitW hpre).1
 have hc:l.pre.holds [] { args:=args }=true:=(pre_splitW hpre).2
 obtain⟨d,r,rfl,h1,h2⟩:=hasAllW_cons hsh
 obtain rfl:=hasAllW_nil h2
 obtain⟨xs,rfl,h3⟩:=hasW_list h1
 obtain⟨ns,rfl⟩:=items_int h3
 have hlen:ns.length<=n:=by
  unfold OpenLaw.pre at hc
  have h4:(WTm.not (.lt (.lit (.int (n:Int))) (.len (.arg 0)))).holds [] { args:=[.list (ns.map .int)] }=true:=by
   have h4:=(holds_andW hc).1
   rw[hn] at h4
   exact h4
  have h5:=condW_of h4 (w_not (w_lt w_lit (w_len_list (w_arg rfl))))
  rw[D6] at h5
  refine Nat.le_of_not_lt λq=>?_
  have q':(n:Int) < ((ns.length:Nat):Int):=by lia
  first
   | (rw[decide_eq_true q'] at h5;exact absurd h5 DD)
   | (simp at h5;lia)
 cases hwl with
 | cons w1 w2=>
  cases w2
  cases w1 with
  | list ho hall=>exact⟨_,_,ns,rfl,rfl,ho,C59 ns _ hall,hlen⟩
theorem C6b (l:OpenLaw) (args:List WData):l.row.toRowW.claim.post args (.bool true) args=true:=
 postW_of (r:=l.row.toRowW) (X:=(true == true))
  (show WShape.has [] (.bool true) .bool=true by first | rfl | decide | simp [WShape.has,WShape.arms,WShape.armsAll])
  (show (WTm.eq .res (.lit (.bool true))).value [] { args:=args,res:=some (.bool true),after:=args }=some (.bool (true == true)) from w_eq_bool (w_res rfl) w_lit) rfl
theorem attach_call {l:OpenLaw} {n:Nat} {q:Program} {loose:List Str} {XP:(Str->Option Value)->Heap->Prop} {YP:World->Heap->Prop} {d:DefRec}
  (hn:l.most=some n) (hdf:d.params.defaults=[])
  (call:∀(w:World) (s₀ s₁:Shared) (mg mb:Str->Option Value) (fa:Addr) (o:Obj) (pm cd doc:Value) (a:Addr) (vs:List Value) (ns:List Int),
   Ground q loose [] XP w s₀ mg mb s₁.heap->YP w s₁.heap->
   s₁.heap.get? fa=some o->o.data=.func (docDef d.name d.params d.body d.scope pm cd doc)->s₁.heap.CodeRec cd d.name->mg d.name=some (.ref fa)->
   s₁.heap.get? a=some { cls:=.type "list",data:=.seq vs.toArray }->IntsAre vs ns->ns.length<=n->s₁.gens=#[]->
   codeAny (model l.prog w) callerA (.call (.ref fa) ⟨[.ref a],[]⟩) (λr s'=>r=.ok (.ret (.bool true))/\OldK s₁.heap s'.heap/\s'.os=s₁.os/\AllBare s'.gens) s₁) :
  WalkO q loose XP YP l.row.toRowW d [] (λf vs=>PySem.call f vs):=by
 intro w s₀ s₁ mg mb G Y fa o pm cd doc dV kV ho hd hcd hD hmg hg args vals as hpre hlay hrd hwl hlo
 obtain rfl:dV=.none:=Dflts.none hD hdf
 obtain rfl:kV=.none:=Dflts.noKw hD
 obtain⟨a,vs,ns,rfl,rfl,hobj,hints,hlen⟩:=C6a hn hpre hwl
 refine enter_call (codeAny_mono (call w s₀ s₁ mg mb fa o pm cd doc a vs ns G Y ho (fd_plain hd) hcd hmg hobj hints hlen hg) λr s' hq=>?_)
 obtain⟨rfl,h2,h3,h4⟩:=hq
 exact⟨.inl ⟨.bool true,.bool true,[],rfl,λ_=>rfl,.bool true,C6b l _,λ_=>⟨List.Pairwise.nil,λ_ hm=>(nomatch hm)⟩⟩,h2,h3,h4⟩
section
variable {prog:Program} {w:World} {A:Around} {E:Value->Shared->Prop} {s:Shared} {K:Frag}
def D7c (h:Heap) (L d:Addr):List (Addr×Obj):=(U8 h.objs.size).filterMap λa=>if a=L\/a=d then none else (h.get? a).map λo=>(a,o)
end
end Att
namespace L2
open PySem PySem.Spec PyProof.Rows
theorem B27:∀{vs:List Value} {ns:List Int},IntsAre vs ns->C5 (ns.map V.int) vs
 | _,_,.nil=>.nil
 | _,_,.cons n t h=>.cons ⟨t,rfl⟩ (B27 h)
def B28 (H:Hp):Prop:=∀b,H b=none\/∃o xs,H b=some (.frz o (.lst xs))
theorem C6c {P:Program} {w:World} {K:A4} {mg mb:Str->Option Value} {CX:CXT} {k:Nat} {fa a:Addr} {fd:FuncData} {x:Str} {sp:Sp} {s₁:Shared} {vs:List Value} {ns:List Int}
  (KX:K.In s₁.heap) (hns:s₁.heap.Ns mainGlobals mg) (hb:s₁.heap.Ns builtinsNs mb) (hbb:∀x:Str,x≠ "__name__" ->mb x=bootBuiltins x) (hlim:s₁.heap.NoLimit) (hg:s₁.gens=#[])
  (ha:s₁.heap.get? a=some { cls:=.type "list",data:=.seq vs.toArray }) (hi:IntsAre vs ns) (hl:ns.length<=sizeLine) (hr:N6 k callerA)
  (F:∀base:Heap,K.In base->base.Ns mainGlobals mg->B9 P w K mg base CX k fa fd [x] sp) (hbind:∀(s:Shared) (u:Value),BindsTo s fd ⟨[u],[]⟩ [(x,u)])
  (hsp:∀H:Hp,B28 H->SqL K H a (ns.map V.int)->sp [.ref a] H (λv _=>v=.bl true) λ_ _ _=>False)
  (hCX:∀H e s',CX [] H s₁ (λ_ _ _=>False) e s'->False) :
  codeAny (model P w) callerA (.call (.ref fa) ⟨[.ref a],[]⟩) (λr s'=>r=.ok (.ret (.bool true))/\OldK s₁.heap s'.heap/\s'.os=s₁.os/\AllBare s'.gens) s₁:=by
 have rv:=B27 hi
 have lenV:=hi.length
 have core:∀H:Hp,B28 H->SqL K H a (ns.map V.int)->HOk P w H s₁.heap->(∀b,H b≠none->b=a)->(H a≠none->K.lookup a=none)->
   codeAny (model P w) callerA (.call (.ref fa) ⟨[.ref a],[]⟩) (λr s'=>r=.ok (.ret (.bool true))/\OldK s₁.heap s'.heap/\s'.os=s₁.os/\AllBare s'.gens) s₁:=by
  intro H hO hS hok hA hK
  have base_of:∀{b:Addr} {o:Obj},s₁.heap.get? b=some o->H b=none->(A1t s₁.heap H).get? b=some o:=λe n=>C4f e n
  have noA:∀{b:Addr} {o:Obj} {es:Array DictEntry} {ep:Nat},s₁.heap.get? b=some o->o.data=.dict es ep->H b=none:=λ{b o es ep} e d=>by
   cases q:H b with
   | none=>rfl
   | some u=>
    have e':b=a:=hA b (by rw[q];simp)
    subst e'
    rw[ha] at e;cases e
    have d':Data.seq vs.toArray _=Data.dict es ep:=d
    cases d'
  have nsK:∀{b:Addr} {m:Str->Option Value},s₁.heap.Ns b m->(A1t s₁.heap H).Ns b m:=λ{b m} ⟨o,es,ep,e,d,r⟩=>⟨o,es,ep,base_of e (noA e d),d,r⟩
  have hKb:K.In (A1t s₁.heap H):=λb o e=>base_of (KX b o e) (by
   cases q:H b with
   | none=>rfl
   | some u=>
    have e':b=a:=hA b (by rw[q];simp)
    subst e'
    rw[hK (by rw[q];simp)] at e;cases e)
  have hM:Mod K mg (A1t s₁.heap H):=⟨hKb,nsK hns,⟨mb,nsK hb,hbb⟩,let ⟨mc,h1,h2⟩:=hlim;⟨mc,nsK h1,h2⟩⟩
  have e0:A1w P w K mg (A1t s₁.heap H) callerA [] s₁ H:=⟨rfl,hM,λb o e=>C4g e,Nat.le_of_eq (C4e _ _),trivial,λb hb=>absurd (show b∈([]:List Addr) from hb) (by simp),hok,.of_eq hg⟩
  refine codeAny_mono ((F _ hKb (nsK hns)).run callerA [] s₁ H ⟨[.ref a],[]⟩ [.ref a] [.ref a] _ _ hr e0 (hbind s₁ (.ref a)) (.cons rfl .nil) (hsp H hO hS)) λr s' h=>?_
  cases r with
  | error e=>exact (hCX H e s' h).elim
  | ok fl=>
   cases fl with
   | next=>exact False.elim h
   | brk=>exact False.elim h
   | cont=>exact False.elim h
   | ret u=>
    obtain⟨v,H',os,bare,un,hok',r',q⟩:=h
    have q':v=.bl true:=q
    subst q'
    obtain rfl:u=Value.bool true:=r'
    refine⟨rfl,OldK.of_keep λb o e=>?_,os,bare⟩
    cases q:H b with
    | none=>exact un.keep b o e q (by intro z;exact absurd (show b∈([]:List Addr) from z) (by simp)) (by simp)
    | some u=>
     rcases hO b with z | ⟨ob,xs,z⟩
     ·rw[q] at z;cases z
     ·have z2:=un.frzs b ob _ z
      obtain⟨e1,_⟩:=hok b _ z
      obtain⟨e2,_⟩:=hok' b _ z2
      rw[e] at e1;cases e1
      exact e2
 cases hk:K.lookup a with
 | some o=>
  have e:=KX a o hk
  rw[ha] at e
  cases e
  refine core (λ_=>none) (λ_=>.inl rfl) (.inr ⟨_,vs.toArray,_,hk,rfl,rfl,rfl,by rw[O2,lenV];exact hl,by simpa using rv⟩) (λb u z=>by have z':(none:Option HO)=some u:=z;cases z') (λb z=>absurd rfl z) λz=>absurd rfl z
 | none=>
  refine core (λb=>if b=a then some (.frz { cls:=.type "list",data:=.seq vs.toArray } (.lst (ns.map V.int))) else none) (λb=>?_) (.inl (.inr ⟨{ cls:=.type "list",data:=.seq vs.toArray },if_pos rfl⟩)) (λb u z=>?_) (λb z=>?_) λ_=>hk
  ·by_cases hb:b=a
   ·exact .inr ⟨_,_,if_pos hb⟩
   ·exact .inl (if_neg hb)
  ·by_cases hb:b=a
   ·have z':=(if_pos hb).symm.trans z
    cases z'
    subst hb
    exact⟨ha,by rw[D6];exact hl,vs,_,rv,ha⟩
   ·have z':=(if_neg hb).symm.trans z
    cases z'
  ·by_cases hb:b=a
   ·exact hb
   ·exact absurd (if_neg hb) z
theorem walk_of {l:PySem.W.OpenLaw} {n k:Nat} {q:Program} {loose:List Str} {XP:(Str->Option Value)->Heap->Prop} {YP:World->Heap->Prop} {d:DefRec} {K:Params->A4} {CX:World->CXT} {sp:World->Sp} {x:Str}
  (hn:l.most=some n) (hn2:n<=sizeLine) (hdf:d.params.defaults=[]) (hr:N6 k callerA)
  (hY:∀(w:World) (h:Heap),YP w h->(K w.params).In h)
  (F:∀(w:World) (mg:Str->Option Value) (fa:Addr) (h:Heap),(K w.params).In h->h.Ns mainGlobals mg->mg d.name=some (.ref fa)->
   ∃fd:FuncData,(∀(s:Shared) (u:Value),BindsTo s fd ⟨[u],[]⟩ [(x,u)])/\
    ∀base:Heap,(K w.params).In base->base.Ns mainGlobals mg->B9 l.prog w (K w.params) mg base (CX w) k fa fd [x] (sp w))
  (hsp:∀(w:World) (H:Hp) (a:Addr) (ns:List Int),ns.length<=n->B28 H->SqL (K w.params) H a (ns.map V.int)->sp w [.ref a] H (λv _=>v=.bl true) λ_ _ _=>False)
  (hCX:∀(w:World) (H:Hp) (s:Shared) (e:Value) (s':Shared),CX w [] H s (λ_ _ _=>False) e s'->False) :
  PySem.W.WalkO q loose XP YP l.row.toRowW d [] (λf vs=>PySem.call f vs):=by
 refine Att.attach_call hn hdf λw s₀ s₁ mg mb fa o pm cd doc a vs ns G Y ho hd hcd hmg hobj hints hlen hg=>?_
 have KX:=hY w _ Y
 obtain⟨fd,hb,hF⟩:=F w mg fa _ KX G.T.g hmg
 exact C6c KX G.T.g G.T.b G.T.builtins G.T.nolimit hg hobj hints (X0 hlen hn2) hr hF hb (λH hO hS=>hsp w H a ns hlen hO hS) λH e s'=>hCX w H s₁ e s'
def f9 (s:Stmt) (j:Nat):Stmt:=match s with
 | .ClassDef _ _ _ body _ _ _ _ _ _ _=>body.getD j (.Pass ⟨0,0,0,0⟩)
 | _=>.Pass ⟨0,0,0,0⟩
def A3x (s:Stmt):Arguments:=match s with
 | .FunctionDef _ a _ _ _ _ _ _ _ _=>a
 | _=>{ posonlyargs:=[],args:=[],vararg:=none,kwonlyargs:=[],kw_defaults:=[],kwarg:=none,defaults:=[] }
def A0r (s:Stmt):List Stmt:=match s with
 | .FunctionDef _ _ b _ _ _ _ _ _ _=>b
 | _=>[]
def B8 (s:Stmt):Scope:=match s with
 | .FunctionDef _ _ _ _ _ _ sc _ _ _=>sc
 | _=>{ kind:=.function,names:=[],isGenerator:=false,isCoroutine:=false }
abbrev CX0:CXT:=λ_ _ _ _ _ _=>False
abbrev E0:XK:=λ_ _ _=>False
theorem A9 {X:Cx}:A2w CX0 X E0:=λ_ _ _ _ _ _ _ h=>h.elim
structure Fun (K:A4) (x qual:Str) (st:Stmt) (f:Addr) (fd:FuncData):Prop where
 ex:∃(oc:Value) (od:Option Addr) (kV doc pm:Value) (an:Option Addr) (cdv ct:Value) (osl:Array (Option Value)),
  fd=A0n x qual (A3x st) (A0r st) (B8 st) .none kV doc pm an cdv ct/\K.lookup f=some ⟨oc,od,.func fd,osl⟩/\A9i K cdv qual=true
 kp:j4 K (.ref f)=true
section
variable {P:Program} {w:World} {K:A4} {mg:Str->Option Value} {base:Heap}
theorem Fun.ok {x qual:Str} {st:Stmt} {f:Addr} {fd:FuncData} {N ps:List Str} {k:Nat} {sp:Sp} (F:Fun K x qual st f fd) (S:D3 N ps (B8 st)) (len:∀vs H Q E,sp vs H Q E->vs.length=ps.length)
  (hbody:∀(cdv:Value) (A:Around) (outer:List Env) (s:Shared) (H:Hp) (vs:List V) (Q:VK) (E:XK),N6 k (A.deeper (envOfC qual (B8 st) s.heap.objs.size f cdv))->sp vs H Q E->
   ∃t,PSs (O6 CX0 P w K mg base N qual (B8 st) f cdv A outer s H E).nox (A0r st) t/\t { nx:=λ_ H'=>Q .non H',rt:=Q } (start N vs) H):B9 P w K mg base CX0 (k + 1) f fd ps sp:=by
 obtain⟨oc,od,kV,doc,pm,an,cdv,ct,osl,rfl,lk,hcd⟩:=F.ex
 refine B75 lk hcd S len λA outer s H vs Q E hr hsp=>?_
 obtain⟨t,h,q⟩:=hbody cdv A outer s H vs Q E hr hsp
 exact⟨t,h.nox,q⟩
theorem Fun.binds {x qual:Str} {st:Stmt} {f:Addr} {fd:FuncData} {ps:List Str} (F:Fun K x qual st f fd)
  (h:∀(kV doc pm:Value) (an:Option Addr) (cdv ct:Value) (us:List Value),us.length=ps.length->bindArgs (A0n x qual (A3x st) (A0r st) (B8 st) .none kV doc pm an cdv ct) ⟨us,[]⟩=pure (ps.zip us)):Y0 K fd ps []:=by
 obtain⟨oc,od,kV,doc,pm,an,cdv,ct,osl,rfl,lk,hcd⟩:=F.ex
 exact .all (h kV doc pm an cdv ct)
theorem C6d {x qual:Str} {st:Stmt} {f:Addr} {oc:Value} {od an:Option Addr} {osl:Array (Option Value)} {kV doc pm cdv ct:Value} (l:K.lookup f=some ⟨oc,od,.func (A0n x qual (A3x st) (A0r st) (B8 st) .none kV doc pm an cdv ct),osl⟩)
  (c:A9i K cdv qual=true) (k:j4 K (.ref f)=true):Fun K x qual st f (A0n x qual (A3x st) (A0r st) (B8 st) .none kV doc pm an cdv ct):=⟨⟨oc,od,kV,doc,pm,an,cdv,ct,osl,rfl,l,c⟩,k⟩
end
theorem A98 {n:Nat} (h:n<=1000):n < sizeLine:=Nat.lt_of_le_of_lt h (DD)
section
variable {X:Cx}
theorem pv (i:Nat) {x:Str} {pos:Pos} (hN:X.N[i]?=some x:=by rfl) (hv:Vis X.env.scope x:=by first | exact B7 rfl | exact Or.inr (B7 rfl) | exact Or.inr (Or.inr rfl)) (hd:(x == ("__debug__" : Str))=false:=by decide)
  (hcd:(x == ("__classdict__" : Str))=false:=by decide):PE X (.Name x pos) (G0 i):=B2l hN hv hd hcd
end
theorem E2 {A B:Prop} (h:B):if false=true then A else B:=by
 rw[if_neg R9]
 exact h
theorem J0 {A B:Prop} (h:A):if true=true then A else B:=by
 rw[if_pos rfl]
 exact h
theorem A6c {c A B:Prop} [Decidable c] (h1:c->A) (h2:¬ c->B):if c then A else B:=by
 by_cases h:c
 ·rw[if_pos h]
  exact h1 h
 ·rw[if_neg h]
  exact h2 h
def Same (H H':Hp):Prop:=∀b o,H b=some o->H' b=some o
theorem Same.refl (H:Hp):Same H H:=λ_ _ h=>h
end L2
set_option maxHeartbeats 4000000
namespace L2
open PySem PySem.Spec PyProof.Rows
def Y2 (cells:List (Str×Addr)):List (Str×NameKind)->List (Str×Addr)->List (Str×Addr)
 | [],cs=>cs
 | (n,k)::r,cs=>Y2 cells r (if k == .free then (n,(cells.lookup n).getD 0)::cs else cs)
theorem B8j {scope:Scope} {env:Env} (h:∀y∈scope.names,y.2=.free->∃c,env.cells.lookup y.1=some c):closureFor scope env=pure (Y2 env.cells scope.names []):=by
 have key:∀(l:List (Str×NameKind)) (cs:List (Str×Addr)),(∀y∈l,y.2=.free->∃c,env.cells.lookup y.1=some c)->
   (forIn l cs λ(x:Str×NameKind) (r:List (Str×Addr))=>if (x.2 == NameKind.free)=true then do let a <-cellOf env x.1;pure (ForInStep.yield ((x.1,a)::r)) else pure (ForInStep.yield r):Sem (List (Str×Addr)))=pure (Y2 env.cells l cs):=by
  intro l
  induction l with
  | nil=>intro cs _;rfl
  | cons y r ih=>
   intro cs hl
   obtain⟨n,k⟩:=y
   rw[List.forIn_cons]
   by_cases hk:k=.free
   ·subst hk
    obtain⟨c,hc⟩:=hl (n,.free) D4 rfl
    have hc':env.cells.lookup n=some c:=hc
    have e1:cellOf env n=pure c:=by unfold cellOf;rw[hc']
    simp only[beq_self_eq_true,if_true,e1,pure_bind]
    rw[ih _ λz hz=>hl z (C8 _ hz)]
    show _=pure (Y2 env.cells r (if (NameKind.free == NameKind.free)=true then (n,(env.cells.lookup n).getD 0)::cs else cs))
    rw[hc']
    rfl
   ·have hb:(k == NameKind.free)=false:=by simpa using hk
    simp only[hb,B2c,if_false,pure_bind]
    rw[ih _ λz hz=>hl z (C8 _ hz)]
    show _=pure (Y2 env.cells r (if (k == NameKind.free)=true then (n,(env.cells.lookup n).getD 0)::cs else cs))
    rw[hb]
    rfl
 have k2:=key scope.names [] h
 have e:closureFor scope env=((forIn scope.names [] λ(x:Str×NameKind) (r:List (Str×Addr))=>if (x.2 == NameKind.free)=true then do let a <-cellOf env x.1;pure (ForInStep.yield ((x.1,a)::r)) else pure (ForInStep.yield r):Sem (List (Str×Addr))) >>= λcs=>pure cs):=rfl
 rw[e,k2]
 rfl
theorem B8k {cells:List (Str×Addr)}:∀{l:List (Str×NameKind)} {cs:List (Str×Addr)},(∀y∈l,y.2=.free->∃c,cells.lookup y.1=some c)->(∀x c,cs.lookup x=some c->cells.lookup x=some c)->
  ∀x c,(Y2 cells l cs).lookup x=some c->cells.lookup x=some c
 | [],_,_,h,x,c,e=>h x c e
 | (n,k)::r,cs,hl,h,x,c,e=>by
  unfold Y2 at e
  refine B8k (l:=r) (λz hz=>hl z (C8 _ hz)) (λy d q=>?_) x c e
  split at q
  ·rename_i hk
   obtain⟨c0,hc0⟩:=hl (n,k) D4 (by simpa using hk)
   have hc0':cells.lookup n=some c0:=hc0
   rw[hc0'] at q
   rw[A02] at q
   split at q
   ·rename_i hb
    have:=eq_of_beq hb
    subst this
    rw[hc0']
    exact q
   ·exact h y d q
  ·exact h y d q
theorem B8l {cells:List (Str×Addr)} {x:Str}:∀{l:List (Str×NameKind)} {cs:List (Str×Addr)},(∃c,cs.lookup x=some c)->∃c,(Y2 cells l cs).lookup x=some c
 | [],_,h=>h
 | (n,k)::r,cs,h=>by
  unfold Y2
  refine B8l (l:=r) ?_
  split
  ·rw[A02]
   split
   ·exact⟨_,rfl⟩
   ·exact h
  ·exact h
theorem B29 {cells:List (Str×Addr)} {x:Str}:∀{l:List (Str×NameKind)} {cs:List (Str×Addr)},(x,NameKind.free)∈l->∃c,(Y2 cells l cs).lookup x=some c
 | (n,k)::r,cs,h=>by
  unfold Y2
  rcases J8.mp h with e | h
  ·injection e with e1 e2
   subst e1 e2
   refine B8l (l:=r) ?_
   simp only[beq_self_eq_true,if_true]
   rw[A02]
   simp
  ·exact B29 (l:=r) h
structure CA where
 s:Shared
 H:Hp
 C:Addr
 fp:List Addr
abbrev X5 (X:Cx) (scope:Scope) (N':List Str) (a:CA):Cx where
 prog:=X.prog
 w:=X.w
 K:=X.K
 mg:=X.mg
 base:=X.base
 A:=X.A
 N:=N'
 s₀:=a.s
 H₀:=a.H
 env:=compEnvC scope (Y2 X.env.cells scope.names []) a.C X.env
 outer:=X.stack
 stack:=X.stack
 ex:=a.fp
 fn:=λ_=>false
 calm:=X.calm
 pn:=[]
 xe:=λ_ _=>False
structure Q5 (N N':List Str) (osc scope:Scope) (j:Nat) (x:Str):Prop where
 nd:N'.Nodup
 at_:N'[j]?=some x
 sub:∀(i:Nat) y,i≠j->N'[i]?=some y->N[i]?=some y
 len:N'.length<=N.length + 1
 kind:scope.kind=.function
 cell:∀y∈scope.names,y.2≠.cell
 names:∀y∈scope.names,y.2=.local->scope.names.lookup y.1=some .local
 only:∀y∈scope.names,y.2=.local->y.1=x\/y.1∉N'
 loc:scope.names.lookup x=some .local
 okind:osc.kind=.function
 free:∀y∈scope.names,y.2=.free->osc.names.lookup y.1=some .cell
def B8m (N:List Str) (osc scope:Scope) (x:Str):Bool:=
 decide (N++[x]).Nodup&&decide (scope.kind=.function)&&decide (osc.kind=.function)&&(scope.names.lookup x == some .local)&&
  scope.names.all λy=>match y.2 with
   | .cell=>false
   | .local=>scope.names.lookup y.1 == some .local&&(y.1 == x||!((N++[x]).contains y.1))
   | .free=>osc.names.lookup y.1 == some .cell
   | _=>true
theorem Q5.new {N:List Str} {osc scope:Scope} {x:Str} (h:B8m N osc scope x=true):Q5 N (N++[x]) osc scope N.length x:=by
 unfold B8m at h
 simp only[r8,decide_eq_true_eq,B2d,beq_iff_eq] at h
 obtain⟨⟨⟨⟨h1,h2⟩,h3⟩,h4⟩,h5⟩:=h
 refine⟨h1,by simp,λi y ne e=>?_,by simp,h2,λy hy e=>?_,λy hy e=>?_,λy hy e=>?_,h4,h3,λy hy e=>?_⟩
 ·by_cases hi:i < N.length
  ·rw[A5w hi] at e;exact e
  ·rw[A7q (by lia)] at e
   cases q:i - N.length with
   | zero=>exact absurd (by lia) ne
   | succ k=>rw[q] at e;simp at e
 ·have:=h5 y hy;rw[e] at this;cases this
 ·have:=h5 y hy
  rw[e] at this
  simp only[r8,beq_iff_eq] at this
  exact this.1
 ·have:=h5 y hy
  rw[e] at this
  simp only[r8,Bool.or_eq_true,beq_iff_eq,Bool.not_eq_true',List.contains_eq_mem,decide_eq_false_iff_not] at this
  exact this.2
 ·have:=h5 y hy
  rw[e] at this
  simp only[beq_iff_eq] at this
  exact this
def V9 (n j:Nat) (σ:St):St:=((σ++[none]).take n).set j none
theorem B8n {n j i:Nat} {σ:St} {v:V} (h:(V9 n j σ)[i]?=some (some v)):i≠j/\σ[i]?=some (some v):=by
 unfold V9 at h
 by_cases e:i=j
 ·subst e
  rw[A50] at h
  simp only[if_true] at h
  split at h <;> cases h
 ·refine⟨e,?_⟩
  rw[p7 (Ne.symm e)] at h
  have h2:(σ++[none])[i]?=some (some v):=by
   by_cases hi:i < n
   ·rw[List.getElem?_take_of_lt hi] at h;exact h
   ·rw[A3o (by rw[Z0];lia)] at h;cases h
  by_cases hi:i < σ.length
  ·rw[A5w hi] at h2;exact h2
  ·rw[A7q (by lia)] at h2
   cases q:i - σ.length with
   | zero=>rw[q] at h2;cases h2
   | succ k=>rw[q] at h2;cases h2
theorem C6e {n j:Nat} {σ:St} (h:n<=σ.length + 1):(V9 n j σ).length=n:=by
 unfold V9
 rw[X2,Z0,Q1]
 simp;lia
theorem A8c {env:Env}:∀{names:List (Str×NameKind)} {x:Str},((names.map λ(n,k)=>if (k == NameKind.free&&env.scope.kind == .function&&env.kindOf n == some .cell) then (n,NameKind.cell) else (n,k)).lookup x=some .cell\/
  (names.map λ(n,k)=>if (k == NameKind.free&&env.scope.kind == .function&&env.kindOf n == some .cell) then (n,NameKind.cell) else (n,k)).lookup x=some .free)->(∀y∈names,y.2≠.cell)->(x,NameKind.free)∈names
 | [],_,h,_=>by rcases h with h | h <;> cases h
 | (n,k)::r,x,h,hc=>by
  rw[P2] at h
  dsimp only at h
  by_cases hk:(k == NameKind.free&&env.scope.kind == .function&&env.kindOf n == some .cell)=true
  ·rw[if_pos hk] at h
   simp only[A02] at h
   cases hx:x == n with
   | true=>
    have e:=eq_of_beq hx
    subst e
    have k':k=.free:=by
     rw[r8,r8] at hk
     simpa using hk.1.1
    subst k'
    exact D4
   | false=>
    simp only[hx] at h
    exact C8 _ (A8c h λy hy=>hc y (C8 _ hy))
  ·rw[if_neg hk] at h
   simp only[A02] at h
   cases hx:x == n with
   | true=>
    have e:=eq_of_beq hx
    subst e
    simp only[hx] at h
    rcases h with h | h
    ·exact absurd (Option.some.inj h) (hc (x,k) D4)
    ·have:=Option.some.inj h
     subst this
     exact D4
   | false=>
    simp only[hx] at h
    exact C8 _ (A8c h λy hy=>hc y (C8 _ hy))
theorem A99 {env:Env}:∀{names:List (Str×NameKind)} {x:Str},(names.map λ(n,k)=>if (k == NameKind.free&&env.scope.kind == .function&&env.kindOf n == some .cell) then (n,NameKind.cell) else (n,k)).lookup x=some .local->(x,NameKind.local)∈names
 | [],_,h=>by cases h
 | (n,k)::r,x,h=>by
  rw[P2] at h
  dsimp only at h
  by_cases hk:(k == NameKind.free&&env.scope.kind == .function&&env.kindOf n == some .cell)=true
  ·rw[if_pos hk] at h
   simp only[A02] at h
   cases hx:x == n with
   | true=>simp only[hx] at h;cases h
   | false=>
    simp only[hx] at h
    exact C8 _ (A99 h)
  ·rw[if_neg hk] at h
   simp only[A02] at h
   cases hx:x == n with
   | true=>
    have e:=eq_of_beq hx
    subst e
    simp only[hx] at h
    have:=Option.some.inj h
    subst this
    exact D4
   | false=>
    simp only[hx] at h
    exact C8 _ (A99 h)
section
variable {X:Cx} {pins:List (Addr×Obj)} {σ:St} {H:Hp} {s:Shared}
structure Own (X:Cx) (pins:List (Addr×Obj)) (H:Hp) (C:Addr):Prop where
 no:H C=none
 ne:C≠X.env.locals
 ab:X.s₀.heap.objs.size<=C
 ce:∀x c,X.env.cells.lookup x=some c->c≠C
 pi:∀p∈X.pn++pins,p.1≠C
theorem Inv.own {C:Addr} {H':Hp} (I:Inv X pins σ H s) (h:s.heap.objs.size<=C) (hn:H' C=none):Own X pins H' C:=by
 refine⟨hn,A2i (V7 I.lt h),X0 I.sz h,λx c e z=>?_,λp hp z=>?_⟩
 ·obtain⟨v,q⟩:=I.cell x c e
  exact absurd (V7 q.lt (by rw[z];exact h)) (A0k _)
 ·exact absurd (V7 (F9 (I.pin p hp).1) (by rw[z];exact h)) (A0k _)
theorem Inv.own_turn {C:Addr} {h':Heap} (I:Inv X pins σ H s) (o:Own X pins H C) (hs:Heap.SameBut C s.heap h'):Inv X pins σ H { s with heap:=h' }:=
 I.turned (t':=s.toks) (λb ob hb e=>(hs.2 b hb).trans e) o.no o.ne (.inr o.ab) o.ce o.pi
theorem Inv.track {D:Addr} {ys:List V} {its:List Value} {n:Nat} (I:Inv X pins σ H s) (o:Own X pins H D) (e:s.heap.get? D=some { cls:=.type "list",data:=.seq its.toArray n }) (r:C5 ys its) (hz:ys.length<=sizeLine) :
  Inv X pins σ (upd H D (.lst ys)) s:=by
 have nD:∀b u,H b=some u->b≠D:=λb u q z=>by rw[z,o.no] at q;cases q
 have hok:HOk X.prog X.w (upd H D (.lst ys)) s.heap:=λb u q=>by
  by_cases hb:b=D
  ·subst hb
   rw[B2] at q
   cases q
   exact⟨hz,its,n,r,e⟩
  ·rw[B1 hb] at q
   exact (I.hok b u q).stay (λ_ _ _ z=>z) (λc z=>by rw[B1 (nD c _ z)];exact z) λc xs z=>by rw[B1 (nD c _ z)];exact z
 have:=I.step (H':=upd H D (.lst ys)) (h':=s.heap) (g':=s.gens) (t':=s.toks) (d':=s.drawn) (ch:=[D]) (λb hb=>by
   have e':b=D:=by simpa using hb
   subst e'
   exact⟨.inr o.ab,o.ne,o.ce,o.pi⟩) (λb ob _ _ _ q _=>q) (λb ob _ _ _ q _=>⟨ob.slots,q⟩) (λb ob hc q z=>by rw[B1 (by simpa using hc)];exact z) (λb ob _ q=>⟨ob,q⟩)
  (λb xs q=>by rw[B1 (nD b _ q)];exact q) (λb ob u q=>by rw[B1 (nD b _ q)];exact q) (λb ps q=>⟨#[],by rw[B1 (nD b _ q),q];simp⟩) (λm z=>z) hok I.bare
 exact this
end
section
variable {prog:Program} {w:World} {A:Around} {R:Result->Shared->Prop} {s:Shared}
theorem C6f {elt target iter:Expr} {ifs:List Expr} {scope:Scope} {pos:Pos} {it acc:Value} {env:Env} (I:Nat->Shared->Prop)
  (turn:∀n s,I n s->∀E:Value->Shared->Prop,wpAny (model prog w) A (pyNext it) (λr s₁=>match r with
   | none=>R (.ok .next) s₁
   | some v=>wpAny (model prog w) A (letOwnedTupleGo target it v) (λ_ s₁'=>wpAny (model prog w) A (assign target env v) (λ_ s₂=>
     wpAny (model prog w) A (forIn ifs true λc r=>if r=true then do let ok <-isTrue c env (eval c env);pure (ForInStep.yield ok) else pure (ForInStep.yield r)) (λok s₃=>
      if ok=true then wpAny (model prog w) A (eval elt env) (λx s₄=>
       wpAny (model prog w) A (call (.builtin "list.append") [acc,x]) (λ_ s₅=>∃m,m < n/\I m s₅) E s₄) E s₃
      else ∃m,m < n/\I m s₃) E s₂) E s₁') E s₁) E s)
  (n:Nat) (h:I n s) :
  codeAny (model prog w) A (.compLoop (.ListComp elt [⟨target,iter,ifs,0⟩] scope pos) 0 it acc env) R s:=by
 refine codeAny_loop rfl I (λn s hI=>?_) n h
 show wpAny _ A ((compTurn (.ListComp elt [⟨target,iter,ifs,0⟩] scope pos) 0 it acc env).onRaise (λx=>do noteFrame x env;theTreesLotGoes x)) _ _ s
 refine wpAny_noted ?_
 rw[compTurn_list]
 refine wpAny_bind (wpAny_standAt (wpAny_bind (wpAny_mono (turn n s hI _) (λr s₁ h₁=>?_) λ_ _ h'=>h')))
 cases r with
 | none=>exact wpAny_pure h₁
 | some v=>
  refine wpAny_bind (wpAny_mono h₁ (λ_ s₁' h₁'=>?_) λ_ _ h'=>h')
  refine wpAny_bind (wpAny_mono h₁' (λ_ s₂ h₂=>wpAny_bind (wpAny_mono h₂ (λok s₃ h₃=>?_) λ_ _ h'=>h')) λ_ _ h'=>h')
  cases ok with
  | false=>exact wpAny_pure ⟨rfl,h₃⟩
  | true=>
   exact wpAny_bind (wpAny_bind (wpAny_mono h₃ (λx s₄ h₄=>wpAny_bind (wpAny_mono h₄ (λ_ s₅ h₅=>wpAny_pure (wpAny_pure ⟨rfl,h₅⟩)) λ_ _ h'=>h')) λ_ _ h'=>h'))
end
def PTs (X:Cx) (ifs:List Expr) (t:TT):Prop:=
 ∀(pins:List (Addr×Obj)) (s:Shared) (σ:St) (H:Hp) (Q:Bool->Hp->Prop),Inv X pins σ H s->t σ H Q->
  wpAny (model X.prog X.w) X.A (forIn ifs true λc r=>if r=true then do let ok <-isTrue c X.env (eval c X.env);pure (ForInStep.yield ok) else pure (ForInStep.yield r)) (TP X pins σ Q) X.xe s
def A1z:TT:=λ_ H Q=>Q true H
theorem A10 {X:Cx}:PTs X [] A1z:=λ_ _ _ H _ I h=>wpAny_tests_nil ⟨H,I,h⟩
theorem A8d {X:Cx} {c:Expr} {t:TT} (h:PT X c t):PTs X [c] t:=λpins s σ H Q I q=>wpAny_tests_one (h pins s σ H Q I q)
def B0a (σ:St) (n j:Nat) (tt:CA->TT) (te:CA->TE) (J:It) (H1:Hp) (Q:List V->Hp->Prop):Prop:=
 ∃W:Nat->Nat->List V->Hp->Prop,(∃m,W 0 m [] H1)/\∀i m ys H,W i m ys H->ys.length<=sizeLine/\
  ((J.stop i H/\Q ys H)\/(J.go i H/\∃N:List V->Hp->Prop,(∀ys' H',N ys' H'->∃m',m' < m/\W (i + 1) m' ys' H')/\
   ∀x H',J.yld i H x H'->∀a:CA,tt a ((V9 n j σ).set j (some x)) H' λb H2=>if b=true then te a ((V9 n j σ).set j (some x)) H2 λy H3=>N (ys++[y]) H3 else N ys H2))
def A6d (wi:TI) (n j:Nat) (tt:CA->TT) (te:CA->TE):TE:=fun σ H Q=>wi σ H λJ H1=>B0a σ n j tt te J H1 λys H2=>∀p,H2 p=none->Q (.ref p) (upd H2 p (.lst ys))
section
variable {X:Cx} {pins:List (Addr×Obj)} {σ:St} {H:Hp} {s:Shared}
theorem B8o {elt iter:Expr} {x:Str} {px pos:Pos} {ifs:List Expr} {scope:Scope} {N':List Str} {j:Nat} {tt:CA->TT} {te:CA->TE} {it:Addr} {fp:List Addr} {tn:Nat->Heap->Prop} {J:It} {Q:List V->Hp->Prop}
  {RR:Value->Addr->Result->Shared->Prop} {E:Value->Shared->Prop}
  (S:Q5 X.N N' X.env.scope scope j x) (hc:X.calm=true)
  (ht:∀a:CA,PTs (X5 X scope N' a) ifs (tt a)) (he:∀a:CA,PE (X5 X scope N' a) elt (te a))
  (I:Inv X pins σ H s) (T:A6a X.prog X.w X.K (.Name x px) J fp it tn) (st:tn 0 s.heap) (f2:∀b∈fp,y7 X pins H b) (h:B0a σ N'.length j tt te J H Q)
  (hRR:∀(D C:Addr) (ys:List V) (H':Hp) (s':Shared) (m:Str->Option Value),s'.heap.Ns C m->Own X pins (upd H' D (.lst ys)) C->Inv X pins σ (upd H' D (.lst ys)) s'->H' D=none->Q ys H'->RR (.ref D) C (.ok .next) s') :
  wpAny (model X.prog X.w) X.A (newList []) (λacc s₃=>wpAny (model X.prog X.w) X.A (newFunctionEnv scope X.env.globals (Y2 X.env.cells scope.names []) [] X.env.qual none .none (some X.env)) (λcenv s₄=>
   codeAny (model X.prog X.w) X.A (.compStart (.ListComp elt [⟨.Name x px,iter,ifs,0⟩] scope pos) 0 (.ref it) acc { cenv with scope:=relabel scope X.env }) (RR acc cenv.locals) s₄) E s₃) E s:=by
 refine wpAny_newObj_type (wpAny_newFunctionEnv S.cell (by intro y hy;simp at hy) (λh₁ hns₁ hsb₁=>?_) S.kind)
 dsimp only at hns₁ hsb₁ ⊢
 generalize hH2:s.heap.push { cls:=.type "list",dict:=none,data:=.seq ([]:List Value).toArray }=H2 at hns₁ hsb₁ ⊢
 have hC:H2.objs.size=s.heap.objs.size + 1:=by rw[<-hH2,B13]
 have hDC:s.heap.objs.size≠H2.objs.size:=by rw[hC];exact N5 (B6y _)
 have hCle:s.heap.objs.size<=H2.objs.size:=by rw[hC];exact A2k _
 have below:∀b,b < s.heap.objs.size->b≠H2.objs.size/\b≠s.heap.objs.size:=λb hb=>⟨by rw[hC];exact N5 (Nat.lt_succ_of_lt hb),N5 hb⟩
 have old:∀b o,s.heap.get? b=some o->h₁.get? b=some o:=λb o e=>hsb₁.extBut b o (below b (F9 e)).1 (L6 _ (hH2▸L6 _ e))
 have hacc:h₁.get? s.heap.objs.size=some { cls:=.type "list",data:=.seq ([]:List Value).toArray }:=hsb₁.extBut _ _ hDC (L6 _ (hH2▸V8 _ rfl))
 have fplt:∀b∈fp,b < s.heap.objs.size:=λb hb=>let ⟨_,e,_⟩:=T.obj 0 _ st b hb;F9 e
 have hcells:∀y∈scope.names,y.2=.free->∃c,X.env.cells.lookup y.1=some c:=λy hy e=>I.ok.has y.1 (.inl (S.free y hy e))
 have sub:∀y c,(Y2 X.env.cells scope.names []).lookup y=some c->X.env.cells.lookup y=some c:=B8k hcells (λy c e=>by cases e)
 let a:CA:=⟨s,H,H2.objs.size,fp⟩
 have ok:(X5 X scope N' a).Ok:=by
  refine⟨I.ok.mod,S.kind,I.ok.glob,I.ok.blt,hCle,λy z c e1 e2=>I.ok.inj y z c (sub y c e1) (sub z c e2),λy hy=>?_,λy c z=>?_,I.ok.hd,I.ok.frames,.inl rfl,λb hb=>⟨(below b (fplt b hb)).1,λy c e=>(f2 b hb).2.2.2.2.1 y c (sub y c e)⟩,I.bs,
   X0 I.ok.bsz I.sz,λb o e hb=>?_,λb hb z=>?_,I.stack,I.stkFree⟩
  ·exact B29 (A8c hy S.cell)
  ·cases z
  ·rcases (f2 b hb).2.2.2.1 with z | z
   ·exact I.ok.noex b o e z
   ·exact absurd (V7 (F9 (I.ok.bs b o e).1) z) (A0k _)
  ·rcases J8.mp (I.stkSub b z) with e | e
   ·exact (f2 b hb).2.1 e
   ·exact (f2 b hb).2.2.1 e
 have look:∀(h':Heap) (m':Str->Option Value),(∀y c,X.env.cells.lookup y=some c->∀v,s.heap.IsCell c v->h'.IsCell c v)->∀(i:Nat) (y:Str) (v:V),N'[i]?=some y->(V9 N'.length j σ)[i]?=some (some v)->
   Vis (relabel scope X.env) y->∃u,C9 v u/\B7a (compEnvC scope (Y2 X.env.cells scope.names []) H2.objs.size X.env) h' m' y u:=by
  intro h' m' kc i y v e1 e2 e3
  obtain⟨ne,e4⟩:=B8n e2
  have e5:=S.sub i y ne e1
  have hy:(y,NameKind.free)∈scope.names:=by
   rcases e3 with e3 | e3 | e3
   ·rcases S.only _ (A99 e3) rfl with z | z
    ·exact absurd (A9u S.nd e1 (by rw[S.at_];exact congrArg some z.symm)) ne
    ·exact absurd (X1 e1) z
   ·exact A8c (.inl e3) S.cell
   ·exact A8c (.inr e3) S.cell
  have kcell:X.env.scope.names.lookup y=some .cell:=S.free _ hy rfl
  obtain⟨m0,hn0,hl0⟩:=I.loc
  obtain⟨u,r,l⟩:=hl0 i y v e5 e4 (.inr (.inl kcell))
  refine⟨u,r,.inr ⟨?_,?_⟩⟩
  ·rcases e3 with e3 | e3 | e3
   ·rcases S.only _ (A99 e3) rfl with z | z
    ·exact absurd (A9u S.nd e1 (by rw[S.at_];exact congrArg some z.symm)) ne
    ·exact absurd (X1 e1) z
   ·exact .inl e3
   ·exact .inr e3
  ·rcases l with ⟨k,_⟩ | ⟨k,c,e,z⟩
   ·have k':X.env.scope.names.lookup y=some .local:=k
    rw[kcell] at k';cases k'
   ·obtain⟨c',e'⟩:=B29 (cells:=X.env.cells) (cs:=[]) hy
    have e'':=sub y c' e'
    rw[e] at e''
    cases e''
    exact⟨c,e',kc y c e _ z⟩
 have cellOld:∀y c,X.env.cells.lookup y=some c->∀v,s.heap.IsCell c v->h₁.IsCell c v:=λy c _ v zz232=>el2 zz232 λo ho hd=>⟨o,old c o ho,hd⟩
 have fr0:∀b,s.heap.objs.size<=b->H b=none:=λb hb=>I.hok.fresh hb
 have noPn:∀p,p∉(X5 X scope N' a).pn++([]:List (Addr×Obj)):=λp hp=>by simp at hp
 have I0:Inv (X5 X scope N' a) [] (V9 N'.length j σ) H { s with heap:=h₁,toks:=s.toks + ([]:List (Str×Value)).length }:=by
  refine⟨ok,rfl,I.bare,Un.kept old,⟨_,hns₁,look h₁ _ cellOld⟩,λy c e=>?_,fr0 _ hCle,λy c e=>I.freeC y c (sub y c e),λp hp=>absurd hp (noPn p),I.hok.kept old,C6e (by rw[I.len];exact S.len)⟩
  obtain⟨v,z⟩:=I.cell y c (sub y c e)
  exact⟨v,cellOld y c (sub y c e) v z⟩
 obtain⟨W,⟨m0,w0⟩,turn⟩:=h
 have loop:∀s₃:Shared,s₃={ s with heap:=h₁,toks:=s.toks + ([]:List (Str×Value)).length }->
   codeAny (model X.prog X.w) X.A (.compLoop (.ListComp elt [⟨.Name x px,iter,ifs,0⟩] scope pos) 0 (.ref it) (.ref s.heap.objs.size) (compEnvC scope (Y2 X.env.cells scope.names []) H2.objs.size X.env)) (RR (.ref s.heap.objs.size) H2.objs.size) s₃:=by
  rintro s₃ rfl
  refine C6f (λk s'=>∃(i:Nat) (ys:List V) (its:List Value) (n:Nat) (H':Hp),Inv (X5 X scope N' a) [] (V9 N'.length j σ) H' s'/\s'.heap.get? s.heap.objs.size=some { cls:=.type "list",data:=.seq its.toArray n }/\C5 ys its/\
   H' s.heap.objs.size=none/\tn i s'.heap/\(∀b∈fp,H' b=none)/\W i k ys H') ?_ m0
   ⟨0,[],[],0,H,I0,hacc,.nil,fr0 _ (F7 _),T.keep _ _ _ st λb hb o e=>old b o e,λb hb=>(f2 b hb).1,w0⟩
  rintro k s' ⟨i,ys,its,n,H',I',hD,rv,nD',st',fr',w'⟩ E'
  obtain⟨hz,hw⟩:=turn i k ys H' w'
  have ownD:Own (X5 X scope N' a) [] H' s.heap.objs.size:=⟨nD',hDC,F7 _,λy c e z=>by
   obtain⟨v,q⟩:=I.cell y c (sub y c e)
   exact absurd q.lt (by rw[z];exact A0k _),λp hp=>absurd hp (noPn p)⟩
  have fpok:∀(pl:List (Addr×Obj)) (H'':Hp),(∀b∈fp,H'' b=none)->(∀p∈pl,p.1∉fp)->∀b∈fp,y7 (X5 X scope N' a) pl H'' b:=λpl H'' hn hpl b hb=>
   ⟨hn b hb,(below b (fplt b hb)).1,λz=>by
    rcases J8.mp (I.stkSub b z) with e | e
    ·exact (f2 b hb).2.1 e
    ·exact (f2 b hb).2.2.1 e,.inl hb,λy c e=>(f2 b hb).2.2.2.2.1 y c (sub y c e),λp hp z=>by
    have hp':p∈pl:=by simpa using hp
    exact hpl p hp' (z▸hb)⟩
  have nDfp:s.heap.objs.size∉fp:=λz=>absurd (fplt _ z) (A0k _)
  have pinD:∀p∈([(s.heap.objs.size,{ cls:=.type "list",data:=.seq its.toArray n })]:List (Addr×Obj)),s'.heap.get? p.1=some p.2/\H' p.1=none/\p.1≠(X5 X scope N' a).env.locals/\p.1∉(X5 X scope N' a).fs/\∀v,p.2.data≠.cell v:=λp hp=>by
   have e:p=(s.heap.objs.size,{ cls:=.type "list",data:=.seq its.toArray n }):=by simpa using hp
   subst e
   refine⟨hD,nD',hDC,λz=>?_,λv z=>by cases z⟩
   rcases J8.mp (I.stkSub _ z) with e | e
   ·exact absurd I.lt (by rw[<-e];exact A0k _)
   ·exact I.nofs (F7 _) e
  have Ip:=I'.pins_of pinD
  have hpl:∀p∈([(s.heap.objs.size,{ cls:=.type "list",data:=.seq its.toArray n })]:List (Addr×Obj)),p.1∉fp:=λp hp=>by
   have e:p=(s.heap.objs.size,{ cls:=.type "list",data:=.seq its.toArray n }):=by simpa using hp
   subst e
   exact nDfp
  rcases hw with ⟨stop,q⟩ | ⟨go,N,hN,step⟩
  ·refine thn (T.done (X5 X scope N' a) rfl rfl rfl hc i _ s' _ H' E' Ip (fpok _ H' fr' hpl) st' stop) λr s4 zz233=>zz233.elim λhr I4=>?_
   subst hr
   have hD4:=(I4.pin (s.heap.objs.size,{ cls:=.type "list",data:=.seq its.toArray n }) (by simp)).1
   have J4:Inv X pins σ H' s4:=I.call' (ch:=fp) I4.os I4.base I4.hok I4.bare λb hb=>⟨(f2 b hb).2.2.2.1,(f2 b hb).2.1,(f2 b hb).2.2.2.2.1,(f2 b hb).2.2.2.2.2⟩
   obtain⟨m4,hn4,_⟩:=I4.loc
   have hC4:H' H2.objs.size=none:=I4.free
   exact hRR _ _ ys H' s4 m4 hn4 (I.own hCle (by rw[B1 (Ne.symm hDC)];exact hC4)) (J4.track (I.own (F7 _) nD') hD4 rv hz) nD' q
  ·refine thn (T.item (X5 X scope N' a) rfl rfl rfl hc i _ s' _ H' E' Ip (fpok _ H' fr' hpl) st' go) λr s5 zz234=>el2 zz234 λu hr h5=>?_
   subst hr
   refine thn h5 λ_ s6 zz235=>zz235.elim λxv zz236=>zz236.elim λH6 zz237=>zz237.elim λI6 zz238=>zz238.elim λr6 zz239=>zz239.elim λy6 zz240=>zz240.elim λst6 fr6=>?_
   have I6':=I6.pinned (fpok _ H6 fr6 hpl) (T.obj _ _ st6)
   refine wpAny_assign_Name (A9v I6' S.nd S.at_ (.inl (lookup_relabel_local S.loc)) r6 (λs7 I7=>?_) (.inr (lookup_relabel_local S.loc)))
   have wk:∀(i:Nat) v,(V9 N'.length j σ)[i]?=some (some v)->((V9 N'.length j σ).set j (some xv))[i]?=some (some v):=λi v e=>by
    rw[p7 (Ne.symm (B8n e).1)];exact e
   refine wpAny_mono (ht a _ s7 _ H6 _ I7 (step xv H6 y6 a)) (λok s8 zz241=>el2 zz241 λH8 I8 q8=>?_) λ_ _ z=>z.elim
   have tnk:∀{H9:Hp} {s9:Shared} {σ9:St},Inv (X5 X scope N' a) ([(s.heap.objs.size,{ cls:=.type "list",data:=.seq its.toArray n })]++A77 fp s6.heap) σ9 H9 s9->tn (i + 1) s9.heap/\(∀b∈fp,H9 b=none)/\s9.heap.get? s.heap.objs.size=some { cls:=.type "list",data:=.seq its.toArray n }/\H9 s.heap.objs.size=none:=λ{H9 s9 σ9} I9=>by
    refine⟨T.keep _ _ _ st6 λb hb o e=>(I9.pin (b,o) (p8 _ (p8 _ (A90 hb e)))).1,λb hb=>?_,?_⟩
    ·obtain⟨o,e,d⟩:=T.obj _ _ st6 b hb
     exact (I9.pin (b,o) (p8 _ (p8 _ (A90 hb e)))).2.1
    ·have z:=I9.pin (s.heap.objs.size,{ cls:=.type "list",data:=.seq its.toArray n }) (p8 _ (A9g _ (by simp)))
     exact⟨z.1,z.2.1⟩
   cases ok with
   | false=>
    obtain⟨m',hm,w8⟩:∃m',m' < k/\W (i + 1) m' ys H8:=hN _ _ (by simpa using q8)
    obtain⟨t1,t2,t3,t4⟩:=tnk I8
    exact⟨m',hm,i + 1,ys,its,n,H8,(I8.pins_of (pins':=[]) λp hp=>nomatch hp).weak (by rw[X2]) wk,t3,rv,t4,t1,t2,w8⟩
   | true=>
    have q8':=q8
    simp only[if_true] at q8'
    refine wpAny_mono (he a _ s8 _ H8 _ I8 q8') (λu9 s9 zz242=>el5 zz242 λv9 H9 I9 r9 q9=>?_) λ_ _ z=>z.elim
    obtain⟨m',hm,w9⟩:=hN _ _ q9
    obtain⟨t1,t2,t3,t4⟩:=tnk I9
    have hl:=rv.length
    refine append_at (hsz:=by show its.toArray.size<=sizeLine;rw[O2,<-hl];exact hz) t3 λh' hs' hD'=>?_
    have J9:=((I9.pins_of (pins':=[]) λp hp=>nomatch hp).weak (σ':=V9 N'.length j σ) (by rw[X2]) wk).own_turn (C:=s.heap.objs.size) ⟨t4,ownD.ne,ownD.ab,ownD.ce,ownD.pi⟩ hs'
    refine⟨m',hm,i + 1,ys++[v9],its++[u9],n + 1,H9,J9,?_,C5.append rv (.cons r9 .nil),t4,T.keep _ _ _ t1 λb hb o e=>(hs'.2 b λz=>nDfp (z▸hb)).trans e,t2,w9⟩
    rw[List.push_toArray] at hD'
    exact hD'
 exact codeAny_compStart_list (loop _ rfl) (T.self _ 0 _ _ _ (T.keep _ _ _ st λb hb o e=>old b o e) (loop _ rfl))
theorem Z3 {elt iter:Expr} {x:Str} {px pos:Pos} {ifs:List Expr} {scope:Scope} {N':List Str} {j:Nat} {wi:TI} {tt:CA->TT} {te:CA->TE} {osc:Scope} {N:List Str}
  (S:Q5 N N' osc scope j x) (hc:X.calm=true) (hi:PI X (.Name x px) iter wi) (ht:∀a:CA,PTs (X5 X scope N' a) ifs (tt a)) (he:∀a:CA,PE (X5 X scope N' a) elt (te a))
  (ho:X.env.scope=osc:=by rfl) (hN:X.N=N:=by rfl) (hs:∀x,foldedSetIterable iter X.env x=pure x:=by intro _;rfl):PE X (.ListComp elt [⟨.Name x px,iter,ifs,0⟩] scope pos) (A6d wi N'.length j tt te):=by
 subst ho hN
 intro pins s σ H Q I h
 rw[eval_ListComp]
 have hcells:∀y∈scope.names,y.2=.free->∃c,X.env.cells.lookup y.1=some c:=λy hy e=>I.ok.has y.1 (.inl (S.free y hy e))
 refine wpAny_comprehension_free (use:=none) rfl hs (B8j hcells) S.kind S.names (wpAny_mono (hi pins s σ H _ I h) (λxv s₁ h₁=>wpAny_mono h₁ (λitv s₂ h₂=>?_) λ_ _ e=>e) λ_ _ e=>e)
 obtain⟨it,fp,tn,J,H2,rfl,I2,T,st2,f2,q2⟩:=h₂
 refine B8o (RR:=λacc C=>compPost (model X.prog X.w) X.A X.xe none (EP X pins σ Q) acc C) S hc ht he I2 T st2 f2 q2 ?_
 intro D C ys H' s' m hn own I' hD q
 refine⟨m,hn,λh' hs'=>⟨.ref D,_,I'.own_turn own hs',rfl,q D hD⟩⟩
theorem B0b {elt iter:Expr} {x y:Str} {px pos py spos:Pos} {ifs:List Expr} {scope:Scope} {N':List Str} {j i:Nat} {wi:TI} {tt:CA->TT} {te:CA->TE} {osc:Scope} {N:List Str}
  (nd:X.N.Nodup) (hi':X.N[i]?=some y) (hy:Loc X.env.scope y)
  (S:Q5 N N' osc scope j x) (hc:X.calm=true) (hi:PI X (.Name x px) iter wi) (ht:∀a:CA,PTs (X5 X scope N' a) ifs (tt a)) (he:∀a:CA,PE (X5 X scope N' a) elt (te a))
  (hsw:swapsWith (.ListComp elt [⟨.Name x px,iter,ifs,0⟩] scope pos) (some (.Name y py)) spos.line X.env=pure true:=by rfl)
  (hf:X.fn y=true\/X.env.scope.names.lookup y=some .local:=by first | exact .inl rfl | exact .inr rfl | assumption)
  (ho:X.env.scope=osc:=by rfl) (hN:X.N=N:=by rfl) (hs:∀x,foldedSetIterable iter X.env x=pure x:=by intro _;rfl) :
  PS X (.Assign [.Name y py] (.ListComp elt [⟨.Name x px,iter,ifs,0⟩] scope pos) spos) (λD σ H=>A6d wi N'.length j tt te σ H λv H1=>D.nx (σ.set i (some v)) H1):=by
 subst ho hN
 intro pins s σ H D I h
 have hcells:∀y∈scope.names,y.2=.free->∃c,X.env.cells.lookup y.1=some c:=λy hy e=>I.ok.has y.1 (.inl (S.free y hy e))
 rw[exec_Assign_Name_used _ _ _ _ hsw]
 refine wpAny_bind (wpAny_standAt (wpAny_bind ?_))
 show wpAny _ X.A (do let _ <-comprehension (.ListComp elt [⟨.Name x px,iter,ifs,0⟩] scope pos) scope X.env _ (newList []) false (eval iter X.env) (some (assign (.Name y py) X.env))) _ _ s
 refine wpAny_bind (wpAny_mono (wpAny_comprehension_free (use:=some (assign (.Name y py) X.env)) (Q:=λ_ s'=>SP X pins D .next s') rfl hs (B8j hcells) S.kind S.names
  (wpAny_mono (hi pins s σ H _ I h) (λxv s₁ h₁=>wpAny_mono h₁ (λitv s₂ h₂=>?_) λ_ _ e=>e) λ_ _ e=>e)) (λ_ s' hq=>wpAny_pure (wpAny_pure hq)) λ_ _ e=>e)
 obtain⟨it,fp,tn,J,H2,rfl,I2,T,st2,f2,q2⟩:=h₂
 refine B8o (RR:=λacc C=>compPost (model X.prog X.w) X.A X.xe (some (assign (.Name y py) X.env)) (λ_ s'=>SP X pins D .next s') acc C) S hc ht he I2 T st2 f2 q2 ?_
 intro Da C ys H' s' m hn own I' hD q
 show wpAny _ X.A (assign (.Name y py) X.env (.ref Da)) _ _ _
 refine wpAny_assign_Name (B7b (v:=V.ref Da) I' nd hi' hy rfl (λs2 I2' hsb=>?_) hf)
 obtain⟨b,hs2,hb⟩:=hsb
 have hCb:C≠b:=by
  rcases hb with rfl | hb
  ·exact own.ne
  ·exact λz=>own.ce _ _ hb z.symm
 refine⟨m,hn.sameBut hs2 hCb,λh' hs'=>⟨_,_,I2'.own_turn own hs',q Da hD⟩⟩
end
theorem B8p {lo:Int} {n nn j:Nat} {σ:St} {tt:CA->TT} {te:CA->TE} {H1:Hp} {Q:List V->Hp->Prop} (Pv:Nat->List V->Hp->Prop) (hz:n < sizeLine) (h0:Pv 0 [] H1) (hl:∀i ys H,i<=n->Pv i ys H->ys.length<=i)
  (hs:∀i ys H,i < n->Pv i ys H->∀a:CA,tt a ((V9 nn j σ).set j (some (.int (lo + i)))) H λb H2=>if b=true then te a ((V9 nn j σ).set j (some (.int (lo + i)))) H2 λy H3=>Pv (i + 1) (ys++[y]) H3 else Pv (i + 1) ys H2)
  (hd:∀ys H,Pv n ys H->Q ys H):B0a σ nn j tt te (Itr lo n) H1 Q:=by
 refine⟨λi m ys H=>m=n - i/\i<=n/\Pv i ys H,⟨n,by simp,P0 _,h0⟩,?_⟩
 rintro i m ys H ⟨rfl,hi,p⟩
 have hy:=hl i ys H hi p
 refine⟨by lia,?_⟩
 by_cases hlt:i < n
 ·refine .inr ⟨hlt,Pv (i + 1),λys' H' p'=>⟨n - (i + 1),by lia,rfl,hlt,p'⟩,λx H' y=>?_⟩
  obtain⟨e,e2⟩:=y
  subst e e2
  exact hs i ys _ hlt p
 ·have e:i=n:=by lia
  subst e
  exact .inl ⟨F7 _,hd ys H p⟩
theorem A3y {K:A4} {a0:Addr} {xs:List V} {nn j:Nat} {σ:St} {tt:CA->TT} {te:CA->TE} {H1:Hp} {Q:List V->Hp->Prop} (Pv:Nat->List V->Hp->Prop) (hz:xs.length < sizeLine) (h0:Pv 0 [] H1)
  (hl:∀i ys H,i<=xs.length->Pv i ys H->ys.length<=i/\SqL K H a0 xs)
  (hs:∀i x ys H,xs[i]?=some x->Pv i ys H->∀a:CA,tt a ((V9 nn j σ).set j (some x)) H λb H2=>if b=true then te a ((V9 nn j σ).set j (some x)) H2 λy H3=>Pv (i + 1) (ys++[y]) H3 else Pv (i + 1) ys H2)
  (hd:∀ys H,Pv xs.length ys H->Q ys H):B0a σ nn j tt te (Itl K a0) H1 Q:=by
 refine⟨λi m ys H=>m=xs.length - i/\i<=xs.length/\Pv i ys H,⟨xs.length,by simp,P0 _,h0⟩,?_⟩
 rintro i m ys H ⟨rfl,hi,p⟩
 obtain⟨hy,q⟩:=hl i ys H hi p
 refine⟨by lia,?_⟩
 by_cases hlt:i < xs.length
 ·refine .inr ⟨⟨xs,xs[i],q,by simp [hlt]⟩,Pv (i + 1),λys' H' p'=>⟨xs.length - (i + 1),by lia,rfl,hlt,p'⟩,λx H' y=>?_⟩
  obtain⟨e,y⟩:=y
  subst e
  exact hs i x ys _ (y xs q) p
 ·have e:i=xs.length:=by lia
  subst e
  exact .inl ⟨⟨xs,q,F7 _⟩,hd ys H p⟩
section
variable {X:Cx}
def B3a (_ j:Int):Prop:=0 < j/\j < 100000000000000000000000000000000000000000000000000000000000000
theorem B8q:OpR X (binaryOp .FloorDiv) (rI B3a λi j=>.int (i / j)):=opI λi j _ _ _ _ _ hc q=>by
 have h1:(0:Int) < j:=hc.1
 have h2:j < 2 ^ 250:=Int.lt_trans hc.2 (DD)
 refine floordiv_int (by lia) (by rw[Int.fdiv_eq_ediv_of_nonneg i (by lia)];exact q) (.inl (PyProof.noPylong_of_log2 ?_))
 have h3:j.natAbs < 2 ^ 250:=by
  have:((j.natAbs:Nat):Int) < ((2 ^ 250:Nat):Int):=by
   rw[Int.natAbs_of_nonneg (Int.le_of_lt h1)]
   exact h2
  exact Int.ofNat_lt.mp this
 have h4:j.natAbs≠0:=by lia
 exact Nat.lt_trans ((Nat.log2_lt h4).mpr h3) (DD)
theorem B8r:∀{bs:List Bool} {us:List Value},C5 (bs.map V.bl) us->LSm.BoolsAre us bs
 | [],_,.nil=>.nil
 | b::bs,_,.cons r t=>by
  cases (show _=Value.bool b from r)
  exact .cons b (B8r t)
theorem C6g (hc:X.calm=true):X9 X (.builtin "all") (λxs H Q=>∃(p:Addr) (bs:List Bool),xs=[.ref p]/\SqL X.K H p (bs.map V.bl)/\Q (.bl (bs.all id)) H):=by
 intro pins s σ H xs us Q I r h
 obtain⟨p,bs,rfl,hq,q⟩:=h
 obtain⟨u,rfl,rx⟩:=Z2 r
 cases rx
 obtain⟨its,rv,pl,hz⟩:=I.list hq
 have hb:=B8r rv
 have hl:=pl.isList
 have hlt:p < s.heap.objs.size:=by obtain⟨_,e,_⟩:=hl;exact F9 e
 refine call_all_walk (wpAny_pyIter_list hl ?_)
 refine⟨s.heap.objs.size,[s.heap.objs.size,p],[s.heap.objs.size],its.toArray.size,_,_,λi=>(bs[i]?).getD true,rfl,Walks.list (A:=X.A.in1) (I.ok.hd hc) _ p (N5 hlt) its.toArray,
  ⟨⟨_,V8 _ rfl,rfl,rfl⟩,hl.push _⟩,λi v s' Q' E' hP hQ=>?_,λh' tk hk=>?_⟩
 ·obtain⟨b,e,rfl⟩:=hb.get i v (by simpa using hP)
  simp only[e,Option.getD_some] at hQ
  exact wpAny_truthy_bool hQ
 ·have e:((U8 its.toArray.size).all λi=>(bs[i]?).getD true)=bs.all id:=by
   rw[O2,hb.length];exact LSm.range_all bs
  rw[e]
  exact⟨.bl _,H,I.kept (t':=tk) (LSm.kept_iter hk),rfl,q⟩
end
mutual
inductive m5 (K:A4) (H:Hp):V->PyData->Prop
 | non:m5 K H .non .none
 | bl (b):m5 K H (.bl b) (.bool b)
 | int (i):m5 K H (.int i) (.int i)
 | str (x):m5 K H (.str x) (.str x)
 | lst {a xs ds}:SqL K H a xs->A0s K H xs ds->m5 K H (.ref a) (.list ds)
 | tup {a xs ds}:SqT K H a xs->A0s K H xs ds->m5 K H (.ref a) (.tuple ds)
inductive A0s (K:A4) (H:Hp):List V->List PyData->Prop
 | nil:A0s K H [] []
 | cons {x xs d ds}:m5 K H x d->A0s K H xs ds->A0s K H (x::xs) (d::ds)
end
section
variable {X:Cx} {pins:List (Addr×Obj)} {σ:St} {H:Hp} {s:Shared}
mutual
theorem m5.reads (I:Inv X pins σ H s):∀{x:V} {d:PyData} {u:Value},m5 X.K H x d->C9 x u->∃as,Reads s.heap u d as
 | _,_,_,.non,r=>by cases r;exact⟨_,.none⟩
 | _,_,_,.bl b,r=>by cases r;exact⟨_,.bool b⟩
 | _,_,_,.int i,r=>by obtain⟨t,rfl⟩:=r;exact⟨_,.int i t⟩
 | _,_,_,.str x,r=>by obtain⟨t,rfl⟩:=r;exact⟨_,.str x t⟩
 | _,_,_,.lst hq hs,r=>by
  cases r
  obtain⟨its,rv,pl,hz⟩:=I.list hq
  obtain⟨as,ra⟩:=A0s.reads I hs rv
  obtain⟨o,e,c,n,d⟩:=pl.isList
  exact⟨_,.list e c d (by simpa using ra)⟩
 | _,_,_,.tup hq hs,r=>by
  cases r
  obtain⟨its,rv,pl,hz⟩:=I.tuple hq
  obtain⟨as,ra⟩:=A0s.reads I hs rv
  obtain⟨o,e,c,n,d⟩:=pl
  exact⟨_,.tuple e c d (by simpa using ra)⟩
theorem A0s.reads (I:Inv X pins σ H s):∀{xs:List V} {ds:List PyData} {us:List Value},A0s X.K H xs ds->C5 xs us->∃as,ReadsAll s.heap us ds as
 | _,_,_,.nil,.nil=>⟨_,.nil⟩
 | _,_,_,.cons h t,.cons r rs=>by
  obtain⟨as,ra⟩:=m5.reads I h r
  obtain⟨bs,rb⟩:=A0s.reads I t rs
  exact⟨_,.cons ra rb⟩
end
end
section
variable {X:Cx}
def B3b (K:A4) (neg:Bool):R2:=λx y H Q=>∃da db,m5 K H x da/\m5 K H y db/\da.canLay0=true/\db.canLay0=true/\min da.depth db.depth<=64/\Q (.bl (if neg then !PyData.eqv da db else PyData.eqv da db)) H
theorem A6e (hu:X.A.units + 64 < cLine):OpR X (compareOp .Eq) (B3b X.K false):=by
 intro pins s σ H x y v u Q I rx ry h
 obtain⟨da,db,d1,d2,c1,c2,hd,q⟩:=h
 obtain⟨as,ra⟩:=d1.reads I rx
 obtain⟨bs,rb⟩:=d2.reads I ry
 exact SeqAt.compareEq_reads ra rb c1 c2 (by lia) ⟨.bl _,H,I,rfl,q⟩
theorem A08 (hu:X.A.units + 64 < cLine):OpR X (compareOp .NotEq) (B3b X.K true):=by
 intro pins s σ H x y v u Q I rx ry h
 obtain⟨da,db,d1,d2,c1,c2,hd,q⟩:=h
 obtain⟨as,ra⟩:=d1.reads I rx
 obtain⟨bs,rb⟩:=d2.reads I ry
 exact SeqAt.compareNe_reads ra rb c1 c2 (by lia) ⟨.bl _,H,I,rfl,q⟩
theorem B8s:B7i X (λo i H Q=>∃p xs j v,o=.ref p/\i=.int j/\0<=j/\SqL X.K H p xs/\atI xs j=some v/\Q v H):=by
 intro pins s σ H o i ov iv Q I r1 r2 h
 obtain⟨p,xs,j,v,rfl,rfl,h0,hq,he,q⟩:=h
 cases r1
 obtain⟨t,rfl⟩:=r2
 obtain⟨its,r,pl,hz⟩:=I.list hq
 obtain⟨k,h1,h2,h3,h4,h5⟩:=A97 he
 obtain⟨w,ew,rw'⟩:=r.get h2
 have hl:=r.length
 have hn:=A6b
 have hj:j.toNat=k:=by
  rw[seqIndex_of h0 h5] at h1
  exact Option.some.inj h1
 exact wpAny_getItem_list pl.isList h0 (by lia) (by rw[hj];simpa using ew) ⟨v,H,I,rw',q⟩
theorem S3 {st:Stmt} {t:TS} (h:PS X st t):PS X st (λD σ H=>∃M:St->Hp->Prop,t { D with nx:=M } σ H/\∀σ' H',M σ' H'->D.nx σ' H'):=by
 intro pins s σ H D I q
 obtain⟨M,q1,q2⟩:=q
 refine thn (h pins s σ H _ I q1) λf s' z=>?_
 cases f with
 | next=>obtain⟨σ',H',I',m⟩:=z;exact⟨σ',H',I',q2 _ _ m⟩
 | brk=>exact z
 | cont=>exact z
 | ret v=>exact z
end
theorem A0t:bootBuiltins "list" = some (.type "list"):=by decide +kernel
theorem C6h:bootBuiltins "abs" = some (.builtin "abs"):=by decide +kernel
theorem B0c:bootBuiltins "min" = some (.builtin "min"):=by decide +kernel
theorem B0d:bootBuiltins "max" = some (.builtin "max"):=by decide +kernel
theorem A0u:bootBuiltins "isinstance" = some (.builtin "isinstance"):=by decide +kernel
theorem B3c:bootBuiltins "int" = some (.type "int"):=by decide +kernel
theorem C6i:bootBuiltins "bool" = some (.type "bool"):=by decide +kernel
theorem C6j:bootBuiltins "all" = some (.builtin "all"):=by decide +kernel
theorem B8t:bootBuiltins "tuple" = some (.type "tuple"):=by decide +kernel
theorem A8e:bootBuiltins "sorted" = some (.builtin "sorted"):=by decide +kernel
theorem W0:bootBuiltins "len" = some (.builtin "len"):=by decide +kernel
theorem C6k:bootBuiltins "dict" = some (.type "dict"):=by decide +kernel
theorem C6l:bootBuiltins "enumerate" = some (.type "enumerate"):=by decide +kernel
section
variable {es:List Expr} {env:Env}
theorem A8 {c j p}:starEach (.Constant c j p::es) env=(false,eval (.Constant c j p) env)::starEach es env:=by rfl
theorem A0 {c p}:starEach (.Name c p::es) env=(false,eval (.Name c p) env)::starEach es env:=by rfl
theorem L7 {a o b p}:starEach (.BinOp a o b p::es) env=(false,eval (.BinOp a o b p) env)::starEach es env:=by rfl
theorem A3z {o b p}:starEach (.UnaryOp o b p::es) env=(false,eval (.UnaryOp o b p) env)::starEach es env:=by rfl
theorem B8u {o b p}:starEach (.BoolOp o b p::es) env=(false,eval (.BoolOp o b p) env)::starEach es env:=by rfl
theorem B8v {a o b p}:starEach (.Compare a o b p::es) env=(false,eval (.Compare a o b p) env)::starEach es env:=by rfl
theorem D5 {a o b p}:starEach (.Call a o b p::es) env=(false,eval (.Call a o b p) env)::starEach es env:=by rfl
theorem C1 {a o p}:starEach (.Subscript a o p::es) env=(false,eval (.Subscript a o p) env)::starEach es env:=by rfl
theorem G4 {a o p}:starEach (.Attribute a o p::es) env=(false,eval (.Attribute a o p) env)::starEach es env:=by rfl
theorem E6 {a p}:starEach (.List a p::es) env=(false,eval (.List a p) env)::starEach es env:=by rfl
theorem O3 {a k p}:starEach (.Tuple a k p::es) env=(false,eval (.Tuple a k p) env)::starEach es env:=by rfl
theorem C6m {a k p}:starEach (.Dict a k p::es) env=(false,eval (.Dict a k p) env)::starEach es env:=by rfl
theorem A09 {a b c p}:starEach (.ListComp a b c p::es) env=(false,eval (.ListComp a b c p) env)::starEach es env:=by rfl
theorem A5 {pos:Pos}:(backTo pos (starEach [] env)).any (·.1)=false:=by rfl
theorem A7 {pos:Pos} {e:Expr} (hs:starEach (e::es) env=(false,eval e env)::starEach es env) (h:(backTo pos (starEach es env)).any (·.1)=false):(backTo pos (starEach (e::es) env)).any (·.1)=false:=by
 rw[hs]
 exact h
end
section
variable {X:Cx} {pos:Pos}
end
section
variable {X:Cx}
end
section
variable {X:Cx} {pins:List (Addr×Obj)} {σ:St} {H:Hp} {s:Shared} {h':Heap}
theorem Inv.turned2 {t':Nat} {e it:Addr} (I:Inv X pins σ H s) (k:∀b o,b≠e->b≠it->s.heap.get? b=some o->h'.get? b=some o) (fe:y7 X pins H e) (fi:y7 X pins H it):Inv X pins σ H { s with heap:=h',toks:=t' }:=by
 obtain⟨e0,e1,e2,e3,e4,e5⟩:=fe
 obtain⟨f0,f1,f2,f3,f4,f5⟩:=fi
 have nit:∀b u,H b=some u->b≠it:=λb u e z=>by rw[z,f0] at e;cases e
 have nie:∀b u,H b=some u->b≠e:=λb u q z=>by rw[z,e0] at q;cases q
 have kc:∀b o,b∉[e,it]->s.heap.get? b=some o->h'.get? b=some o:=λb o hc q=>k b o (λz=>hc (by simp [z])) (λz=>hc (by simp [z])) q
 refine I.step (g':=s.gens) (d':=s.drawn) (ch:=[e,it]) (λb hb=>?_) (λb o _ _ hc e _=>kc b o hc e) (λb o _ _ hc e _=>⟨o.slots,kc b o hc e⟩) (λ_ _ _ _ n=>n)
  (λb o hc e=>⟨o,kc b o hc e⟩) (λ_ _ e=>e) (λ_ _ _ e=>e) (λb ps e=>⟨#[],by rw[e];simp⟩) (λm hm=>?_) (λb u q=>?_) I.bare
 ·rcases J8.mp hb with z | z
  ·subst z;exact⟨e3,e1,e4,e5⟩
  ·have z':b=it:=by simpa using z
   subst z'
   exact⟨f3,f1,f4,f5⟩
 ·obtain⟨o,es,ep,ho,r⟩:=hm
  exact⟨o,es,ep,k _ o (Ne.symm e1) (Ne.symm f1) ho,r⟩
 ·refine (I.hok b u q).stay (λc v hc z=>k c v ?_ ?_ z) (λ_ z=>z) λ_ _ z=>z
  ·rcases hc with z | z
   ·rw[z];exact nie b u q
   ·exact nie c _ z
  ·rcases hc with z | z
   ·rw[z];exact nit b u q
   ·exact nit c _ z
end
def Ite (K:A4) (a:Addr):It:=
 ⟨λi H=>∃xs x,SqL K H a xs/\xs[i]?=some x,λi H x H'=>∃p v,x=.ref p/\H p=none/\H'=upd H p (.tup [.int ((i:Nat):Int),v])/\∀xs,SqL K H a xs->xs[i]?=some v,λi H=>∃xs,SqL K H a xs/\xs.length<=i⟩
theorem C6n {P:Program} {w:World} {K:A4} {elts:List Expr} {x1} {tpos:Pos} (a e it:Addr) (hne:e≠it):A6a P w K (.Tuple elts x1 tpos) (Ite K a) [e,it] e (λi h=>(∃old,IsEnum h e it ((i:Nat):Int) old)/\h.IsListIter it a i) where
 mem:=by simp
 obj:=λi h st b hb=>by
  obtain⟨⟨old,h1⟩,h2⟩:=st
  rcases J8.mp hb with z | z
  ·subst z
   exact⟨_,h1,λv z=>by
    have z':Data.fields _=Data.cell v:=z
    cases z'⟩
  ·have z':b=it:=by simpa using z
   subst z'
   obtain⟨o,e,c,d⟩:=h2
   exact⟨o,e,λv z=>by rw[d] at z;cases z⟩
 keep:=λi h h' st k=>by
  obtain⟨⟨old,h1⟩,h2⟩:=st
  exact⟨⟨old,k e (by simp) _ h1⟩,h2.at λo q=>k it (by simp) o q⟩
 item:=by
  intro X hP hw hK hc i pins s σ H E I hf st hg
  subst hP hw hK
  obtain⟨⟨old,st1⟩,st2⟩:=st
  obtain⟨xs,x,hq,hx⟩:=hg
  obtain⟨its,rv,p,hz⟩:=I.list hq
  obtain⟨u,hu,ru⟩:=rv.get hx
  have fe:=hf e (by simp)
  have fi:=hf it (by simp)
  have le:e < s.heap.objs.size:=F9 st1
  have li:it < s.heap.objs.size:=by obtain⟨_,q,_⟩:=id st2;exact F9 q
  refine wpAny_pyNext_enum_item st1 st2 p.isList (x:=u) (by simpa using hu) hne λh' ho hit' hT hsz hk=>?_
  refine⟨_,rfl,wpAny_letOwnedTupleGo_enum ho λh2 he2 hs2=>?_⟩
  replace hs2:Heap.SameBut e h' h2:=hs2
  have hn:H s.heap.objs.size=none:=I.hok.fresh (F7 _)
  have I1:Inv X pins σ (upd H s.heap.objs.size (.tup [.int ((i:Nat):Int),x])) { s with heap:=s.heap.push { cls:=.type "tuple",data:=.seq #[.int i s.toks,u] },toks:=s.toks }:=
   I.laid (λb o q=>L6 _ q) (F7 _) ⟨by show 2<=sizeLine;decide,[.int i s.toks,u],.cons ⟨_,rfl⟩ (.cons ru .nil),⟨_,V8 _ rfl,rfl,_,rfl⟩⟩
  have ge:∀b,b < s.heap.objs.size->y7 X pins H b->y7 X pins (upd H s.heap.objs.size (.tup [.int ((i:Nat):Int),x])) b:=λb hb f=>⟨by rw[B1 (N5 hb)];exact f.1,f.2⟩
  have I2:=I1.turned2 (h':=h2) (t':=s.toks + 1) (e:=e) (it:=it) (λb o n1 n2 q=>by
   rw[hs2.2 b n1]
   rcases Heap.get?_push_cases q with ⟨z,z2⟩ | q
   ·subst z z2
    exact hT
   ·exact hk b o n1 n2 q) (ge e le fe) (ge it li fi)
  refine⟨.ref s.heap.objs.size,_,I2,rfl,⟨_,x,rfl,hn,rfl,λys hy=>by rw[I.list_inj hy hq];exact hx⟩,⟨⟨u,he2⟩,hit'.at λo q=>(hs2.2 it hne.symm).trans q⟩,λb hb=>?_⟩
  rcases J8.mp hb with z | z
  ·subst z;exact (ge b le fe).1
  ·have z':b=it:=by simpa using z
   subst z'
   exact (ge b li fi).1
 done:=by
  intro X hP hw hK hc i pins s σ H E I hf st hg
  subst hP hw hK
  obtain⟨⟨old,st1⟩,st2⟩:=st
  obtain⟨xs,hq,hx⟩:=hg
  obtain⟨its,rv,p,hz⟩:=I.list hq
  have hl:=rv.length
  exact wpAny_pyNext_enum_end (I.ok.hd hc) st1 st2 p.isList (by simp;lia) λh' eb=>⟨rfl,I.turned2 (t':=s.toks) (λb o n1 n2 q=>eb b o n2 q) (hf e (by simp)) (hf it (by simp))⟩
 self:=λ_ _ _ _ _ st h=>by
  obtain⟨⟨old,st1⟩,_⟩:=st
  exact wpAny_pyIter_enum st1 h
section
variable {X:Cx}
def B8w (K:A4) (ta:TA):TI:=fun σ H R=>ta σ H λvs H1=>∃a,vs=[.ref a]/\(∃xs,SqL K H1 a xs)/\R (Ite K a) H1
theorem B8x {elts:List Expr} {x1} {tpos:Pos} {a:Expr} {ta:TA} {p pos:Pos} (hg:Gl X "enumerate") (hm:X.mg "enumerate" = none) (ha:PA X [a] ta) (hs:starEach [a] X.env=[(false,eval a X.env)]:=by rfl):PI X (.Tuple elts x1 tpos) (.Call (.Name "enumerate" p) [a] [] pos) (B8w X.K ta):=by
 intro pins s σ H R I h
 refine Call_ (A2p I hg hm C6l (PyProof.Rows.callWith_type1 (thn (ha pos pins s σ H _ I h) λus s1 zz244=>el5 zz244 λvs H1 I1 r1 q1=>?_) hs rfl))
 obtain⟨a',e,⟨xs,hq⟩,q⟩:=q1
 subst e
 obtain⟨u,rfl,rx⟩:=Z2 r1
 cases rx
 obtain⟨its,rv,pl,hz⟩:=I1.list hq
 refine call_enumerate_list pl.isList λh' he hit hsz hk=>?_
 refine wpAny_pyIter_enum (s:={ s1 with heap:=h' }) he ?_
 have I2:Inv X pins σ H1 { s1 with heap:=h' }:=I1.kept (t':=s1.toks) hk
 refine⟨_,[s1.heap.objs.size + 1,s1.heap.objs.size],_,_,H1,rfl,I2,C6n a' _ _ (A2i (B6y _)),⟨⟨.none,he⟩,hit⟩,λb hb=>?_,q⟩
 rcases J8.mp hb with z | z
 ·subst z;exact I1.fpOk (A2k _) (I1.hok.fresh (A2k _))
 ·have z':b=s1.heap.objs.size:=by simpa using z
  subst z'
  exact I1.fpOk (F7 _) (I1.hok.fresh (F7 _))
theorem A11 {st:Stmt}:PS X st (λ_ _ _=>False):=λ_ _ _ _ _ _ h=>h.elim
end
section
variable {X:Cx} {pins:List (Addr×Obj)} {σ:St} {H:Hp} {s:Shared}
end
section
variable {X:Cx}
def B8y (K:A4):V->List V->Hp->VK->Prop:=λx vs H Q=>∃(l:Addr) (ns:List Int) (k:Int),x=.ref l/\vs=[.int k]/\SqL K H l (ns.map V.int)/\k∈ns/\ns.length<=100000/\Q (.int (ns.idxOf k:Nat)) H
theorem B8z:MtM X "list.index" (B8y X.K):=by
 intro pins s σ H x vs v us Q I rx rv h
 obtain⟨l,ns,k,rfl,rfl,hq,hk,hn,q⟩:=h
 cases rx
 obtain⟨u,rfl,t,rfl⟩:=Z2 rv
 obtain⟨its,r,pl,hz⟩:=I.list hq
 have hi:=B76 r
 obtain⟨⟨cls,dd,data,sl⟩,ho,hc,n,hd⟩:=pl.isList
 simp only at hc hd
 subst hc hd
 have hlen:=hi.length
 have hj:ns.idxOf k < ns.length:=B2e.mpr hk
 refine call_meets C3w ⟨_,ho,rfl⟩ PySem.F.entry_list_index (PySem.F.args_list_index_2 _ _)
  (SeqAt.list_indexAt l its.toArray n dd sl (.int k t) (isInt k) (ns.idxOf k) (by simpa [hlen] using hj) (by lia) ?_ ?_) ⟨ho,λy hy=>(eq_isInt k t hi y (by simpa using hy)).at _ _,⟨.int _,H,I.tok _,⟨_,rfl⟩,q⟩⟩
 ·show isInt k its[ns.idxOf k]=true
  rw[isInt_at k hi _ (by lia) hj]
  simpa using C3x hj
 ·intro j hjs hlt
  show isInt k its[j]=false
  rw[isInt_at k hi j (by simpa using hjs) (by lia)]
  exact ne_of_lt_idxOf hlt _
end
inductive A8f (K:A4) (H:Hp):V->Value->Prop where
 | o {x:V} {t:Value}:j8 K H x t->A8f K H x t
 | f {a:Addr} {o:Obj} {kvs:List (List Key×V)}:H a=some (.frz o (.dT kvs))->A8f K H (.ref a) (.type "dict")
section
variable {X:Cx}
theorem B0e:X9 X (.builtin "isinstance") (λxs H Q=>∃x cv c t b,xs=[x,cv]/\C9 cv c/\A8f X.K H x t/\K5 X.K t c=some b/\Q (.bl b) H):=by
 intro pins s σ H xs us Q I r h
 obtain⟨x,cv,c,t,b,rfl,rc,ty,k,q⟩:=h
 obtain⟨u,w',rfl,r1,r2⟩:=A93 r
 have e:w'=c:=by
  cases cv with
  | non=>exact r2.trans rc.symm
  | bl y=>exact r2.trans rc.symm
  | ref y=>exact r2.trans rc.symm
  | ty y=>exact r2.trans rc.symm
  | int y=>
   obtain⟨t1,rfl⟩:=rc
   exfalso
   unfold K5 A7t at k
   cases ty with
   | o ty=>cases ty <;> simp at k
   | f e=>simp at k
  | str y=>
   obtain⟨t1,rfl⟩:=rc
   exfalso
   unfold K5 A7t at k
   cases ty with
   | o ty=>cases ty <;> simp at k
   | f e=>simp at k
  | byt y=>
   obtain⟨t1,rfl⟩:=rc
   exfalso
   unfold K5 A7t at k
   cases ty with
   | o ty=>cases ty <;> simp at k
   | f e=>simp at k
  | flt y=>
   obtain⟨t1,rfl⟩:=rc
   exfalso
   unfold K5 A7t at k
   cases ty with
   | o ty=>cases ty <;> simp at k
   | f e=>simp at k
 subst e
 cases ty with
 | o ty=>exact C5g I r1 ty k λtk=>⟨.bl b,H,I.tok tk,rfl,q⟩
 | @f a o kvs ea=>
  cases (show u=Value.ref a from r1)
  obtain⟨_,_,_,xs,_,o',es,ep,h1,h2,_⟩:=(show K2 X.prog X.w H s.heap a (.frz o (.dT kvs)) from I.hok a _ ea)
  exact A0m PySem.W.kitx_dict I.kIn ⟨o',h1,h2.1⟩ k (λz=>nomatch z) λtk=>⟨.bl b,H,I.tok tk,rfl,q⟩
theorem C5.rev:∀{xs:List V} {us:List Value},C5 xs us->C5 xs.reverse us.reverse
 | _,_,.nil=>.nil
 | _::xs,_::us,.cons r t=>by
  rw[B60,B60]
  exact (C5.rev t).append (.cons r .nil)
end
theorem C6o:typeLookup (.type "list_reverseiterator") "__len__" = pure none:=by
 rw[typeLookup_type,builtinLookup_eq_fast];kernel_rfl
theorem C6p:typeLookup (.type "list_reverseiterator") "__length_hint__" = pure (some (.builtin "list_reverseiterator.__length_hint__")):=by
 rw[typeLookup_type,builtinLookup_eq_fast];kernel_rfl
section
variable {prog:Program} {w:World} {A:Around} {E:Value->Shared->Prop} {s:Shared}
theorem C6q {r l:Addr} {i:Int} {Q:Bool->Shared->Prop} (hr:s.heap.IsRevIter r l i) (h:∀tk,Q false { s with toks:=tk }):wpAny (model prog w) A (Builtin.List.listLengthHint (.ref r)) Q E s:=by
 have hT:=hr.typeIs
 unfold Builtin.List.listLengthHint
 refine wpAny_bind (wpAny_specialOf hT C6o ?_)
 show wpAny _ A (specialOf (Value.ref r) (Str.ofString "__length_hint__") >>= _) _ _ _
 refine wpAny_bind (wpAny_specialOf hT C6p ?_)
 generalize hid:("list_reverseiterator.__length_hint__" : String)=id0
 wp_delta
 rw[show splitId id0=some ("list_reverseiterator", "__length_hint__") from by subst hid;decide +kernel]
 subst hid
 refine wpAny_bind (wpAny_isInstance (b:=true) hT (by rw[isSubtype_type];kernel_rfl) ?_)
 exact wpAny_pure (h s.toks)
theorem C6r {r l:Addr} {items:Array Value} {Q:Value->Shared->Prop} (hh:A.handled=none) (hr:s.heap.IsRevIter r l ((items.size:Int) - 1)) (hl:s.heap.IsList l items) (hne:l≠r) (hz:items.size<=sizeLine)
  (hQ:∀(h':Heap) (tk:Nat) (acc:Array Value) (c:Nat),(∀b o,b≠r->s.heap.get? b=some o->h'.get? b=some o)->h'.get? s.heap.objs.size=some { cls:=.type "list",dict:=none,data:=.seq acc c,slots:=#[] }->
   ItemsOf (λi v=>items[items.size - 1 - i]?=some v) acc items.size->Q (.ref s.heap.objs.size) { s with heap:=h',toks:=tk }):wpAny (model prog w) A (call (.type "list") [.ref r]) Q E s:=by
 have rlt:r < s.heap.objs.size:=by obtain⟨_,q,_⟩:=hr;exact F9 q
 have llt:l < s.heap.objs.size:=by obtain⟨_,q,_⟩:=hl;exact F9 q
 refine callType_codes (Q₁:=λobj t=>obj=.ref s.heap.objs.size/\t={ s with heap:=s.heap.push { cls:=.type "list",data:=.seq #[] } }) F.called_list (F.typeCall_list_1 _) F.entry_list_init (code_list_new _ ⟨rfl,rfl⟩) λobj t ht=>?_
 obtain⟨rfl,rfl⟩:=ht
 have hS:(s.heap.push { cls:=.type "list",data:=.seq #[] }).get? s.heap.objs.size=some { cls:=.type "list",data:=.seq #[] }:=V8 _ rfl
 refine⟨⟨_,hS,rfl⟩,F.args_list_init_2 _ _,?_⟩
 generalize hh2:s.heap.push { cls:=.type "list",data:=.seq #[] }=h2 at hS
 have old:∀b o,s.heap.get? b=some o->h2.get? b=some o:=λb o e=>hh2▸L6 _ e
 have hSr:s.heap.objs.size≠r:=A2i rlt
 have hSl:s.heap.objs.size≠l:=A2i llt
 show wpAny _ _ (do let was <-Builtin.List.listItems (.ref s.heap.objs.size);Builtin.List.listUpdate (.ref s.heap.objs.size) (λ_=>#[]);letGo was.toList.reverse;Builtin.List.listExtendWith (.ref s.heap.objs.size) (.ref r) .none) _ _ _
 refine wpAny_bind ?_
 unfold Builtin.List.listItems
 refine wpAny_bind (wpAny_seqItems hS rfl (wpAny_pure ?_))
 show wpAny _ _ (updateSeq s.heap.objs.size (λ_=>#[]) >>= λ_=>letGo (#[]:Array Value).toList.reverse >>= λ_=>Builtin.List.listExtendWith (.ref s.heap.objs.size) (.ref r) .none) _ _ _
 refine wpAny_bind (wpAny_updateSeq hS rfl ?_)
 have hS3:=A5y (A5x (λ_=>(#[]:Array Value))) hS rfl
 refine wpAny_bind (wpAny_letGo ?_)
 have oth:∀b o,b≠s.heap.objs.size->h2.get? b=some o->(h2.update s.heap.objs.size (A5x (λ_=>(#[]:Array Value)))).get? b=some o:=λb o n e=>(p9 _ _ (Ne.symm n)).trans e
 generalize h2.update s.heap.objs.size (A5x (λ_=>(#[]:Array Value)))=h3 at hS3 oth
 have old3:∀b o,s.heap.get? b=some o->h3.get? b=some o:=λb o e=>oth b o (N5 (F9 e)) (old b o e)
 have hr3:h3.IsRevIter r l ((items.size:Int) - 1):=hr.at λo e=>old3 r o e
 have hl3:h3.IsList l items:=hl.at λo e=>old3 l o e
 have W:=(Walks.listRev (prog:=prog) (w:=w) (A:=A.in1.in1) hh r l hne items).toS
 unfold Builtin.List.listExtendWith
 refine wpAny_bind (wpAny_typeOf (T:= "list_reverseiterator") (s:={ s with heap:=h3 }) hr3.typeIs ?_)
 have z1:Builtin.List.listSameRef (.ref s.heap.objs.size) (.ref r)=false:=by simp [Builtin.List.listSameRef,hSr]
 rw[if_neg (by rw[z1];decide)]
 refine wpAny_bind (wpAny_pyIter_revIter (s:={ s with heap:=h3 }) hr3 ?_)
 refine wpAny_bind (wpAny_holding (C6q (s:={ s with heap:=h3 }) hr3 λtk=>?_))
 rw[if_neg (DD)]
 have nf:s.heap.objs.size∉[r,l]:=λq=>by
  rcases J8.mp q with e | e
  ·exact hSr e
  ·exact hSl (by simpa using e)
 have st0:0<=items.size/\h3.IsRevIter r l ((items.size:Int) - 1 - ((0:Nat):Int))/\h3.IsList l items:=⟨P0 _,by simpa using hr3,hl3⟩
 refine wpAny_pure ⟨plainId_quiet F.plain_extend_loop _,codeAny_extend_loopS W hz _ nf _ items.size 0 _ _ _ rfl (P0 _) st0 hS3 (ItemsOf.nil _) λs' acc c hm hS' hacc=>?_⟩
 rw[Moved.eq_with hm]
 refine⟨rfl,hQ s'.heap s'.toks acc c (λb o n e=>hm.heap b o (λq=>?_) (old3 b o e)) hS' hacc⟩
 rcases J8.mp q with z | z
 ·exact N5 (F9 e) z
 ·exact n (by simpa using z)
end
theorem B80:bootBuiltins "reversed" = some (.type "reversed"):=by decide +kernel
theorem C6s {items:Array Value} {acc:Array Value} (h:ItemsOf (λi v=>items[items.size - 1 - i]?=some v) acc items.size):acc.toList=items.toList.reverse:=by
 have hl:acc.size=items.size:=h.1
 apply List.ext_getElem?
 intro i
 by_cases c:i < items.size
 ·have ha:i < acc.size:=by lia
  have e:=h.2 i acc[i] (Array.getElem?_eq_getElem ha)
  rw[List.getElem?_reverse (by rw[A5t];exact c),A5t,B2b,B2b,Array.getElem?_eq_getElem ha]
  exact e.symm
 ·rw[A3o (by rw[A5t];lia),A3o (by rw[A7u,A5t];lia)]
section
variable {X:Cx}
theorem C6t {e:Expr} {te:TA} {p1 p2 p3 p4:Pos} (hg1:Gl X "list") (hm1:X.mg "list" = none) (hg2:Gl X "reversed") (hm2:X.mg "reversed" = none) (hc:X.calm=true) (he:PA X [e] te) (hs:starEach [e] X.env=[(false,eval e X.env)]:=by rfl)
  (hs2:starEach [.Call (.Name "reversed" p2) [e] [] p3] X.env=[(false,eval (.Call (.Name "reversed" p2) [e] [] p3) X.env)]:=by rfl):PE X (.Call (.Name "list" p1) [.Call (.Name "reversed" p2) [e] [] p3] [] p4)
   (fun σ H Q=>te σ H λvs H1=>∃a xs,vs=[.ref a]/\SqL X.K H1 a xs/\∀p,H1 p=none->Q (.ref p) (upd H1 p (.lst xs.reverse))):=by
 intro pins s σ H Q I h
 refine Call_ (A2p I hg1 hm1 A0t (PyProof.Rows.callWith_type1 ?_ hs2 rfl))
 rw[hs2]
 show wpAny _ _ (spliced [(false,eval (.Call (.Name "reversed" p2) [e] [] p3) X.env)]) _ _ s
 refine Calls.spliced_cons ?_
 refine Call_ (A2p I hg2 hm2 B80 (PyProof.Rows.callWith_type1 (thn (he p3 pins s σ H _ I h) λus s1 zz271=>el5 zz271 λvs H1 I1 r1 q1=>?_) hs rfl))
 obtain⟨a,xs,rfl,hq,q⟩:=q1
 obtain⟨u,rfl,rx⟩:=Z2 r1
 cases rx
 obtain⟨its,rv,pl,hz⟩:=I1.list hq
 have alt:a < s1.heap.objs.size:=by obtain⟨_,z,_⟩:=pl.isList;exact F9 z
 refine call_reversed_list pl.isList (Calls.spliced_nil ?_)
 have hr:(s1.heap.push (revObj a ((its.toArray.size:Int) - 1))).IsRevIter s1.heap.objs.size a ((its.toArray.size:Int) - 1):=⟨_,V8 _ rfl,rfl,rfl⟩
 have hl2:(s1.heap.push (revObj a ((its.toArray.size:Int) - 1))).IsList a its.toArray:=pl.isList.push _
 have hsz:(s1.heap.push (revObj a ((its.toArray.size:Int) - 1))).objs.size=s1.heap.objs.size + 1:=B13 ..
 refine C6r (s:={ s1 with heap:=s1.heap.push (revObj a ((its.toArray.size:Int) - 1)) }) (I1.ok.hd hc) hr hl2 (N5 alt) (by rw[O2,<-rv.length];exact hz) λh' tk acc c hk hS hacc=>?_
 have eq:=C6s hacc
 refine⟨.ref _,_,I1.laid (t':=tk) (o:=.lst xs.reverse) (λb o z=>hk b o (N5 (F9 z)) (L6 _ z)) (by show s1.heap.objs.size<=_;rw[hsz];exact A2k _) (show K2 X.prog X.w _ h' _ (.lst xs.reverse) from ⟨by rw[A7u];exact hz,acc.toList,c,?_,by simpa using hS⟩),rfl,q _ (I1.hok.fresh (by show s1.heap.objs.size<=_;rw[hsz];exact A2k _))⟩
 rw[eq]
 exact C5.rev rv
def Itv (K:A4) (a:Addr) (n:Nat):It:=
 ⟨λi H=>∃xs x,SqL K H a xs/\xs.length=n/\xs.reverse[i]?=some x,λi H x H'=>H'=H/\∀xs,SqL K H a xs->xs.reverse[i]?=some x,λi _=>n<=i⟩
theorem C6u {P:Program} {w:World} {K:A4} {tg:Expr} (a it:Addr) (n:Nat):A6a P w K tg (Itv K a n) [it] it (λi h=>i<=n/\h.IsRevIter it a ((n:Int) - 1 - ((i:Nat):Int))) where
 mem:=by simp
 obj:=λi h st b hb=>by
  have e:b=it:=by simpa using hb
  subst e
  obtain⟨_,o,e,c,d⟩:=st
  exact⟨o,e,λv z=>by rw[d] at z;cases z⟩
 keep:=λi h h' st k=>⟨st.1,st.2.at λo e=>k it (by simp) o e⟩
 item:=by
  intro X hP hw hK hc i pins s σ H E I hf st hg
  subst hP hw hK
  obtain⟨xs,x,hq,hn,hx⟩:=hg
  obtain⟨its,rv,p,hz⟩:=I.list hq
  have hil:i < n:=by
   have:=(A2h.mp hx).1
   rw[A7u,hn] at this
   exact this
  have hx':xs[n - 1 - i]?=some x:=by rw[List.getElem?_reverse (by lia),hn] at hx;exact hx
  obtain⟨u,hu,ru⟩:=rv.get hx'
  obtain⟨f0,f1,f2,f3,f4,f5⟩:=hf it (by simp)
  have ei:(n:Int) - 1 - ((i:Nat):Int)=((n - 1 - i:Nat):Int):=by lia
  refine wpAny_pyNext_rev_item (i:=n - 1 - i) (by rw[<-ei];exact st.2) p.isList (x:=u) (by simpa using hu) λh' st' sb=>?_
  have I1:Inv X pins σ H { s with heap:=h' }:=I.turned (t':=s.toks) (λb o hb e=>(sb.2 b hb).trans e) f0 f1 f3 f4 f5
  obtain⟨o,e,c,d⟩:=id st'
  have ej:((n - 1 - i:Nat):Int) - 1=(n:Int) - 1 - ((i + 1:Nat):Int):=by lia
  exact⟨u,rfl,B2u (s:={ s with heap:=h' }) e c d DD ⟨x,H,I1,ru,⟨rfl,λys hy=>by rw[I.list_inj hy hq];exact hx⟩,⟨hil,by rw[<-ej];exact st'⟩,λb hb=>(hf b hb).1⟩⟩
 done:=by
  intro X hP hw hK hc i pins s σ H E I hf st hg
  subst hP hw hK
  obtain⟨f0,f1,f2,f3,f4,f5⟩:=hf it (by simp)
  have e:i=n:=Nat.le_antisymm st.1 hg
  have em:(n:Int) - 1 - ((i:Nat):Int)=-1:=by lia
  exact wpAny_pyNext_rev_end (I.ok.hd hc) (by rw[<-em];exact st.2) λh' eb=>⟨rfl,I.turned (t':=s.toks) (λb o hb e=>eb b o hb e) f0 f1 f3 f4 f5⟩
 self:=λ_ _ _ _ _ st h=>wpAny_pyIter_revIter st.2 h
def B81 (K:A4) (ta:TA):TI:=fun σ H R=>ta σ H λvs H1=>∃a xs,vs=[.ref a]/\SqL K H1 a xs/\R (Itv K a xs.length) H1
theorem C6v {tg a:Expr} {ta:TA} {p pos:Pos} (hg:Gl X "reversed") (hm:X.mg "reversed" = none) (ha:PA X [a] ta) (hs:starEach [a] X.env=[(false,eval a X.env)]:=by rfl):PI X tg (.Call (.Name "reversed" p) [a] [] pos) (B81 X.K ta):=by
 intro pins s σ H R I h
 refine Call_ (A2p I hg hm B80 (PyProof.Rows.callWith_type1 (thn (ha pos pins s σ H _ I h) λus s1 zz272=>el5 zz272 λvs H1 I1 r1 q1=>?_) hs rfl))
 obtain⟨a',xs,rfl,hq,q⟩:=q1
 obtain⟨u,rfl,rx⟩:=Z2 r1
 cases rx
 obtain⟨its,rv,pl,hz⟩:=I1.list hq
 have en:((its.toArray.size:Nat):Int) - 1=((xs.length:Nat):Int) - 1:=by rw[O2,<-rv.length]
 refine call_reversed_list pl.isList ?_
 rw[en]
 have hr:(s1.heap.push (revObj a' ((xs.length:Int) - 1))).IsRevIter s1.heap.objs.size a' ((xs.length:Int) - 1):=⟨_,V8 _ rfl,rfl,rfl⟩
 refine wpAny_pyIter_revIter (s:={ s1 with heap:=s1.heap.push (revObj a' ((xs.length:Int) - 1)) }) hr ?_
 refine⟨_,[s1.heap.objs.size],_,_,H1,rfl,I1.kept (t':=s1.toks) λb o e=>L6 _ e,C6u a' _ xs.length,⟨P0 _,by simpa using hr⟩,λb hb=>?_,q⟩
 have e:b=s1.heap.objs.size:=by simpa using hb
 subst e
 exact I1.fpOk (F7 _) (I1.hok.fresh (F7 _))
end
section
variable {X:Cx} {pins:List (Addr×Obj)} {σ:St} {H:Hp} {s:Shared}
end
section
variable {prog:Program} {w:World} {A:Around} {E:Value->Shared->Prop} {s:Shared}
end
section
variable {prog:Program} {w:World} {A:Around} {R:Result->Shared->Prop} {I:Addr} {fp wr:List Addr} {n:Nat} {P:Nat->Value->Prop} {St:Nat->Heap->Prop}
end
theorem C5.un:∀{xs:List V} {us:List Value} {i:Nat} {u:Value},C5 xs us->us[i]?=some u->∃x,xs[i]?=some x/\C9 x u
 | _,_,_,_,.nil,e=>by simp at e
 | _,_,0,_,.cons r _,e=>by
  cases e
  exact⟨_,rfl,r⟩
 | _,_,i + 1,_,.cons _ t,e=>C5.un (i:=i) t e
section
variable {X:Cx}
end
section
variable {X:Cx} {pins:List (Addr×Obj)} {σ:St} {H:Hp} {s:Shared} {h':Heap}
end
section
variable {X:Cx}
end
section
variable {X:Cx} {tg:Expr}
end
section
variable {prog:Program} {w:World} {A:Around} {R:Result->Shared->Prop} {I:Addr} {fp wr:List Addr} {n:Nat} {P:Nat->Value->Prop} {St:Nat->Heap->Prop}
theorem C6w (kw:List (Str×Value)) (val:Nat->Int) (hval:∀i v,P i v->∃t,v=.int (val i) t) (W:Walks prog w A.in1 I fp wr n P St) (S:Addr) (hSf:S∉fp) :
  ∀(k j:Nat) (s:Shared) (vb:Value) (c:Nat),n - (j + 1)=k->j + 1<=n->St (j + 1) s.heap->(∃i,P i vb/\i<=j/\∀q,q<=j->val q<=val i)->
  s.heap.get? S=some { cls:=.type "list",dict:=none,data:=.seq #[vb,vb] c,slots:=#[] }->
  (∀v h' tk,(∃i,P i v/\i < n/\∀q,q < n->val q<=val i)->(∀b o,b∉wr->b≠S->s.heap.get? b=some o->h'.get? b=some o)->R (.ok (.ret v)) { s with heap:=h',toks:=tk })->
  codeAny (model prog w) A (.builtin "max.loop" ⟨[.ref I,.none,.ref S],kw⟩) R s:=by
 have hSw:S∉wr:=λh=>hSf (W.sub _ h)
 have hname:(toString "max" ++toString ".loop" : String) = "max.loop" :=by decide
 intro k
 induction k with
 | zero=>
  intro j s vb c hk hj hst hPb hS hR
  have hin:j + 1=n:=by lia
  refine codeAny_builtin F.entry_max_loop ?_
  rw[Around.under_plainId F.plain_max_loop _]
  show wpAny _ A.in1 (seqItems? (.ref S) >>= _) _ _ s
  refine wpAny_bind (wpAny_seqItems hS rfl ?_)
  show wpAny _ A.in1 (tryCatch (pyNext (.ref I)) _ >>= _) _ _ s
  refine wpAny_bind (wpAny_tryCatch (W.done s _ _ (hin▸hst) λh' tk hk'=>?_))
  have hS':=hk' S _ hSw hS
  show wpAny _ A.in1 (updateSeq S (λ_=>#[]) >>= _) _ _ _
  refine wpAny_bind ?_
  refine wpAny_updateSeq hS' rfl (wpAny_bind (wpAny_letGo (wpAny_pure ?_)))
  obtain⟨i,h1,h2,h3⟩:=hPb
  exact hR vb _ tk ⟨i,h1,OO,λq hq=>h3 q OO⟩ λb o hbw hbS e=>(p9 _ _ (Ne.symm hbS)).trans (hk' b o hbw e)
 | succ k ih=>
  intro j s vb c hk hj hst hPb hS hR
  have hlt:j + 1 < n:=by lia
  refine codeAny_builtin F.entry_max_loop ?_
  rw[Around.under_plainId F.plain_max_loop _]
  show wpAny _ A.in1 (seqItems? (.ref S) >>= _) _ _ s
  refine wpAny_bind (wpAny_seqItems hS rfl ?_)
  show wpAny _ A.in1 (tryCatch (pyNext (.ref I)) _ >>= _) _ _ s
  refine wpAny_bind (wpAny_tryCatch (W.item (j + 1) s _ _ hlt hst λv h' tk hP hst' hk'=>?_))
  have hS':=hk' S _ hSw hS
  obtain⟨ib,hib,hi1,hi2⟩:=hPb
  obtain⟨t1,rfl⟩:=hval _ v hP
  obtain⟨t2,rfl⟩:=hval _ vb hib
  show wpAny _ A.in1 (tryCatch (holding [_,_] (richCompare .Gt _ _ >>= _)) _ >>= _) _ _ _
  refine wpAny_bind (wpAny_tryCatch (wpAny_holding (wpAny_bind (richCompare_gives (op:=.Gt) (typeIs_int _ _ t1) (typeIs_int _ _ t2) F.slot_int_gt F.entry_int_gt (F.args_int_gt_2 _ _) (gives_int_gt _ _ t1 t2) (λx=>nomatch x) ?_))))
  refine wpAny_bind (wpAny_holding (wpAny_truthy_bool ?_))
  refine wpAny_bind (wpAny_letGo (wpAny_pure ?_))
  by_cases bt:val (j + 1) > val ib
  ·rw[decide_eq_true bt]
   simp only[if_true]
   refine wpAny_bind ?_
   refine wpAny_updateSeq hS' rfl (wpAny_bind (wpAny_letGo ?_))
   rw[hname]
   refine wpAny_pure ⟨plainId_quiet F.plain_max_loop _,ih (j + 1) _ _ _ OO hlt (W.frame _ _ _ hst' λb hbf o e=>?_) ⟨j + 1,hP,F7 _,λq hq=>?_⟩ (A5y _ hS' rfl)
    λv' h'' tk'' hP' hk''=>?_⟩
   ·exact (p9 _ _ (λh:S=b=>hSf (by rw[h];exact hbf))).trans e
   ·by_cases e:q=j + 1
    ·subst e;exact A51 _
    ·have:=hi2 q (OO);lia
   ·exact hR v' h'' tk'' hP' λb o hbw hbS e=>hk'' b o hbw hbS ((p9 _ _ (Ne.symm hbS)).trans (hk' b o hbw e))
  ·rw[decide_eq_false bt]
   simp only[B2c,if_false]
   refine wpAny_bind (wpAny_letGo ?_)
   rw[hname]
   refine wpAny_pure ⟨plainId_quiet F.plain_max_loop _,ih (j + 1) _ _ c OO hlt hst' ⟨ib,hib,OO,λq hq=>?_⟩ hS' λv' h'' tk'' hP' hk''=>?_⟩
   ·by_cases e:q=j + 1
    ·subst e;lia
    ·exact hi2 q (OO)
   ·exact hR v' h'' tk'' hP' λb o hbw hbS e=>hk'' b o hbw hbS (hk' b o hbw e)
theorem C6x (kw:List (Str×Value)) (val:Nat->Int) (hval:∀i v,P i v->∃t,v=.int (val i) t) (W:Walks prog w A.in1 I fp wr n P St) (S:Addr) (hSf:S∉fp) (hn:0 < n) {s:Shared} {c:Nat} (hst:St 0 s.heap)
  (hS:s.heap.get? S=some { cls:=.type "list",dict:=none,data:=.seq #[] c,slots:=#[] })
  (hR:∀v h' tk,(∃i,P i v/\i < n/\∀q,q < n->val q<=val i)->(∀b o,b∉wr->b≠S->s.heap.get? b=some o->h'.get? b=some o)->R (.ok (.ret v)) { s with heap:=h',toks:=tk }) :
  codeAny (model prog w) A (.builtin "max.loop" ⟨[.ref I,.none,.ref S],kw⟩) R s:=by
 have hSw:S∉wr:=λh=>hSf (W.sub _ h)
 have hname:(toString "max" ++toString ".loop" : String) = "max.loop" :=by decide
 refine codeAny_builtin F.entry_max_loop ?_
 rw[Around.under_plainId F.plain_max_loop _]
 show wpAny _ A.in1 (seqItems? (.ref S) >>= _) _ _ s
 refine wpAny_bind (wpAny_seqItems hS rfl ?_)
 show wpAny _ A.in1 (tryCatch (pyNext (.ref I)) _ >>= _) _ _ s
 refine wpAny_bind (wpAny_tryCatch (W.item 0 s _ _ hn hst λv h' tk hP hst' hk'=>?_))
 have hS':=hk' S _ hSw hS
 show wpAny _ A.in1 (updateSeq S (λ_=>#[v,v]) >>= _) _ _ _
 refine wpAny_bind ?_
 refine wpAny_updateSeq hS' rfl ?_
 rw[hname]
 refine wpAny_pure ⟨plainId_quiet F.plain_max_loop _,C6w kw val hval W S hSf _ 0 _ v _ rfl hn (W.frame _ _ _ hst' λb hbf o e=>?_) ⟨0,hP,F7 _,λq hq=>by rw[show q=0 by lia];exact A51 _⟩ (A5y _ hS' rfl) λv' h'' tk'' hP' hk''=>?_⟩
 ·exact (p9 _ _ (λh:S=b=>hSf (by rw[h];exact hbf))).trans e
 ·exact hR v' h'' tk'' hP' λb o hbw hbS e=>hk'' b o hbw hbS ((p9 _ _ (Ne.symm hbS)).trans (hk' b o hbw e))
end
section
variable {X:Cx}
def B82 (ns:List Int) (M:Int):Prop:=M∈ns/\∀n∈ns,n<=M
def B83 (K:A4):List V->Hp->VK->Prop:=λxs H Q=>∃(p:Addr) (ns:List Int),xs=[.ref p]/\SqL K H p (ns.map V.int)/\ns≠[]/\∀M,B82 ns M->Q (.int M) H
theorem B84 {ns:List Int} {its:List Value} (rv:C5 (ns.map V.int) its) {i:Nat} {v:Value} (h:its[i]?=some v):∃n t,ns[i]?=some n/\v=.int n t:=by
 obtain⟨x,hx,rx⟩:=C5.un rv h
 rw[S0] at hx
 cases e:ns[i]? with
 | none=>rw[e] at hx;cases hx
 | some n=>
  rw[e] at hx
  cases hx
  obtain⟨t,rfl⟩:=rx
  exact⟨n,t,rfl,rfl⟩
theorem B85 (hc:X.calm=true):X9 X (.builtin "max") (B83 X.K):=by
 intro pins s σ H xs us Q I r h
 obtain⟨p,ns,rfl,hq,hne,q⟩:=h
 obtain⟨u,rfl,rx⟩:=Z2 r
 cases rx
 obtain⟨its,rv,pl,hz⟩:=I.list hq
 have hl:=pl.isList
 have hlt:p < s.heap.objs.size:=by obtain⟨_,e,_⟩:=hl;exact F9 e
 have hlen:=rv.length
 rw[D6] at hlen
 have hname:(toString "max" ++toString ".loop" : String) = "max.loop" :=by decide
 refine call_function_tree F.kind_max F.plain_max F.entry_max (F.args_max1 _) ?_
 show wpAny _ X.A.in1 (Builtin.Builtins.bindParams "max" ["key", "default"] 0 ⟨[],[]⟩ >>= _) _ _ s
 refine wpAny_bind (wpAny_of_eq (show Builtin.Builtins.bindParams "max" ["key", "default"] 0 ⟨[],[]⟩=pure [none,none] from rfl) ?_)
 refine wpAny_bind (wpAny_pure ?_)
 refine wpAny_bind (wpAny_pyIter_list hl ?_)
 refine wpAny_bind (wpAny_newObj_type ?_)
 rw[hname]
 have W:=Walks.list (prog:=X.prog) (w:=X.w) (A:=X.A.in1) (I.ok.hd hc) s.heap.objs.size p (N5 hlt) its.toArray
 have sz:∀(h:Heap) (o:Obj),(h.push o).objs.size=h.objs.size + 1:=λh o=>by simp [Heap.push]
 refine wpAny_pure ⟨plainId_quiet F.plain_max_loop _,C6x [] (λi=>(ns[i]?).getD 0) (λi v hv=>?_) W _ ?_ ?_ ?_ (V8 _ rfl) λv h' tk hP hk=>?_⟩
 ·have hv':its[i]?=some v:=by simpa using hv
  obtain⟨n,t,e,rfl⟩:=B84 rv hv'
  exact⟨t,by rw[e];rfl⟩
 ·intro hm
  rw[sz] at hm
  rcases J8.mp hm with z | z
  ·exact absurd z (Nat.succ_ne_self _)
  ·have h2:s.heap.objs.size + 1=p:=j5.mp z
   have h3:s.heap.objs.size + 1 < s.heap.objs.size:=by rw[h2];exact hlt
   exact absurd h3 (A7v.mpr (A2k _))
 ·rw[O2,<-hlen]
  exact List.length_pos_iff.mpr hne
 ·exact W.frame _ _ _ ⟨⟨_,V8 _ rfl,rfl,rfl⟩,hl.push _⟩ λb _ o e=>L6 _ e
 ·obtain⟨i,hi,hi1,hi2⟩:=hP
  have hv':its[i]?=some v:=by simpa using hi
  obtain⟨n,t,e,rfl⟩:=B84 rv hv'
  refine⟨.int n,H,I.kept (t':=tk) λb o e=>?_,⟨t,rfl⟩,q n ⟨X1 e,λm hm=>?_⟩⟩
  ·have hb:=F9 e
   refine hk b o (λhm=>?_) (λhm=>?_) (L6 _ (L6 _ e))
   ·rw[j5.mp hm] at hb;exact A0k _ hb
   ·rw[hm,sz] at hb;exact absurd hb (A7v.mpr (A2k _))
  ·obtain⟨j,hj,rfl⟩:=A9k.mp hm
   have:=hi2 j (by rw[O2,<-hlen];exact hj)
   rw[P5 hj,e] at this
   exact this
end
section
variable {prog:Program} {w:World} {A:Around} {R:Result->Shared->Prop} {I:Addr} {fp wr:List Addr} {n:Nat} {P:Nat->Value->Prop} {St:Nat->Heap->Prop}
end
section
variable {X:Cx}
end
end L2
namespace My
open PySem L2
def Hd (H:Hp) (a l:Addr):Prop:=∃(ns:List Int) (p b c u v:Int),H l=some (.lst (ns.map V.int))/\0<=p/\H a=some (.lst [.ref l,.int p,.int b,.int c,.int u,.int v])
def Kp (a:Addr) (H H':Hp):Prop:=∀b o,H b=some o->b≠a->H' b=some o
theorem Kp.refl (a:Addr) (H:Hp):Kp a H H:=λ_ _ e _=>e
theorem Kp.trans {a:Addr} {H H1 H2:Hp} (x:Kp a H H1) (y:Kp a H1 H2):Kp a H H2:=λb o e n=>y b o (x b o e n) n
theorem B0f {H:Hp} {a l:Addr} {ns:List Int} {xs:List V} (hl:H l=some (.lst (ns.map V.int))) (ha:H a=some (.lst (.ref l::xs))):l≠a:=B69 hl ha (by
 intro e
 injection e with e
 cases ns with
 | nil=>cases e
 | cons n r=>injection e with e1;cases e1)
theorem Hd.at1 {H:Hp} {a l:Addr} (h:Hd H a l):∃o,H a=some o:=let ⟨_,_,_,_,_,_,_,_,e⟩:=h;⟨_,e⟩
theorem Hd.at2 {H:Hp} {a l:Addr} (h:Hd H a l):∃o,H l=some o:=let ⟨_,_,_,_,_,_,e,_⟩:=h;⟨_,e⟩
theorem Hd.ne {H:Hp} {a l p:Addr} (h:Hd H a l) (hp:H p=none):p≠a/\p≠l:=by
 obtain⟨o,e⟩:=h.at1
 obtain⟨o',e'⟩:=h.at2
 exact⟨(P6 e hp).symm,(P6 e' hp).symm⟩
theorem Hd.wr {H:Hp} {a l p:Addr} {o:HO} (h:Hd H a l) (n1:p≠a) (n2:p≠l):Hd (upd H p o) a l:=by
 obtain⟨ns,q,b,c,u,v,h1,h2,h3⟩:=h
 exact⟨ns,q,b,c,u,v,by rw[B1 n2.symm];exact h1,h2,by rw[B1 n1.symm];exact h3⟩
theorem Hd.lay {H:Hp} {a l p:Addr} {o:HO} (h:Hd H a l) (hp:H p=none):Hd (upd H p o) a l:=h.wr (h.ne hp).1 (h.ne hp).2
theorem Hd.same {H H':Hp} {a l:Addr} (h:Hd H a l) (s:Same H H'):Hd H' a l:=by
 obtain⟨ns,q,b,c,u,v,h1,h2,h3⟩:=h
 exact⟨ns,q,b,c,u,v,s _ _ h1,h2,s _ _ h3⟩
theorem _root_.L2.Same.lay {p:Addr} {H H1:Hp} {o:HO} (x:Same H H1) (h:H1 p=none):Same H (upd H1 p o):=λb u e=>by
 have e1:=x b u e
 rw[B1 (P6 e1 h)];exact e1
theorem C6y {ns:List Int} {p:Int} (h0:0<=p) (h1:p < (ns.length:Int)):∃z,atI (ns.map V.int) p=some (.int z):=by
 obtain⟨n,rfl⟩:=Int.eq_ofNat_of_zero_le h0
 have hp:n < ns.length:=by lia
 exact⟨ns[n],A0q (by rw[S0,P5 hp];rfl)⟩
def C6z (K:A4):Sp:=λvs H Q _=>∃(a:Addr) (ns:List Int),vs=[.ref a]/\SqL K H a (ns.map V.int)/\∀(p l:Addr) (H':Hp),H p=none->H l=none->Hd H' p l->Same H H'->Q (.ref p) H'
def C60:Sp:=λvs H Q _=>∃a l,vs=[.ref a]/\Hd H a l/\∀(r:Int) (H':Hp),Hd H' a l->Kp a H H'->Q (.int r) H'
def C61:Sp:=λvs H Q _=>∃a l,vs=[.ref a]/\Hd H a l/\∀(H':Hp),Hd H' a l->Kp a H H'->Q .non H'
def C62:Sp:=λvs H Q _=>∃a l m,vs=[.ref a,.int m]/\Hd H a l/\0 < m/\m < 100000000000000000000000000000000000000000000000000000000000000/\∀(r:Int) (H':Hp),0<=r->r < m->Hd H' a l->Kp a H H'->Q (.int r) H'
def dEn (ks:List (List Int)):List (List Key×V):=ks.map λk=>(k.map Sum.inl,V.bl true)
def dEm (ks:List (List Int×Int)):List (List Key×V):=ks.map λp=>(p.1.map Sum.inl,V.int p.2)
def C63 (k:List Int):PyData:=.tuple (k.map PyData.int)
inductive DiU:HO->List (PyData×PyData)->Prop
 | t:DiU (.dT []) []
 | k (i j:Int):DiU (.dK [(Sum.inl i,V.int j)]) [(.int i,.int j)]
 | f (o:Obj) (ks:List (List Int)):DiU (.frz o (.dT (dEn ks))) ((.none,.none)::ks.map λk=>(C63 k,.bool true))
mutual
inductive ThV (F:Addr->Prop) (H:Hp):V->PyData->Prop
 | non:ThV F H .non .none
 | bl (b):ThV F H (.bl b) (.bool b)
 | int (i):ThV F H (.int i) (.int i)
 | str (x):ThV F H (.str x) (.str x)
 | lst {a xs ds}:F a->H a=some (.lst xs)->B0 F H xs ds->ThV F H (.ref a) (.list ds)
 | tup {a xs ds}:F a->H a=some (.tup xs)->B0 F H xs ds->ThV F H (.ref a) (.tuple ds)
 | dic {a u kvs}:F a->H a=some u->DiU u kvs->ThV F H (.ref a) (.dict kvs)
inductive B0 (F:Addr->Prop) (H:Hp):List V->List PyData->Prop
 | nil:B0 F H [] []
 | cons {x xs d ds}:ThV F H x d->B0 F H xs ds->B0 F H (x::xs) (d::ds)
end
mutual
theorem ThV.mv {F G:Addr->Prop} {H H':Hp} (f:∀b o,F b->H b=some o->G b/\H' b=some o):∀{v:V} {d:PyData},ThV F H v d->ThV G H' v d
 | _,_,.non=>.non
 | _,_,.bl b=>.bl b
 | _,_,.int i=>.int i
 | _,_,.str x=>.str x
 | _,_,.lst n e t=>.lst (f _ _ n e).1 (f _ _ n e).2 (B0.mv f t)
 | _,_,.tup n e t=>.tup (f _ _ n e).1 (f _ _ n e).2 (B0.mv f t)
 | _,_,.dic n e t=>.dic (f _ _ n e).1 (f _ _ n e).2 t
theorem B0.mv {F G:Addr->Prop} {H H':Hp} (f:∀b o,F b->H b=some o->G b/\H' b=some o):∀{vs:List V} {ds:List PyData},B0 F H vs ds->B0 G H' vs ds
 | _,_,.nil=>.nil
 | _,_,.cons x t=>.cons (ThV.mv f x) (B0.mv f t)
end
theorem B0.same {F:Addr->Prop} {H H':Hp} {v:List V} {d:List PyData} (t:B0 F H v d) (s:Same H H'):B0 F H' v d:=t.mv λb o z e=>⟨z,s b o e⟩
theorem B0.append {F:Addr->Prop} {H:Hp} {xs:List V} {ds:List PyData} {ys:List V} {es:List PyData} (t:B0 F H xs ds) (y:B0 F H ys es):B0 F H (xs++ys) (ds++es):=by
 induction xs generalizing ds with
 | nil=>cases t;exact y
 | cons v xs ih=>
  cases t with
  | cons x t=>exact .cons x (ih t)
theorem B0.len {F:Addr->Prop} {H:Hp} {xs:List V} {ds:List PyData} (t:B0 F H xs ds):xs.length=ds.length:=by
 induction xs generalizing ds with
 | nil=>cases t;rfl
 | cons v xs ih=>
  cases t with
  | cons x t=>rw[G3,G3,ih t]
theorem B0.get {F:Addr->Prop} {H:Hp}:∀{xs:List V} {ds:List PyData} {i:Nat} {v:V},B0 F H xs ds->xs[i]?=some v->∃d,ds[i]?=some d/\ThV F H v d
 | _,_,_,_,.nil,e=>by simp at e
 | _,_,0,v,.cons (d:=d) x _,e=>by
  have e':=Option.some.inj e
  subst e'
  exact⟨d,rfl,x⟩
 | _,_,i + 1,v,.cons _ t,e=>B0.get (i:=i) t e
theorem B0.at {F:Addr->Prop} {H:Hp}:∀{xs:List V} {ds:List PyData} {i:Nat} {d:PyData},B0 F H xs ds->ds[i]?=some d->∃v,xs[i]?=some v/\ThV F H v d
 | _,_,_,_,.nil,e=>by simp at e
 | _,_,0,d,.cons (x:=v) x _,e=>by
  have e':=Option.some.inj e
  subst e'
  exact⟨v,rfl,x⟩
 | _,_,i + 1,v,.cons _ t,e=>B0.at (i:=i) t e
mutual
theorem ThV.dat {K:A4} {F:Addr->Prop} {H:Hp}:∀{v:V} {d:PyData},ThV F H v d->d.canLay0=true->m5 K H v d
 | _,_,.non,_=>.non
 | _,_,.bl b,_=>.bl b
 | _,_,.int i,_=>.int i
 | _,_,.str x,_=>.str x
 | _,_,.lst _ e t,h=>.lst (SqL.of e) (B0.dat t (by rw[PyData.canLay0] at h;exact h))
 | _,_,.tup _ e t,h=>.tup (SqT.of e) (B0.dat t (by rw[PyData.canLay0] at h;exact h))
 | _,_,.dic _ _ _,h=>by rw[PyData.canLay0] at h;cases h
theorem B0.dat {K:A4} {F:Addr->Prop} {H:Hp}:∀{vs:List V} {ds:List PyData},B0 F H vs ds->PyData.canLayAll0 ds=true->A0s K H vs ds
 | _,_,.nil,_=>.nil
 | _,_,.cons x t,h=>by
  rw[PyData.canLayAll0,r8] at h
  exact .cons (ThV.dat x h.1) (B0.dat t h.2)
end
structure DC where
 F:Addr->Prop
 hand:Option (Addr×Addr)
 H0:Hp
def Kq (h:Option (Addr×Addr)) (H H':Hp):Prop:=∀b o,H b=some o->(∀q,h=some q->b≠q.1)->H' b=some o
def Hq (h:Option (Addr×Addr)) (H:Hp):Prop:=∀q,h=some q->Hd H q.1 q.2
section
variable {h:Option (Addr×Addr)} {H H1 H2 H':Hp} {p:Addr} {o:HO}
theorem Kq.refl:Kq h H H:=λ_ _ e _=>e
theorem Kq.trans (a:Kq h H H1) (b:Kq h H1 H2):Kq h H H2:=λc o e n=>b c o (a c o e n) n
theorem Kq.same (s:Same H H'):Kq h H H':=λb o e _=>s b o e
theorem Kq.fr {b:Addr} (k:Kq h H H') (q:Hq h H') (e:H' b=none):H b=none:=by
 cases z:H b with
 | none=>rfl
 | some o=>
  by_cases c:∀p,h=some p->b≠p.1
  ·rw[k b o z c] at e;cases e
  ·refine absurd (λp hp hb=>?_) c
   obtain⟨o',e'⟩:=(q p hp).at1
   rw[hb,e'] at e;cases e
theorem Kq.lay (hp:H p=none):Kq h H (upd H p o):=Kq.same ((Same.refl H).lay hp)
theorem Hq.lay (q:Hq h H) (hp:H p=none):Hq h (upd H p o):=λz hz=>(q z hz).lay hp
end
inductive Rws (G F:Addr->Prop) (H:Hp):List Addr->List (List PyData)->Prop
 | nil:Rws G F H [] []
 | cons {b vs as ds dss}:G b->H b=some (.lst vs)->B0 F H vs ds->Rws G F H as dss->Rws G F H (b::as) (ds::dss)
theorem Rws.mv {G F G' F':Addr->Prop} {H H':Hp} {as:List Addr} {dss:List (List PyData)} (t:Rws G F H as dss) (f:∀b o,F b->H b=some o->F' b/\H' b=some o) (g:∀b o,G b->H b=some o->G' b/\H' b=some o):Rws G' F' H' as dss:=by
 induction t with
 | nil=>exact .nil
 | cons x e y _ ih=>exact .cons (g _ _ x e).1 (g _ _ x e).2 (y.mv f) ih
theorem Rws.mvl {G F G' F':Addr->Prop} {H H':Hp} {as:List Addr} {dss:List (List PyData)} (t:Rws G F H as dss) (f:∀b o,F b->H b=some o->F' b/\H' b=some o) (g:∀b ys,G b->H b=some (.lst ys)->G' b/\H' b=some (.lst ys)):Rws G' F' H' as dss:=by
 induction t with
 | nil=>exact .nil
 | cons x e y _ ih=>exact .cons (g _ _ x e).1 (g _ _ x e).2 (y.mv f) ih
def A6f (H:Hp) (a:Addr) (ks:List (List Int)):Bool->Prop
 | false=>H a=some (.dT (dEn ks))
 | true=>∃o,H a=some (.frz o (.dT (dEn ks)))
theorem A6f.mv {H H':Hp} {a:Addr} {ks:List (List Int)} {f:Bool} (h:A6f H a ks f) (k:∀o,H a=some o->H' a=some o):A6f H' a ks f:=by
 cases f with
 | false=>exact k _ h
 | true=>obtain⟨o,h⟩:=h;exact⟨o,k _ h⟩
theorem A6f.ne {H:Hp} {a:Addr} {ks:List (List Int)} {f:Bool} (h:A6f H a ks f):H a≠none:=by
 cases f with
 | false=>exact λq=>by rw[show H a=_ from h] at q;cases q
 | true=>obtain⟨o,h⟩:=h;exact λq=>by rw[h] at q;cases q
def A6g (H:Hp) (a:Addr) (ks:List (List Int×Int)):Bool->Prop
 | false=>H a=some (.dT (dEm ks))
 | true=>∃o,H a=some (.frz o (.dT (dEm ks)))
theorem A6g.mv {H H':Hp} {a:Addr} {ks:List (List Int×Int)} {f:Bool} (h:A6g H a ks f) (k:∀o,H a=some o->H' a=some o):A6g H' a ks f:=by
 cases f with
 | false=>exact k _ h
 | true=>obtain⟨o,h⟩:=h;exact⟨o,k _ h⟩
theorem A6g.ne {H:Hp} {a:Addr} {ks:List (List Int×Int)} {f:Bool} (h:A6g H a ks f):H a≠none:=by
 cases f with
 | false=>exact λq=>by rw[show H a=_ from h] at q;cases q
 | true=>obtain⟨o,h⟩:=h;exact λq=>by rw[h] at q;cases q
structure B3d where
 p:(Addr->Prop)->Hp->V->Prop
 mv:∀{W W':Addr->Prop} {H H':Hp} {v:V},(∀b o,W b->H b=some o->W' b/\H' b=some o)->p W H v->p W' H' v
inductive Sl where
 | no
 | sh (d:PyData)
 | ow (ds:List PyData)
 | bo (ds:List PyData)
 | hd
 | o2 (dss:List (List PyData))
 | b2 (dss:List (List PyData))
 | di (f:Bool) (ks:List (List Int))
 | dm (f:Bool) (kvs:List (List Int×Int))
 | bd (d:PyData)
 | ot (d:PyData)
 | ob (R:B3d)
abbrev Z (col:Addr->Nat):Addr->Prop:=λb=>col b=0
abbrev Le (C:DC):Addr->Prop:=λb=>C.H0 b≠none/\∀q,C.hand=some q->b≠q.1
abbrev Ow (C:DC) (col:Addr->Nat) (H:Hp) (i:Nat):Addr->Prop:=λb=>(col b=2 * i + 3/\C.H0 b=none)\/(col b=0/\∃xs,H b=some (.tup xs))
def SlR (C:DC) (col:Addr->Nat) (H:Hp) (i:Nat) (o:Option V):Sl->Prop
 | .no=>True
 | .sh d=>∃v,o=some v/\ThV (Z col) H v d
 | .ow ds=>∃a vs,o=some (.ref a)/\col a=2 * i + 3/\C.H0 a=none/\H a=some (.lst vs)/\B0 (Z col) H vs ds
 | .bo ds=>∃a vs,o=some (.ref a)/\col a<=1/\(∀q,C.hand=some q->a≠q.1)/\H a=some (.lst vs)/\B0 (Z col) H vs ds
 | .hd=>∃q,C.hand=some q/\o=some (.ref q.1)
 | .o2 dss=>∃a as,o=some (.ref a)/\(col a=2 * i + 3/\C.H0 a=none)/\H a=some (.lst (as.map V.ref))/\(a::as).Nodup/\Rws (λb=>col b=2 * i + 3/\C.H0 b=none) (Z col) H as dss
 | .b2 dss=>∃a as,o=some (.ref a)/\(col a<=1/\∀q,C.hand=some q->a≠q.1)/\H a=some (.lst (as.map V.ref))/\Rws (λb=>col b<=1/\∀q,C.hand=some q->b≠q.1) (Z col) H as dss
 | .di f ks=>∃a,o=some (.ref a)/\col a=2 * i + 3/\C.H0 a=none/\A6f H a ks f
 | .dm f ks=>∃a,o=some (.ref a)/\col a=2 * i + 3/\C.H0 a=none/\A6g H a ks f
 | .bd d=>∃v,o=some v/\ThV (Le C) C.H0 v d
 | .ot d=>∃v,o=some v/\ThV (Ow C col H i) H v d
 | .ob R=>∃v,o=some v/\R.p (Ow C col H i) H v
inductive Pe where
 | v (v:V) (d:PyData)
 | n (a:Addr) (o:HO)
 | s (vs:List V) (ds:List PyData)
 | o (c:Nat) (as:List Addr) (dss:List (List PyData))
 | w (v:V) (d:PyData)
def PeR (C:DC) (col:Addr->Nat) (H:Hp):Pe->Prop
 | .v v d=>ThV (Z col) H v d
 | .n a o=>col a<=1/\(∀q,C.hand=some q->a≠q.1)/\H a=some o
 | .s vs ds=>B0 (Z col) H vs ds
 | .o c as dss=>as.Nodup/\Rws (λb=>col b=2 * c + 2/\C.H0 b=none) (Z col) H as dss
 | .w v d=>ThV (Le C) C.H0 v d
structure F6 (C:DC) (col:Addr->Nat) (ρ:List Sl) (σ:St) (P:List Pe) (H:Hp):Prop where
 fresh:∀b,H b=none->col b=0
 inF:∀b,col b=0->C.F b
 hnd:∀q,C.hand=some q->col q.1=1
 sl:∀i s,ρ[i]?=some s->SlR C col H i (σ[i]?).join s
 pd:∀p∈P,PeR C col H p
 kq:Kq C.hand C.H0 H
 hq:Hq C.hand H
 hq0:Hq C.hand C.H0
 nf:(∀b,C.H0 b=none->C.F b)/\∀b xs,C.H0 b=some (.tup xs)->C.F b
 len:ρ.length=σ.length
def Rel (C:DC) (ρ:List Sl) (σ:St) (P:List Pe) (H:Hp):Prop:=∃col,F6 C col ρ σ P H
section
variable {C:DC} {col col':Addr->Nat} {ρ:List Sl} {σ:St} {P P':List Pe} {H H':Hp} {v:V} {d:PyData} {o:HO} {p:Addr}
theorem F6.notH (r:F6 C col ρ σ P H) {b:Addr} (hb:col b≠1):∀q,C.hand=some q->b≠q.1:=λq hq e=>hb (e▸r.hnd q hq)
theorem F6.mv (r:F6 C col ρ σ P H) (k:Kq C.hand H H') (q:Hq C.hand H'):F6 C col ρ σ P H':=by
 have mv0:∀b o,Z col b->H b=some o->Z col b/\H' b=some o:=λb o z e=>⟨z,k b o e (r.notH (by rw[show col b=0 from z];decide))⟩
 refine⟨λb e=>r.fresh b (k.fr q e),r.inF,r.hnd,λi s e=>?_,λp hp=>?_,r.kq.trans k,q,r.hq0,r.nf,r.len⟩
 ·have h:=r.sl i s e
  cases s with
  | no=>trivial
  | sh d=>obtain⟨v,e1,t⟩:=h;exact⟨v,e1,t.mv mv0⟩
  | ow ds=>obtain⟨a,vs,e1,c,n,e2,t⟩:=h;exact⟨a,vs,e1,c,n,k a _ e2 (r.notH (by lia)),t.mv mv0⟩
  | bo ds=>obtain⟨a,vs,e1,c,n,e2,t⟩:=h;exact⟨a,vs,e1,c,n,k a _ e2 n,t.mv mv0⟩
  | hd=>exact h
  | o2 dss=>obtain⟨a,as,e1,c,e2,nd,t⟩:=h;exact⟨a,as,e1,c,k a _ e2 (r.notH (by lia)),nd,t.mv mv0 λb o g e=>⟨g,k b o e (r.notH (by have:=g.1;lia))⟩⟩
  | b2 dss=>obtain⟨a,as,e1,c,e2,t⟩:=h;exact⟨a,as,e1,c,k a _ e2 c.2,t.mv mv0 λb o g e=>⟨g,k b o e g.2⟩⟩
  | di f ks=>obtain⟨a,e1,c,n,e2⟩:=h;exact⟨a,e1,c,n,e2.mv λo e=>k a o e (r.notH (by lia))⟩
  | dm f ks=>obtain⟨a,e1,c,n,e2⟩:=h;exact⟨a,e1,c,n,e2.mv λo e=>k a o e (r.notH (by lia))⟩
  | bd d=>exact h
  | ot d=>
   obtain⟨v,e1,t⟩:=h
   refine⟨v,e1,t.mv λb o g e=>?_⟩
   have e':H' b=some o:=k b o e (r.notH (by rcases g with g | g <;> (have:=g.1;lia)))
   exact⟨g.imp id λ⟨c,xs,z⟩=>⟨c,xs,by rw[e] at z;rw[e'];exact z⟩,e'⟩
  | ob R=>
   obtain⟨v,e1,t⟩:=h
   refine⟨v,e1,R.mv (λb o g e=>?_) t⟩
   have e':H' b=some o:=k b o e (r.notH (by rcases g with g | g <;> (have:=g.1;lia)))
   exact⟨g.imp id λ⟨c,xs,z⟩=>⟨c,xs,by rw[e] at z;rw[e'];exact z⟩,e'⟩
 ·have h:=r.pd p hp
  cases p with
  | v v d=>exact ThV.mv mv0 h
  | n a o=>exact⟨h.1,h.2.1,k a o h.2.2 h.2.1⟩
  | s vs ds=>exact B0.mv mv0 h
  | o c as dss=>exact⟨h.1,h.2.mv mv0 λb o g e=>⟨g,k b o e (r.notH (by have:=g.1;lia))⟩⟩
  | w v d=>exact h
theorem F6.lay (r:F6 C col ρ σ P H) (hp:H p=none):F6 C col ρ σ P (upd H p o):=r.mv (Kq.lay hp) (r.hq.lay hp)
theorem F6.add (r:F6 C col ρ σ P H) {x:Pe} (t:PeR C col H x):F6 C col ρ σ (x::P) H:=
 { r with pd:=λp hp=>(J8.mp hp).elim (λe=>e▸t) (r.pd p) }
theorem F6.push (r:F6 C col ρ σ P H) (t:ThV (Z col) H v d):F6 C col ρ σ (.v v d::P) H:=r.add t
theorem F6.sub (r:F6 C col ρ σ P H) (h:∀p∈P',p∈P):F6 C col ρ σ P' H:={ r with pd:=λp hp=>r.pd p (h p hp) }
theorem Rel.sub (r:Rel C ρ σ P H) (h:∀p∈P',p∈P):Rel C ρ σ P' H:=let ⟨c,r⟩:=r;⟨c,r.sub h⟩
theorem Rel.pop {x:Pe} (r:Rel C ρ σ (x::P) H):Rel C ρ σ P H:=r.sub λ_ h=>C8 _ h
theorem F6.tup {vs:List V} {ds:List PyData} (r:F6 C col ρ σ P H) (t:B0 (Z col) H vs ds) (hp:H p=none):F6 C col ρ σ (.v (.ref p) (.tuple ds)::P) (upd H p (.tup vs)):=
 (r.lay hp).push (.tup (r.fresh p hp) B2 (t.same ((Same.refl H).lay hp)))
theorem F6.lst {vs:List V} {ds:List PyData} (r:F6 C col ρ σ P H) (t:B0 (Z col) H vs ds) (hp:H p=none):F6 C col ρ σ (.v (.ref p) (.list ds)::P) (upd H p (.lst vs)):=
 (r.lay hp).push (.lst (r.fresh p hp) B2 (t.same ((Same.refl H).lay hp)))
theorem F6.recol (r:F6 C col ρ σ P H) {ρ':List Sl} {σ':St} (hl:ρ'.length=σ'.length) (f:∀b,H b=none->col' b=0) (i:∀b,col' b=0->C.F b) (n:∀q,C.hand=some q->col' q.1=1) (z:∀b,col b=0->H b≠none->col' b=0)
  (lo:∀b,col b<=1->H b≠none->col' b<=1) (c2:∀b c,col b=2 * c + 2->col' b=2 * c + 2) (s:∀i s,ρ'[i]?=some s->SlR C col' H i (σ'[i]?).join s):F6 C col' ρ' σ' P H:=by
 have mv0:∀b o,Z col b->H b=some o->Z col' b/\H b=some o:=λb o zz e=>⟨z b zz (by rw[e];exact λq=>nomatch q),e⟩
 refine⟨f,i,n,s,λp hp=>?_,r.kq,r.hq,r.hq0,r.nf,hl⟩
 have h:=r.pd p hp
 cases p with
 | v v d=>exact ThV.mv mv0 h
 | n a o=>exact⟨lo a h.1 (by rw[h.2.2];exact λq=>nomatch q),h.2⟩
 | s vs ds=>exact B0.mv mv0 h
 | o c as dss=>exact⟨h.1,h.2.mv mv0 λb o g e=>⟨⟨c2 b c g.1,g.2⟩,e⟩⟩
 | w v d=>exact h
theorem F6.freeze {i:Nat} {ds:List PyData} (r:F6 C col ρ σ P H) (e:ρ[i]?=some (.ow ds)) :
  ∃a,(σ[i]?).join=some (.ref a)/\Rel C (ρ.set i (.sh (.list ds))) σ (.v (.ref a) (.list ds)::P) H:=by
 obtain⟨a,vs,e1,c,n,e2,t⟩:=r.sl i _ e
 let col':Addr->Nat:=λb=>if b=a then 0 else col b
 have ca:col' a=0:=if_pos rfl
 have cn:∀b,b≠a->col' b=col b:=λb hb=>if_neg hb
 have z:∀b,col b=0->col' b=0:=λb hb=>by
  by_cases q:b=a
  ·rw[q];exact ca
  ·rw[cn b q];exact hb
 have mv0:∀b o,Z col b->H b=some o->Z col' b/\H b=some o:=λb o zz e=>⟨z b zz,e⟩
 have T:ThV (Z col') H (.ref a) (.list ds):=.lst ca e2 (t.mv mv0)
 have R:F6 C col' (ρ.set i (.sh (.list ds))) σ P H:=by
  refine r.recol (by rw[X2];exact r.len) (λb hb=>z b (r.fresh b hb)) (λb hb=>?_) (λq hq=>?_) (λb hb _=>z b hb) (λb hb _=>?_) (λb c2 hb=>by rw[cn b (λq=>by rw[q] at hb;lia)];exact hb) λj s es=>?_
  ·by_cases q:b=a
   ·rw[q];exact r.nf.1 a n
   ·rw[cn b q] at hb;exact r.inF b hb
  ·rw[cn _ λq'=>by have:=r.hnd q hq;rw[q'] at this;lia];exact r.hnd q hq
  ·by_cases q:b=a
   ·rw[q,ca];lia
   ·rw[cn b q];exact hb
  ·by_cases hj:j=i
   ·subst hj
    rw[A50] at es
    simp only[if_true] at es
    split at es
    ·cases es;exact⟨_,e1,T⟩
    ·cases es
   ·rw[p7 (Ne.symm hj)] at es
    have h:=r.sl j s es
    cases s with
    | no=>trivial
    | sh d=>obtain⟨v,e1,t⟩:=h;exact⟨v,e1,t.mv mv0⟩
    | ow ds=>obtain⟨a',vs',e1',c',n',e2',t'⟩:=h;exact⟨a',vs',e1',by rw[cn a' (λq=>by rw[q] at c';lia)];exact c',n',e2',t'.mv mv0⟩
    | bo ds=>obtain⟨a',vs',e1',c',n',e2',t'⟩:=h;exact⟨a',vs',e1',by by_cases q:a'=a;{ rw[q,ca];lia };{ rw[cn a' q];exact c' },n',e2',t'.mv mv0⟩
    | hd=>exact h
    | o2 dss=>obtain⟨a',as',e1',c',e2',nd',t'⟩:=h;exact⟨a',as',e1',⟨by rw[cn a' (λq=>by rw[q] at c';lia)];exact c'.1,c'.2⟩,e2',nd',t'.mv mv0 λb o g e=>⟨⟨by rw[cn b (λq=>by have:=g.1;rw[q] at this;lia)];exact g.1,g.2⟩,e⟩⟩
    | b2 dss=>obtain⟨a',as',e1',c',e2',t'⟩:=h;exact⟨a',as',e1',⟨by by_cases q:a'=a;{ rw[q,ca];lia };{ rw[cn a' q];exact c'.1 },c'.2⟩,e2',t'.mv mv0 λb o g e=>⟨⟨by by_cases q:b=a;{ rw[q,ca];lia };{ rw[cn b q];exact g.1 },g.2⟩,e⟩⟩
    | di f ks=>obtain⟨a',e1',c',n',e2'⟩:=h;exact⟨a',e1',by rw[cn a' (λq=>by rw[q] at c';lia)];exact c',n',e2'⟩
    | dm f ks=>obtain⟨a',e1',c',n',e2'⟩:=h;exact⟨a',e1',by rw[cn a' (λq=>by rw[q] at c';lia)];exact c',n',e2'⟩
    | bd d=>exact h
    | ot d=>obtain⟨v,e1',t'⟩:=h;exact⟨v,e1',t'.mv λb o g e=>⟨g.imp (λg=>⟨by rw[cn b (λq=>by rw[q] at g;have:=g.1;lia)];exact g.1,g.2⟩) λg=>⟨z b g.1,g.2⟩,e⟩⟩
    | ob R=>obtain⟨v,e1',t'⟩:=h;exact⟨v,e1',R.mv (λb o g e=>⟨g.imp (λg=>⟨by rw[cn b (λq=>by rw[q] at g;have:=g.1;lia)];exact g.1,g.2⟩) λg=>⟨z b g.1,g.2⟩,e⟩) t'⟩
 exact⟨a,e1,col',R.push T⟩
theorem F6.store {i:Nat} (r:F6 C col ρ σ P H) (t:ThV (Z col) H v d):F6 C col (ρ.set i (.sh d)) (σ.set i (some v)) P H:=by
 refine { r with sl:=λj s es=>?_,len:=by rw[X2,X2];exact r.len }
 by_cases hj:j=i
 ·subst hj
  rw[A50] at es
  simp only[if_true] at es
  split at es
  ·rename_i hl
   cases es
   refine⟨v,?_,t⟩
   rw[A50,if_pos rfl,if_pos (by rw[<-r.len];exact hl)];rfl
  ·cases es
 ·rw[p7 (Ne.symm hj)] at es
  rw[p7 (Ne.symm hj)]
  exact r.sl j s es
theorem F6.own {i:Nat} {vs:List V} {ds:List PyData} (r:F6 C col ρ σ P H) (t:B0 (Z col) H vs ds) (hp:H p=none):Rel C (ρ.set i (.ow ds)) (σ.set i (some (.ref p))) P (upd H p (.lst vs)):=by
 let col':Addr->Nat:=λb=>if b=p then 2 * i + 3 else col b
 have ca:col' p=2 * i + 3:=if_pos rfl
 have cn:∀b,b≠p->col' b=col b:=λb hb=>if_neg hb
 have ne:∀b,H b≠none->b≠p:=λb hb q=>hb (q▸hp)
 have mv0:∀b o,Z col b->H b=some o->Z col' b/\upd H p (.lst vs) b=some o:=λb o zz e=>by
  have q:=ne b (by rw[e];exact λq=>nomatch q)
  exact⟨(cn b q).trans zz,by rw[B1 q];exact e⟩
 have r1:=r.lay (o:=.lst vs) hp
 have c0:C.H0 p=none:=r.kq.fr r.hq hp
 refine⟨col',λb hb=>?_,λb hb=>?_,λq hq=>?_,λj s es=>?_,λx hx=>?_,r1.kq,r1.hq,r.hq0,r.nf,by rw[X2,X2];exact r.len⟩
 ·have q:b≠p:=λq=>by rw[q,B2] at hb;cases hb
  rw[cn b q];exact r1.fresh b hb
 ·have q:b≠p:=λq=>by rw[q,ca] at hb;cases hb
  rw[cn b q] at hb;exact r.inF b hb
 ·obtain⟨o',e'⟩:=(r.hq q hq).at1
  rw[cn _ (ne _ (by rw[e'];exact λq=>nomatch q))];exact r.hnd q hq
 ·by_cases hj:j=i
  ·subst hj
   rw[A50] at es
   simp only[if_true] at es
   split at es
   ·rename_i hl
    cases es
    exact⟨p,vs,by rw[A50,if_pos rfl,if_pos (by rw[<-r.len];exact hl)];rfl,ca,c0,B2,t.mv mv0⟩
   ·cases es
  ·rw[p7 (Ne.symm hj)] at es
   rw[p7 (Ne.symm hj)]
   have h:=r.sl j s es
   cases s with
   | no=>trivial
   | sh d=>obtain⟨v,e1,t⟩:=h;exact⟨v,e1,t.mv mv0⟩
   | ow ds=>
    obtain⟨a',vs',e1',c',n',e2',t'⟩:=h
    have q:=ne a' (by rw[e2'];exact λq=>nomatch q)
    exact⟨a',vs',e1',by rw[cn a' q];exact c',n',by rw[B1 q];exact e2',t'.mv mv0⟩
   | bo ds=>
    obtain⟨a',vs',e1',c',n',e2',t'⟩:=h
    have q:=ne a' (by rw[e2'];exact λq=>nomatch q)
    exact⟨a',vs',e1',by rw[cn a' q];exact c',n',by rw[B1 q];exact e2',t'.mv mv0⟩
   | hd=>exact h
   | o2 dss=>
    obtain⟨a',as',e1',c',e2',nd',t'⟩:=h
    have q:=ne a' (by rw[e2'];exact λq=>nomatch q)
    exact⟨a',as',e1',⟨by rw[cn a' q];exact c'.1,c'.2⟩,by rw[B1 q];exact e2',nd',t'.mv mv0 λb o g e=>by
     have q:=ne b (by rw[e];exact λq=>nomatch q)
     exact⟨⟨by rw[cn b q];exact g.1,g.2⟩,by rw[B1 q];exact e⟩⟩
   | b2 dss=>
    obtain⟨a',as',e1',c',e2',t'⟩:=h
    have q:=ne a' (by rw[e2'];exact λq=>nomatch q)
    exact⟨a',as',e1',⟨by rw[cn a' q];exact c'.1,c'.2⟩,by rw[B1 q];exact e2',t'.mv mv0 λb o g e=>by
     have q:=ne b (by rw[e];exact λq=>nomatch q)
     exact⟨⟨by rw[cn b q];exact g.1,g.2⟩,by rw[B1 q];exact e⟩⟩
   | di f ks=>
    obtain⟨a',e1',c',n',e2'⟩:=h
    have q:=ne a' e2'.ne
    exact⟨a',e1',by rw[cn a' q];exact c',n',e2'.mv λo e=>by rw[B1 q];exact e⟩
   | dm f ks=>
    obtain⟨a',e1',c',n',e2'⟩:=h
    have q:=ne a' e2'.ne
    exact⟨a',e1',by rw[cn a' q];exact c',n',e2'.mv λo e=>by rw[B1 q];exact e⟩
   | bd d=>exact h
   | ot d=>
    obtain⟨v,e1',t'⟩:=h
    exact⟨v,e1',t'.mv λb o g e=>by
     have q:=ne b (by rw[e];exact λq=>nomatch q)
     exact⟨g.imp (λg=>⟨by rw[cn b q];exact g.1,g.2⟩) λg=>⟨by rw[cn b q];exact g.1,by rw[B1 q];exact g.2⟩,by rw[B1 q];exact e⟩⟩
   | ob R=>
    obtain⟨v,e1',t'⟩:=h
    exact⟨v,e1',R.mv (λb o g e=>by
     have q:=ne b (by rw[e];exact λq=>nomatch q)
     exact⟨g.imp (λg=>⟨by rw[cn b q];exact g.1,g.2⟩) λg=>⟨by rw[cn b q];exact g.1,by rw[B1 q];exact g.2⟩,by rw[B1 q];exact e⟩) t'⟩
 ·have h:=r.pd x hx
  cases x with
  | v v d=>exact ThV.mv mv0 h
  | n a o=>
   have q:=ne a (by rw[h.2.2];exact λq=>nomatch q)
   exact⟨by rw[cn a q];exact h.1,h.2.1,by rw[B1 q];exact h.2.2⟩
  | s vs ds=>exact B0.mv mv0 h
  | o c as dss=>exact⟨h.1,h.2.mv mv0 λb o g e=>by
    have q:=ne b (by rw[e];exact λq=>nomatch q)
    exact⟨⟨by rw[cn b q];exact g.1,g.2⟩,by rw[B1 q];exact e⟩⟩
  | w v d=>exact h
theorem F6.write {i:Nat} {a:Addr} {ws:List V} {ds es:List PyData} (r:F6 C col ρ σ P H) (e:ρ[i]?=some (.ow ds)) (ea:(σ[i]?).join=some (.ref a)) (t:B0 (Z col) H ws es) :
  F6 C col (ρ.set i (.ow es)) σ P (upd H a (.lst ws)):=by
 obtain⟨a',vs',e1,c,n,e2,_⟩:=r.sl i _ e
 rw[e1] at ea
 cases ea
 have ne:∀b,col b≠2 * i + 3->b≠a:=λb hb q=>hb (q▸c)
 have mv0:∀b o,Z col b->H b=some o->Z col b/\upd H a (.lst ws) b=some o:=λb o zz e=>⟨zz,by rw[B1 (ne b (by rw[show col b=0 from zz];lia))];exact e⟩
 refine⟨λb hb=>?_,r.inF,r.hnd,λj s es'=>?_,λx hx=>?_,λb o e q=>?_,λq hq=>?_,r.hq0,r.nf,by rw[X2];exact r.len⟩
 ·by_cases q:b=a
  ·rw[q,B2] at hb;cases hb
  ·rw[B1 q] at hb;exact r.fresh b hb
 ·by_cases hj:j=i
  ·subst hj
   rw[A50] at es'
   simp only[if_true] at es'
   split at es'
   ·cases es'
    exact⟨a,ws,e1,c,n,B2,t.mv mv0⟩
   ·cases es'
  ·rw[p7 (Ne.symm hj)] at es'
   have h:=r.sl j s es'
   cases s with
   | no=>trivial
   | sh d=>obtain⟨v,e1,t⟩:=h;exact⟨v,e1,t.mv mv0⟩
   | ow ds=>
    obtain⟨a',vs',e1',c',n',e2',t'⟩:=h
    exact⟨a',vs',e1',c',n',by rw[B1 (ne a' (by lia))];exact e2',t'.mv mv0⟩
   | bo ds=>
    obtain⟨a',vs',e1',c',n',e2',t'⟩:=h
    exact⟨a',vs',e1',c',n',by rw[B1 (ne a' (by lia))];exact e2',t'.mv mv0⟩
   | hd=>exact h
   | o2 dss=>
    obtain⟨a',as',e1',c',e2',nd',t'⟩:=h
    exact⟨a',as',e1',c',by rw[B1 (ne a' (by lia))];exact e2',nd',t'.mv mv0 λb o g e=>⟨g,by rw[B1 (ne b (by have:=g.1;lia))];exact e⟩⟩
   | b2 dss=>
    obtain⟨a',as',e1',c',e2',t'⟩:=h
    exact⟨a',as',e1',c',by rw[B1 (ne a' (by have:=c'.1;lia))];exact e2',t'.mv mv0 λb o g e=>⟨g,by rw[B1 (ne b (by have:=g.1;lia))];exact e⟩⟩
   | di f ks=>
    obtain⟨a',e1',c',n',e2'⟩:=h
    exact⟨a',e1',c',n',e2'.mv λo e=>by rw[B1 (ne a' (by lia))];exact e⟩
   | dm f ks=>
    obtain⟨a',e1',c',n',e2'⟩:=h
    exact⟨a',e1',c',n',e2'.mv λo e=>by rw[B1 (ne a' (by lia))];exact e⟩
   | bd d=>exact h
   | ot d=>
    obtain⟨v,e1',t'⟩:=h
    exact⟨v,e1',t'.mv λb o g e=>by
     have q:=ne b (by rcases g with g | g <;> (have:=g.1;lia))
     exact⟨g.imp id λg=>⟨g.1,by rw[B1 q];exact g.2⟩,by rw[B1 q];exact e⟩⟩
   | ob R=>
    obtain⟨v,e1',t'⟩:=h
    exact⟨v,e1',R.mv (λb o g e=>by
     have q:=ne b (by rcases g with g | g <;> (have:=g.1;lia))
     exact⟨g.imp id λg=>⟨g.1,by rw[B1 q];exact g.2⟩,by rw[B1 q];exact e⟩) t'⟩
 ·have h:=r.pd x hx
  cases x with
  | v v d=>exact ThV.mv mv0 h
  | n b o=>exact⟨h.1,h.2.1,by rw[B1 (ne b (by have:=h.1;lia))];exact h.2.2⟩
  | s vs ds=>exact B0.mv mv0 h
  | o c as dss=>exact⟨h.1,h.2.mv mv0 λb o g e=>⟨g,by rw[B1 (ne b (by have:=g.1;lia))];exact e⟩⟩
  | w v d=>exact h
 ·have z:=r.kq b o e q
  have q':b≠a:=λq'=>by rw[q',n] at e;cases e
  rw[B1 q'];exact z
 ·obtain⟨o1,h1⟩:=(r.hq0 q hq).at1
  obtain⟨o2,h2⟩:=(r.hq0 q hq).at2
  exact (r.hq q hq).wr (λz=>by rw[<-z,n] at h1;cases h1) (λz=>by rw[<-z,n] at h2;cases h2)
end
open Classical in
theorem F6.norm {C:DC} {col:Addr->Nat} {ρ:List Sl} {σ:St} {P:List Pe} {H:Hp} (r:F6 C col ρ σ P H):∃col',F6 C col' ρ σ P H/\∀b xs,H b=some (.tup xs)->col' b=0:=by
 let col':Addr->Nat:=λb=>if ∃xs,H b=some (.tup xs) then 0 else col b
 have ct:∀b xs,H b=some (.tup xs)->col' b=0:=λb xs e=>if_pos ⟨xs,e⟩
 have cn:∀b,(∀xs,H b≠some (.tup xs))->col' b=col b:=λb h=>if_neg λ⟨xs,e⟩=>h xs e
 have hl:∀b ys,H b=some (.lst ys)->col' b=col b:=λb ys e=>cn b λxs z=>by rw[e] at z;cases z
 have hd:∀q,C.hand=some q->∀xs,H q.1≠some (.tup xs):=λq hq xs z=>by
  obtain⟨_,_,_,_,_,_,_,_,e⟩:=r.hq q hq
  rw[e] at z;cases z
 have z0:∀b,col b=0->col' b=0:=λb hb=>by
  by_cases h:∃xs,H b=some (.tup xs)
  ·exact if_pos h
  ·exact (if_neg h).trans hb
 have lo:∀b,col b<=1->col' b<=1:=λb hb=>by
  by_cases h:∃xs,H b=some (.tup xs)
  ·rw[show col' b=0 from if_pos h];lia
  ·rw[show col' b=col b from if_neg h];exact hb
 have mv0:∀b o,Z col b->H b=some o->Z col' b/\H b=some o:=λb o zz e=>⟨z0 b zz,e⟩
 refine⟨col',⟨λb e=>z0 b (r.fresh b e),λb hb=>?_,λq hq=>(cn _ (hd q hq)).trans (r.hnd q hq),λi s e=>?_,λp hp=>?_,r.kq,r.hq,r.hq0,r.nf,r.len⟩,ct⟩
 ·by_cases h:∃xs,H b=some (.tup xs)
  ·obtain⟨xs,h⟩:=h
   cases q:C.H0 b with
   | none=>exact r.nf.1 b q
   | some o=>
    have:=r.kq b o q λp hp e=>hd p hp xs (e▸h)
    rw[this] at h
    cases h
    exact r.nf.2 b xs q
  ·rw[show col' b=col b from if_neg h] at hb;exact r.inF b hb
 ·have h:=r.sl i s e
  cases s with
  | no=>trivial
  | sh d=>obtain⟨v,e1,t⟩:=h;exact⟨v,e1,t.mv mv0⟩
  | ow ds=>obtain⟨a,vs,e1,c,n,e2,t⟩:=h;exact⟨a,vs,e1,(hl a _ e2).trans c,n,e2,t.mv mv0⟩
  | bo ds=>obtain⟨a,vs,e1,c,n,e2,t⟩:=h;exact⟨a,vs,e1,lo a c,n,e2,t.mv mv0⟩
  | hd=>exact h
  | o2 dss=>obtain⟨a,as,e1,c,e2,nd,t⟩:=h;exact⟨a,as,e1,⟨(hl a _ e2).trans c.1,c.2⟩,e2,nd,t.mvl mv0 λb ys g e=>⟨⟨(hl b _ e).trans g.1,g.2⟩,e⟩⟩
  | b2 dss=>obtain⟨a,as,e1,c,e2,t⟩:=h;exact⟨a,as,e1,⟨lo a c.1,c.2⟩,e2,t.mvl mv0 λb ys g e=>⟨⟨lo b g.1,g.2⟩,e⟩⟩
  | di f ks=>
   obtain⟨a,e1,c,n,e2⟩:=h
   refine⟨a,e1,(cn a λxs z=>?_).trans c,n,e2⟩
   cases f with
   | false=>rw[show H a=_ from e2] at z;cases z
   | true=>obtain⟨o,e2⟩:=e2;rw[e2] at z;cases z
  | dm f ks=>
   obtain⟨a,e1,c,n,e2⟩:=h
   refine⟨a,e1,(cn a λxs z=>?_).trans c,n,e2⟩
   cases f with
   | false=>rw[show H a=_ from e2] at z;cases z
   | true=>obtain⟨o,e2⟩:=e2;rw[e2] at z;cases z
  | bd d=>exact h
  | ot d=>
   obtain⟨v,e1,t⟩:=h
   refine⟨v,e1,t.mv λb o g e=>⟨?_,e⟩⟩
   by_cases q:∃xs,H b=some (.tup xs)
   ·obtain⟨xs,q⟩:=q
    exact .inr ⟨ct b xs q,xs,q⟩
   ·rcases g with g | g
    ·exact .inl ⟨(if_neg q).trans g.1,g.2⟩
    ·exact absurd g.2 q
  | ob R=>
   obtain⟨v,e1,t⟩:=h
   refine⟨v,e1,R.mv (λb o g e=>⟨?_,e⟩) t⟩
   by_cases q:∃xs,H b=some (.tup xs)
   ·obtain⟨xs,q⟩:=q
    exact .inr ⟨ct b xs q,xs,q⟩
   ·rcases g with g | g
    ·exact .inl ⟨(if_neg q).trans g.1,g.2⟩
    ·exact absurd g.2 q
 ·have h:=r.pd p hp
  cases p with
  | v v d=>exact ThV.mv mv0 h
  | n a o=>exact⟨lo a h.1,h.2⟩
  | s vs ds=>exact B0.mv mv0 h
  | o c as dss=>exact⟨h.1,h.2.mvl mv0 λb ys g e=>⟨⟨(hl b _ e).trans g.1,g.2⟩,e⟩⟩
  | w v d=>exact h
inductive Pds (P:List Pe):List V->List PyData->Prop
 | nil:Pds P [] []
 | cons {v d vs ds}:Pe.v v d∈P->Pds P vs ds->Pds P (v::vs) (d::ds)
theorem Pds.th {C:DC} {col:Addr->Nat} {ρ:List Sl} {σ:St} {P:List Pe} {H:Hp} (r:F6 C col ρ σ P H):∀{vs:List V} {ds:List PyData},Pds P vs ds->B0 (Z col) H vs ds
 | _,_,.nil=>.nil
 | _,_,.cons h t=>.cons (r.pd _ h) (Pds.th r t)
abbrev DE:=List Sl->(PyData->List Sl->Prop)->Prop
abbrev DT:=List Sl->(Bool->List Sl->Prop)->Prop
abbrev DF:=List Sl->(List PyData->List Sl->Prop)->Prop
def eOf (C:DC) (t:DE):TE:=fun σ H Q=>∃ρ P Qd,Rel C ρ σ P H/\t ρ Qd/\∀v d ρ' H',Rel C ρ' σ (.v v d::P) H'->Qd d ρ'->Q v H'
def cOf (C:DC) (t:DT):TT:=fun σ H Q=>∃ρ P Qd,Rel C ρ σ P H/\t ρ Qd/\∀b ρ' H',Rel C ρ' σ P H'->Qd b ρ'->Q b H'
def fOf (C:DC) (t:DF):TE:=fun σ H Q=>∃ρ P Qd,Rel C ρ σ P H/\t ρ Qd/\∀p vs ds ρ' H1,(∃col,F6 C col ρ' σ P H1/\B0 (Z col) H1 vs ds)->H1 p=none->Qd ds ρ'->Q (.ref p) (upd H1 p (.lst vs))
def vOf (C:DC) (t:DF):TA:=fun σ H Q=>∃ρ P Qd,Rel C ρ σ P H/\t ρ Qd/\∀vs ds ρ' P' H',Rel C ρ' σ P' H'->(∀p∈P,p∈P')->Pds P' vs ds->Qd ds ρ'->Q vs H'
def bnd {α:Type} (o:Option α) (Q:α->Prop):Prop:=match o with
 | some a=>Q a
 | none=>False
theorem N3 {α:Type} {o:Option α} {Q:α->Prop} (h:bnd o Q):∃a,o=some a/\Q a:=by
 cases o with
 | none=>exact h.elim
 | some a=>exact⟨a,rfl,h⟩
section
variable {X:Cx} {C:DC}
theorem PE.wk {e:Expr} {t t':TE} (h:PE X e t) (f:∀σ H Q,t' σ H Q->t σ H Q):PE X e t':=λpins s σ H Q I q=>h pins s σ H Q I (f σ H Q q)
theorem PT.wk {e:Expr} {t t':TT} (h:PT X e t) (f:∀σ H Q,t' σ H Q->t σ H Q):PT X e t':=λpins s σ H Q I q=>h pins s σ H Q I (f σ H Q q)
theorem PW.wk {e:Expr} {t t':TT} (h:PW X e t) (f:∀σ H Q,t' σ H Q->t σ H Q):PW X e t':=λwh pins s σ H Q I q=>h wh pins s σ H Q I (f σ H Q q)
theorem PA.wk {es:List Expr} {t t':TA} (h:PA X es t) (f:∀σ H Q,t' σ H Q->t σ H Q):PA X es t':=λpos pins s σ H Q I q=>h pos pins s σ H Q I (f σ H Q q)
theorem PO.wk {e:Option Expr} {t t':TO} (h:PO X e t) (f:∀σ H Q,t' σ H Q->t σ H Q):PO X e t':=λpins s σ H Q I q=>h pins s σ H Q I (f σ H Q q)
def dC (d:PyData)  (ρ:List Sl) (Q:PyData->List Sl->Prop):Prop:=Q d ρ
theorem A8g {e:Expr} {v:V} {d:PyData} (h:PE X e (tC v)) (t:∀F H,ThV F H v d):PE X e (eOf C (dC d)):=PE.wk h λ_ _ _ zz1=>el3 zz1 λ_ _ _ zz2 ht k=>zz2.elim λcol r=>k _ _ _ _ ⟨col,r.push (t _ _)⟩ ht
theorem B3 {i j pos}:PE X (.Constant (.int i) j pos) (eOf C (dC (.int i))):=A8g C3 λ_ _=>.int i
theorem A2y {b j pos}:PE X (.Constant (.bool b) j pos) (eOf C (dC (.bool b))):=A8g A04 λ_ _=>.bl b
theorem N2 {j pos}:PE X (.Constant .none j pos) (eOf C (dC .none)):=A8g A9w λ_ _=>.non
theorem K7 {x j pos}:PE X (.Constant (.str x) j pos) (eOf C (dC (.str x))):=A8g O4 λ_ _=>.str x
theorem E8 {e:Expr} {i:Int} (h:PE X e (tC (.int i))):PE X e (eOf C (dC (.int i))):=A8g h λ_ _=>.int i
theorem N9 {α:Type} {o:Option (Option α)} {v:α} (h:o.join=some v):o=some (some v):=by
 cases o with
 | none=>cases h
 | some q=>exact congrArg some h
def A2z (i:Nat)  (ρ:List Sl) (Q:PyData->List Sl->Prop):Prop:=match ρ[i]? with
 | some (.sh d)=>Q d ρ
 | some (.ow ds)=>Q (.list ds) (ρ.set i (.sh (.list ds)))
 | _=>False
theorem A3 {e:Expr} {i:Nat} (h:PE X e (G0 i)):PE X e (eOf C (A2z i)):=PE.wk h fun σ H Q zz3=>el3 zz3 fun ρ P Qd zz4 ht k=>zz4.elim λcol r=>by
 unfold A2z at ht
 split at ht
 ·rename_i d e
  obtain⟨v,e1,t⟩:=r.sl i _ e
  exact⟨v,N9 e1,k _ _ _ _ ⟨col,r.push t⟩ ht⟩
 ·rename_i ds e
  obtain⟨a,e1,R⟩:=r.freeze e
  exact⟨_,N9 e1,k _ _ _ _ R ht⟩
 ·exact ht.elim
def T8 (ρ:List Sl) (i:Nat):Option PyData:=match ρ[i]? with
 | some (.sh d)=>some d
 | some (.ow ds)=>some (.list ds)
 | some (.bo ds)=>some (.list ds)
 | _=>none
inductive Red (col:Addr->Nat) (H:Hp):V->PyData->Prop
 | th {v d}:ThV (Z col) H v d->Red col H v d
 | ls {a vs ds}:H a=some (.lst vs)->B0 (Z col) H vs ds->Red col H (.ref a) (.list ds)
theorem F6.slot {col:Addr->Nat} {ρ:List Sl} {σ:St} {P:List Pe} {H:Hp} (r:F6 C col ρ σ P H) {i:Nat} {d:PyData} (h:T8 ρ i=some d):∃v,σ[i]?=some (some v)/\Red col H v d:=by
 unfold T8 at h
 split at h
 ·rename_i d' e
  cases h
  obtain⟨v,e1,t⟩:=r.sl i _ e
  exact⟨v,N9 e1,.th t⟩
 ·rename_i ds e
  cases h
  obtain⟨a,vs,e1,_,_,e2,t⟩:=r.sl i _ e
  exact⟨_,N9 e1,.ls e2 t⟩
 ·rename_i ds e
  cases h
  obtain⟨a,vs,e1,_,_,e2,t⟩:=r.sl i _ e
  exact⟨_,N9 e1,.ls e2 t⟩
 ·cases h
theorem Red.lst {col:Addr->Nat} {H:Hp} {v:V} {ds:List PyData} (h:Red col H v (.list ds)):∃a vs,v=.ref a/\H a=some (.lst vs)/\B0 (Z col) H vs ds:=by
 cases h with
 | th t=>cases t with
  | lst _ e t=>exact⟨_,_,rfl,e,t⟩
 | ls e t=>exact⟨_,_,rfl,e,t⟩
theorem Red.tup {col:Addr->Nat} {H:Hp} {v:V} {ds:List PyData} (h:Red col H v (.tuple ds)):∃a vs,v=.ref a/\H a=some (.tup vs)/\B0 (Z col) H vs ds:=by
 cases h with
 | th t=>cases t with
  | tup _ e t=>exact⟨_,_,rfl,e,t⟩
abbrev G2:=PyData->PyData->(PyData->Prop)->Prop
def W1 (C:DC) (r:R2) (g:G2):Prop:=
 ∀{ρ:List Sl} {σ:St} {P:List Pe} {H:Hp} {v w:V} {a b:PyData} {Qd:PyData->Prop} {Q:VK},Rel C ρ σ (.v w b::.v v a::P) H->g a b Qd->(∀u d H',Rel C ρ σ (.v u d::P) H'->Qd d->Q u H')->r v w H Q
def dOp (g:G2) (ta tb:DE)  (ρ:List Sl) (Q:PyData->List Sl->Prop):Prop:=ta ρ λa ρ1=>tb ρ1 λb ρ2=>g a b λd=>Q d ρ2
theorem B3e {r:R2} {g:G2} {ta tb:DE} (hg:W1 C r g) {σ:St} {H:Hp} {Q:VK} (h:eOf C (dOp g ta tb) σ H Q):tOp r (eOf C ta) (eOf C tb) σ H Q:=by
 obtain⟨ρ,P,Qd,R,ht,k⟩:=h
 exact⟨ρ,P,_,R,ht,λv a ρ1 H1 R1 h1=>⟨ρ1,_,_,R1,h1,λw b ρ2 H2 R2 h2=>hg R2 h2 λu d H' R' q=>k u d ρ2 H' R' q⟩⟩
variable {a b:Expr} {ta tb:DE} {pos:Pos}
theorem L5 {op:Operator} {r:R2} {g:G2} (ho:OpR X (binaryOp op) r) (hg:W1 C r g) (ha:PE X a (eOf C ta)) (hb:PE X b (eOf C tb)):PE X (.BinOp a op b pos) (eOf C (dOp g ta tb)):=PE.wk (K6 ho ha hb) λ_ _ _ h=>B3e hg h
theorem A0v {op:CmpOp} {r:R2} {g:G2} (ho:OpR X (compareOp op) r) (hg:W1 C r g) (ha:PE X a (eOf C ta)) (hb:PE X b (eOf C tb)) (hm:behindInMarks op b=false):PE X (.Compare a [op] [b] pos) (eOf C (dOp g ta tb)):=PE.wk (A3u ho ha hb hm) λ_ _ _ h=>B3e hg h
def dT (t:DE)  (ρ:List Sl) (Q:Bool->List Sl->Prop):Prop:=t ρ λd ρ'=>match d with
 | .bool b=>Q b ρ'
 | _=>False
theorem B3f {t:DE} {σ:St} {H:Hp} {Q:Bool->Hp->Prop} (h:cOf C (dT t) σ H Q):eOf C t σ H λx H'=>∃k,x=.bl k/\Q k H':=by
 obtain⟨ρ,P,Qd,R,ht,k⟩:=h
 refine⟨ρ,P,_,R,ht,λv d ρ' H' R' q=>?_⟩
 split at q
 ·obtain⟨col,r⟩:=R'
  have t:=r.pd _ D4
  cases (show ThV (Z col) H' v (.bool _) from t)
  exact⟨_,rfl,k _ _ _ (Rel.pop ⟨col,r⟩) q⟩
 ·exact q.elim
theorem A30 {e:Expr} {t:DE} (h:PE X e (eOf C t)) (he:∀whole,isTrue e X.env whole=(do let v <-whole;standAt e.pos;holding [v] (truthy v)):=by intro _;rfl):PT X e (cOf C (dT t)):=PT.wk (P3 h he) λ_ _ _ h=>B3f h
theorem O0 {op:CmpOp} {r:R2} {g:G2} (ho:OpR X (compareOp op) r) (hg:W1 C r g) (ha:PE X a (eOf C ta)) (hb:PE X b (eOf C tb)) (hm:behindInMarks op b=false):PT X (.Compare a [op] [b] pos) (cOf C (dT (dOp g ta tb))):=
 PT.wk (T7 ho ha hb hm) fun σ H Q h=>B3e hg (B3f h)
def A31 (t:DT)  (ρ:List Sl) (Q:Bool->List Sl->Prop):Prop:=t ρ λb ρ'=>Q (!b) ρ'
theorem B0g {t:DT} (h:PT X a (cOf C t)):PT X (.UnaryOp .Not a pos) (cOf C (A31 t)):=PT.wk (Q8 h) λ_ _ _ zz5=>el3 zz5 fun ρ P _ R ht k=>⟨ρ,P,_,R,ht,λb ρ' H' R' q=>k _ _ _ R' q⟩
def A32 (t u:DT)  (ρ:List Sl) (Q:Bool->List Sl->Prop):Prop:=t ρ λb ρ'=>if b=true then u ρ' Q else Q false ρ'
def dOr (t u:DT)  (ρ:List Sl) (Q:Bool->List Sl->Prop):Prop:=t ρ λb ρ'=>if b=true then Q true ρ' else u ρ' Q
variable {t u:DT} {L9:List Expr}
theorem B86 (h:PT X a (cOf C t)):PW X (.BoolOp .And [a] pos) (cOf C t):=B2m h
theorem A6h (h:PT X a (cOf C t)):PW X (.BoolOp .Or [a] pos) (cOf C t):=A2q h
theorem B87 (ha:PT X a (cOf C t)) (hb:PW X (.BoolOp .And (b::L9) pos) (cOf C u)):PW X (.BoolOp .And (a::b::L9) pos) (cOf C (A32 t u)):=PW.wk (B2n ha hb) λ_ _ _ zz6=>el3 zz6 fun ρ P Qd R ht k=>
 ⟨ρ,P,_,R,ht,λb ρ' H' R' q=>by
  cases b with
  | true=>exact⟨ρ',P,Qd,R',by simpa using q,k⟩
  | false=>exact k _ _ _ R' (by simpa using q)⟩
theorem A33 (ha:PT X a (cOf C t)) (hb:PW X (.BoolOp .Or (b::L9) pos) (cOf C u)):PW X (.BoolOp .Or (a::b::L9) pos) (cOf C (dOr t u)):=PW.wk (A2r ha hb) λ_ _ _ zz7=>el3 zz7 fun ρ P Qd R ht k=>
 ⟨ρ,P,_,R,ht,λb ρ' H' R' q=>by
  cases b with
  | true=>exact k _ _ _ R' (by simpa using q)
  | false=>exact⟨ρ',P,Qd,R',by simpa using q,k⟩⟩
def dBV (t:DE) (f:Bool->List Sl->Prop)  (ρ:List Sl):Prop:=t ρ λd ρ'=>match d with
 | .bool b=>f b ρ'
 | _=>False
def A34 (ta tb:DE)  (ρ:List Sl) (Q:PyData->List Sl->Prop):Prop:=dBV ta (λb ρ'=>if b=true then tb ρ' Q else Q (.bool false) ρ') ρ
def A35 (ta tb:DE)  (ρ:List Sl) (Q:PyData->List Sl->Prop):Prop:=dBV ta (λb ρ'=>if b=true then Q (.bool true) ρ' else tb ρ' Q) ρ
def A36 (ta:DE)  (ρ:List Sl) (Q:PyData->List Sl->Prop):Prop:=dBV ta (λb ρ'=>Q (.bool (!b)) ρ') ρ
theorem B3g {f:Bool->List Sl->Prop} {ρ:List Sl} {σ:St} {P:List Pe} {H:Hp} {Q:VK} (R:Rel C ρ σ P H) (ht:dBV ta f ρ) (k:∀c ρ' H',Rel C ρ' σ P H'->f c ρ'->Q (.bl c) H'):eOf C ta σ H Q:=by
 refine⟨ρ,P,_,R,ht,λv d ρ' H' R' q=>?_⟩
 split at q
 ·obtain⟨col,r⟩:=R'
  have t:=r.pd _ D4
  cases (show ThV (Z col) H' v (.bool _) from t)
  exact k _ _ _ (Rel.pop ⟨col,r⟩) q
 ·exact q.elim
theorem i7 {op} (h:PE X a (eOf C ta)):PE X (.BoolOp op [a] pos) (eOf C ta):=B7c h
theorem A0w (ha:PE X a (eOf C ta)) (hb:PE X (.BoolOp .And (b::L9) pos) (eOf C tb)):PE X (.BoolOp .And (a::b::L9) pos) (eOf C (A34 ta tb)):=PE.wk (B7d ha hb) λ_ _ _ zz8=>el3 zz8 λ_ P Qd R ht k=>
 B3g R ht λc ρ' H' R' q=>⟨c,rfl,by
  cases c with
  | true=>exact J0 ⟨ρ',P,Qd,R',by simpa using q,k⟩
  | false=>
   obtain⟨col,r⟩:=R'
   exact E2 (k _ _ _ _ ⟨col,r.push (.bl false)⟩ (by simpa using q))⟩
theorem B0h (ha:PE X a (eOf C ta)) (hb:PE X (.BoolOp .Or (b::L9) pos) (eOf C tb)):PE X (.BoolOp .Or (a::b::L9) pos) (eOf C (A35 ta tb)):=PE.wk (C4n ha hb) λ_ _ _ zz9=>el3 zz9 λ_ P Qd R ht k=>
 B3g R ht λc ρ' H' R' q=>⟨c,rfl,by
  cases c with
  | true=>
   obtain⟨col,r⟩:=R'
   exact J0 (k _ _ _ _ ⟨col,r.push (.bl true)⟩ (by simpa using q))
  | false=>exact E2 ⟨ρ',P,Qd,R',by simpa using q,k⟩⟩
theorem C64 (ha:PE X a (eOf C ta)):PE X (.UnaryOp .Not a pos) (eOf C (A36 ta)):=PE.wk (C4o ha) λ_ _ _ zz10=>el3 zz10 λ_ _ _ R ht k=>
 B3g R ht λc ρ' H' zz11 q=>zz11.elim λcol r=>⟨c,rfl,k _ _ _ _ ⟨col,r.push (.bl _)⟩ q⟩
def A37 (ta:DE)  (ρ:List Sl) (Q:PyData->List Sl->Prop):Prop:=ta ρ λd ρ'=>match d with
 | .int i=>Q (.int (-i)) ρ'
 | _=>False
theorem Z4 (ha:PE X a (eOf C ta)):PE X (.UnaryOp .USub a pos) (eOf C (A37 ta)):=PE.wk (B7n B7p ha) λ_ _ _ zz12=>el3 zz12 fun ρ P _ R ht k=>⟨ρ,P,_,R,ht,λv d ρ' H' R' q=>by
 split at q
 ·obtain⟨col,r⟩:=R'
  have t:=r.pd _ D4
  cases (show ThV (Z col) H' v (.int _) from t)
  exact⟨_,rfl,k _ _ _ _ ⟨col,(r.sub λ_ h=>C8 _ h).push (.int _)⟩ q⟩
 ·exact q.elim⟩
def dIf (c:DT) (ta tb:DE)  (ρ:List Sl) (Q:PyData->List Sl->Prop):Prop:=c ρ λb ρ'=>if b=true then ta ρ' Q else tb ρ' Q
theorem C65 {c:Expr} (hc:PT X c (cOf C t)) (ha:PE X a (eOf C ta)) (hb:PE X b (eOf C tb)):PE X (.IfExp c a b pos) (eOf C (dIf t ta tb)):=PE.wk (B7e hc ha hb) λ_ _ _ zz13=>el3 zz13 fun ρ P Qd R ht k=>
 ⟨ρ,P,_,R,ht,λb ρ' H' R' q=>by
  cases b with
  | true=>exact J0 ⟨ρ',P,Qd,R',by simpa using q,k⟩
  | false=>exact E2 ⟨ρ',P,Qd,R',by simpa using q,k⟩⟩
def A12 (g g':G2) (ta tb tc:DE)  (ρ:List Sl) (Q:PyData->List Sl->Prop):Prop:=ta ρ λa ρ1=>tb ρ1 λb ρ2=>g a b λz=>match z with
 | .bool k=>if k=true then tc ρ2 λc ρ3=>g' b c λd=>Q d ρ3 else Q (.bool false) ρ2
 | _=>False
end
def gI (c:Int->Int->Prop) (f:Int->Int->PyData)  (a b:PyData) (Q:PyData->Prop):Prop:=match a,b with
 | .int i,.int j=>c i j/\Q (f i j)
 | _,_=>False
def gI0 (f:Int->Int->PyData)  (a b:PyData) (Q:PyData->Prop):Prop:=match a,b with
 | .int i,.int j=>Q (f i j)
 | _,_=>False
section
variable {C:DC} {X:Cx}
theorem th2 {ρ:List Sl} {σ:St} {P:List Pe} {H:Hp} {v w:V} {a b:PyData} (r:Rel C ρ σ (.v w b::.v v a::P) H):∃col,F6 C col ρ σ P H/\ThV (Z col) H v a/\ThV (Z col) H w b:=by
 obtain⟨col,r⟩:=r
 exact⟨col,r.sub λ_ h=>C8 _ (C8 _ h),r.pd _ (C8 _ D4),r.pd _ D4⟩
theorem A8h {f:Int->Int->V} {g:Int->Int->PyData} (h:∀i j F H,ThV F H (f i j) (g i j)):W1 C (rI0 f) (gI0 g):=by
 intro ρ σ P H v w a b Qd Q R hg k
 unfold gI0 at hg
 split at hg
 ·obtain⟨col,r,t1,t2⟩:=th2 R
  cases t1;cases t2
  exact⟨_,_,rfl,rfl,k _ _ _ ⟨col,r.push (h _ _ _ _)⟩ hg⟩
 ·exact hg.elim
theorem B3h {c:Int->Int->Prop} {f:Int->Int->V} {g:Int->Int->PyData} (h:∀i j F H,ThV F H (f i j) (g i j)):W1 C (rI c f) (gI c g):=by
 intro ρ σ P H v w a b Qd Q R hg k
 unfold gI at hg
 split at hg
 ·obtain⟨col,r,t1,t2⟩:=th2 R
  cases t1;cases t2
  exact⟨_,_,rfl,rfl,hg.1,k _ _ _ ⟨col,r.push (h _ _ _ _)⟩ hg.2⟩
 ·exact hg.elim
def A38:G2:=gI0 λi j=>.int (i + j)
def A39:G2:=gI0 λi j=>.int (i - j)
def A4a:G2:=gI A78 λi j=>.int (i * j)
def A4b:G2:=gI B3a λi j=>.int (i / j)
def A4c:G2:=gI B2w λi j=>.int (i ^ j.toNat)
def gLt:G2:=gI0 λi j=>.bool (decide (i < j))
def gLe:G2:=gI0 λi j=>.bool (decide (i<=j))
def gGt:G2:=gI0 λi j=>.bool (decide (j < i))
theorem i8:W1 C (rI0 (λi j=>.int (i + j))) A38:=A8h (f:=λi j=>.int (i + j)) λ_ _ _ _=>.int _
theorem A8i:W1 C (rI0 (λi j=>.int (i - j))) A39:=A8h (f:=λi j=>.int (i - j)) λ_ _ _ _=>.int _
theorem B3i:W1 C (rI A78 (λi j=>.int (i * j))) A4a:=B3h (f:=λi j=>.int (i * j)) λ_ _ _ _=>.int _
theorem C66:W1 C (rI B3a (λi j=>.int (i / j))) A4b:=B3h (f:=λi j=>.int (i / j)) λ_ _ _ _=>.int _
theorem Z5:W1 C (rI B2w (λi j=>.int (i ^ j.toNat))) A4c:=B3h (f:=λi j=>.int (i ^ j.toNat)) λ_ _ _ _=>.int _
theorem A6i:W1 C (rI0 (λi j=>.bl (decide (i < j)))) gLt:=A8h (f:=λi j=>.bl (decide (i < j))) λ_ _ _ _=>.bl _
theorem C67:W1 C (rI0 (λi j=>.bl (decide (i<=j)))) gLe:=A8h (f:=λi j=>.bl (decide (i<=j))) λ_ _ _ _=>.bl _
theorem A6j:W1 C (rI0 (λi j=>.bl (decide (j < i)))) gGt:=A8h (f:=λi j=>.bl (decide (j < i))) λ_ _ _ _=>.bl _
def gEq (neg:Bool)  (a b:PyData) (Q:PyData->Prop):Prop:=a.canLay0=true/\b.canLay0=true/\min a.depth b.depth<=64/\Q (.bool (if neg then !PyData.eqv a b else PyData.eqv a b))
theorem A0x {K:A4} {neg:Bool}:W1 C (B3b K neg) (gEq neg):=by
 intro ρ σ P H v w a b Qd Q R hg k
 obtain⟨col,r,t1,t2⟩:=th2 R
 exact⟨a,b,t1.dat hg.1,t2.dat hg.2.1,hg.1,hg.2.1,hg.2.2.1,k _ _ _ ⟨col,r.push (.bl _)⟩ hg.2.2.2⟩
def isN:PyData->Bool
 | .none=>true
 | _=>false
def A1a (neg:Bool)  (a b:PyData) (Q:PyData->Prop):Prop:=match b with
 | .none=>Q (.bool (if neg then !isN a else isN a))
 | _=>False
theorem B88 {F:Addr->Prop} {H:Hp} {v:V} {a:PyData} (t:ThV F H v a):decide (v=V.non)=isN a:=by
 cases t <;> simp [isN]
theorem A0y:W1 C (λx y H Q=>y=.non/\Q (.bl (decide (x=.non))) H) (A1a false):=by
 intro ρ σ P H v w a b Qd Q R hg k
 unfold A1a at hg
 split at hg
 ·obtain⟨col,r,t1,t2⟩:=th2 R
  cases t2
  refine⟨rfl,k _ _ _ ⟨col,r.push (d:=.bool (isN a)) ?_⟩ hg⟩
  rw[B88 t1];exact .bl _
 ·exact hg.elim
theorem A8j:W1 C (λx y H Q=>y=.non/\Q (.bl (!decide (x=.non))) H) (A1a true):=by
 intro ρ σ P H v w a b Qd Q R hg k
 unfold A1a at hg
 split at hg
 ·obtain⟨col,r,t1,t2⟩:=th2 R
  cases t2
  refine⟨rfl,k _ _ _ ⟨col,r.push (d:=.bool (!isN a)) ?_⟩ hg⟩
  rw[B88 t1];exact .bl _
 ·exact hg.elim
end
section
variable {X:Cx} {C:DC} {a b c:Expr} {ta tb tc:DE} {pos:Pos}
theorem B89 {f f':Int->Int->Bool} {σ:St} {H:Hp} {Q:VK} (h:eOf C (A12 (gI0 λi j=>.bool (f i j)) (gI0 λi j=>.bool (f' i j)) ta tb tc) σ H Q) :
  B2y (rI0 λi j=>.bl (f i j)) (rI0 λi j=>.bl (f' i j)) (eOf C ta) (eOf C tb) (eOf C tc) σ H Q:=by
 obtain⟨ρ,P,Qd,R,ht,k⟩:=h
 exact⟨ρ,P,_,R,ht,λv x ρ1 H1 R1 h1=>⟨ρ1,_,_,R1,h1,λw y ρ2 H2 R2 h2=>by
  obtain⟨col,r,t1,t2⟩:=th2 R2
  cases x with
  | int i=>
   cases y with
   | int j=>
    cases t1;cases t2
    refine⟨i,j,rfl,rfl,f i j,rfl,?_⟩
    have h2':if f i j=true then tc ρ2 (λc ρ3=>gI0 (λi j=>.bool (f' i j)) (.int j) c λd=>Qd d ρ3) else Qd (.bool false) ρ2:=h2
    cases e:f i j with
    | true=>
     rw[e] at h2'
     refine J0 ⟨ρ2,P,_,⟨col,r⟩,by simpa using h2',λu z ρ3 H3 R3 h3=>?_⟩
     obtain⟨col3,r3⟩:=R3
     have t3:=r3.pd _ D4
     cases z with
     | int l=>
      cases (show ThV (Z col3) H3 u (.int l) from t3)
      exact⟨j,l,rfl,rfl,k _ _ _ _ ⟨col3,(r3.sub λ_ h=>C8 _ h).push (.bl _)⟩ h3⟩
     | _=>exact h3.elim
    | false=>
     rw[e] at h2'
     exact E2 (k _ _ _ _ ⟨col,r.push (.bl false)⟩ (by simpa using h2'))
   | _=>exact h2.elim
  | _=>exact h2.elim⟩⟩
theorem A6k {op op':CmpOp} {f f':Int->Int->Bool} (ho:OpR X (compareOp op) (rI0 λi j=>.bl (f i j))) (ho':OpR X (compareOp op') (rI0 λi j=>.bl (f' i j))) (ha:PE X a (eOf C ta)) (hb:PE X b (eOf C tb)) (hc:PE X c (eOf C tc))
  (hm:lastMarks [op,op'] [b,c]=false:=by with_unfolding_all rfl):PE X (.Compare a [op,op'] [b,c] pos) (eOf C (A12 (gI0 λi j=>.bool (f i j)) (gI0 λi j=>.bool (f' i j)) ta tb tc)):=PE.wk (C45 ho ho' ha hb hc hm) λ_ _ _ h=>B89 h
theorem C68 {op op':CmpOp} {f f':Int->Int->Bool} (ho:OpR X (compareOp op) (rI0 λi j=>.bl (f i j))) (ho':OpR X (compareOp op') (rI0 λi j=>.bl (f' i j))) (ha:PE X a (eOf C ta)) (hb:PE X b (eOf C tb)) (hc:PE X c (eOf C tc))
  (hm:lastMarks [op,op'] [b,c]=false:=by with_unfolding_all rfl):PT X (.Compare a [op,op'] [b,c] pos) (cOf C (dT (A12 (gI0 λi j=>.bool (f i j)) (gI0 λi j=>.bool (f' i j)) ta tb tc))):=PT.wk (C46 ho ho' ha hb hc hm) λ_ _ _ h=>B89 (B3f h)
end
section
variable {X:Cx} {C:DC} {e a b:Expr} {es:List Expr} {t ta tb:DE} {u:DF} {pos:Pos}
theorem B9a {P P':List Pe} {x:Pe} (h:∀p∈P,p∈P'):∀p∈x::P,p∈x::P':=λp hp=>(J8.mp hp).elim (λe=>e▸D4) λhp=>C8 _ (h p hp)
def A4d  (ρ:List Sl) (Q:List PyData->List Sl->Prop):Prop:=Q [] ρ
def A4e (t:DE) (u:DF)  (ρ:List Sl) (Q:List PyData->List Sl->Prop):Prop:=t ρ λd ρ1=>u ρ1 λds ρ2=>Q (d::ds) ρ2
theorem B5:PA X [] (vOf C A4d):=PA.wk A6 λ_ _ _ zz1=>el3 zz1 λ_ _ _ R ht k=>k [] [] _ _ _ R (λ_ h=>h) .nil ht
theorem A2 (ha:PE X e (eOf C t)) (hr:PA X es (vOf C u)) (hs:starEach (e::es) X.env=(false,eval e X.env)::starEach es X.env:=by rfl):PA X (e::es) (vOf C (A4e t u)):=PA.wk (A1 ha hr hs) λ_ _ _ zz2=>el3 zz2 fun ρ P _ R ht k=>
 ⟨ρ,P,_,R,ht,λ_ _ ρ1 _ R1 h1=>⟨ρ1,_,_,R1,h1,λ_ _ _ _ _ R2 s2 p2 h2=>k _ _ _ _ _ R2 (λp hp=>s2 p (C8 _ hp)) (.cons (s2 _ D4) p2) h2⟩⟩
def A4f (t:DF)  (ρ:List Sl) (Q:PyData->List Sl->Prop):Prop:=t ρ λds ρ'=>ds.length<=1000/\Q (.tuple ds) ρ'
theorem M4 {x1} (h:PA X es (vOf C u)):PE X (.Tuple es x1 pos) (eOf C (A4f u)):=PE.wk (V0 h) λ_ _ _ zz3=>el3 zz3 fun ρ P _ R ht k=>⟨ρ,P,_,R,ht,λvs ds ρ' P' H' zz4 s p q=>zz4.elim λcol r=>
 ⟨by rw[(p.th r).len];exact A7p (A98 q.1),λb hb=>k _ _ _ _ ⟨col,(r.tup (p.th r) hb).sub (B9a s)⟩ q.2⟩⟩
def A4g (t:DF)  (ρ:List Sl) (Q:List PyData->List Sl->Prop):Prop:=t ρ λds ρ'=>ds.length<=1000/\Q ds ρ'
theorem E3 (h:PA X es (vOf C u)):PE X (.List es pos) (fOf C (A4g u)):=PE.wk (P7 h) λ_ _ _ zz5=>el3 zz5 fun ρ P _ R ht k=>⟨ρ,P,_,R,ht,λvs ds ρ' P' H' zz6 s p q=>zz6.elim λcol r=>
 ⟨by rw[(p.th r).len];exact A7p (A98 q.1),λb hb=>k _ _ _ _ _ ⟨col,r.sub s,p.th r⟩ hb q.2⟩⟩
def dF (t:DF)  (ρ:List Sl) (Q:PyData->List Sl->Prop):Prop:=t ρ λds ρ'=>Q (.list ds) ρ'
theorem C7 (h:PE X e (fOf C u)):PE X e (eOf C (dF u)):=PE.wk h λ_ _ _ zz7=>el3 zz7 fun ρ P _ R ht k=>⟨ρ,P,_,R,ht,λ_ _ _ _ _ zz8 hp q=>el2 zz8 λcol r t=>k _ _ _ _ ⟨col,r.lst t hp⟩ q⟩
def ixD (a b:PyData):Option PyData:=match a,b with
 | .list xs,.int i=>atI xs i
 | .tuple xs,.int i=>atI xs i
 | _,_=>none
theorem B0i {F:Addr->Prop} {H:Hp} {vs:List V} {ds:List PyData} {i:Int} {d:PyData} (t:B0 F H vs ds) (h:atI ds i=some d):∃v,atI vs i=some v/\ThV F H v d:=by
 unfold atI at h ⊢
 rw[t.len]
 cases q:ixN ds.length i with
 | none=>rw[q] at h;cases h
 | some j=>
  rw[q] at h
  exact t.at h
theorem B9b {K:A4} {col:Addr->Nat} {H:Hp} {v w:V} {a b d:PyData} (t1:Red col H v a) (t2:ThV (Z col) H w b) (h:ixD a b=some d):∃u,ThV (Z col) H u d/\∀Q:VK,Q u H->rIx K v w H Q:=by
 unfold ixD at h
 split at h
 ·cases t2
  obtain⟨p,vs,rfl,e,t⟩:=t1.lst
  obtain⟨u,hu,tu⟩:=B0i t h
  exact⟨u,tu,λQ q=>.inl ⟨p,vs,_,u,rfl,rfl,SqL.of e,hu,q⟩⟩
 ·cases t2
  obtain⟨p,vs,rfl,e,t⟩:=t1.tup
  obtain⟨u,hu,tu⟩:=B0i t h
  exact⟨u,tu,λQ q=>.inr (.inl ⟨p,vs,_,u,rfl,rfl,SqT.of e,hu,q⟩)⟩
 ·cases h
def dIx (ta tb:DE)  (ρ:List Sl) (Q:PyData->List Sl->Prop):Prop:=ta ρ λa ρ1=>tb ρ1 λb ρ2=>bnd (ixD a b) λd=>Q d ρ2
theorem P4 (ha:PE X a (eOf C ta)) (hb:PE X b (eOf C tb)) (hs:B22 b):PE X (.Subscript a b pos) (eOf C (dIx ta tb)):=PE.wk (G9 k9 ha hb hs) λ_ _ _ zz9=>el3 zz9 fun ρ P _ R ht k=>⟨ρ,P,_,R,ht,λv _ ρ1 H1 R1 h1=>⟨ρ1,_,_,R1,h1,λw _ ρ2 H2 R2 h2=>by
 obtain⟨d,hd,q⟩:=N3 h2
 obtain⟨col,r,t1,t2⟩:=th2 R2
 obtain⟨u,tu,f⟩:=B9b (K:=X.K) (.th t1) t2 hd
 exact f _ (k _ _ _ _ ⟨col,r.push tu⟩ q)⟩⟩
def A4h (i:Nat) (tb:DE)  (ρ:List Sl) (Q:PyData->List Sl->Prop):Prop:=bnd (T8 ρ i) λ_=>tb ρ λb ρ2=>bnd (T8 ρ2 i) λa=>bnd (ixD a b) λd=>Q d ρ2
theorem D8 {i:Nat} (ha:PE X a (G0 i)) (hb:PE X b (eOf C tb)) (hs:B22 b):PE X (.Subscript a b pos) (eOf C (A4h i tb)):=PE.wk (G9 k9 ha hb hs) fun σ H Q zz10=>el3 zz10 fun ρ P Qd zz11 ht k=>zz11.elim λcol0 r0=>by
 obtain⟨_,h0,ht⟩:=N3 ht
 obtain⟨v,ev,_⟩:=r0.slot h0
 refine⟨v,ev,ρ,P,_,⟨col0,r0⟩,ht,λw b ρ2 H2 R2 h2=>?_⟩
 obtain⟨a,ha,h2⟩:=N3 h2
 obtain⟨d,hd,q⟩:=N3 h2
 obtain⟨col,r⟩:=R2
 obtain⟨v',ev',t1⟩:=r.slot ha
 rw[ev] at ev'
 cases ev'
 obtain⟨u,tu,f⟩:=B9b (K:=X.K) t1 (r.pd _ D4) hd
 exact f _ (k _ _ _ _ ⟨col,(r.sub λ_ h=>C8 _ h).push tu⟩ q)
def A13 (C:DC) (r:List V->Hp->VK->Prop) (g:List PyData->(PyData->Prop)->Prop):Prop:=
 ∀{ρ:List Sl} {σ:St} {P:List Pe} {col:Addr->Nat} {H:Hp} {vs:List V} {ds:List PyData} {Qd:PyData->Prop} {Q:VK},F6 C col ρ σ P H->B0 (Z col) H vs ds->g ds Qd->(∀u d H',Rel C ρ σ (.v u d::P) H'->Qd d->Q u H')->r vs H Q
def dCb (g:List PyData->(PyData->Prop)->Prop) (u:DF)  (ρ:List Sl) (Q:PyData->List Sl->Prop):Prop:=u ρ λds ρ'=>g ds λd=>Q d ρ'
theorem A0c {r:List V->Hp->VK->Prop} {g:List PyData->(PyData->Prop)->Prop} (hr:A13 C r g) (h:PE X e (tCB r (vOf C u))):PE X e (eOf C (dCb g u)):=PE.wk h λ_ _ _ zz12=>el3 zz12 fun ρ P _ R ht k=>⟨ρ,P,_,R,ht,λvs ds ρ' P' H' zz13 s p q=>zz13.elim λcol r=>
 hr (r.sub s) (p.th r) q λu d H2 R2 q2=>k _ _ _ _ R2 q2⟩
theorem A4i {F:Addr->Prop} {H:Hp} {vs:List V} {d:PyData} (t:B0 F H vs [d]):∃v,vs=[v]/\ThV F H v d:=by
 cases t with
 | cons x y=>cases y;exact⟨_,rfl,x⟩
theorem m6 {F:Addr->Prop} {H:Hp} {vs:List V} {d d':PyData} (t:B0 F H vs [d,d']):∃v w,vs=[v,w]/\ThV F H v d/\ThV F H w d':=by
 cases t with
 | cons x y=>
  obtain⟨w,rfl,z⟩:=A4i y
  exact⟨_,w,rfl,x,z⟩
def lenD:PyData->Option Nat
 | .list xs=>some xs.length
 | .tuple xs=>some xs.length
 | _=>none
def A20  (ds:List PyData) (Q:PyData->Prop):Prop:=match ds with
 | [d]=>bnd (lenD d) λn=>Q (.int n)
 | _=>False
abbrev B3j (K:A4):List V->Hp->VK->Prop:=λxs H Q=>∃p ys,xs=[.ref p]/\(SqL K H p ys\/SqT K H p ys)/\Q (.int ys.length) H
theorem B9c {K:A4} {col:Addr->Nat} {H:Hp} {v:V} {a:PyData} {n:Nat} {Q:VK} (t:Red col H v a) (h:lenD a=some n) (q:Q (.int n) H):B3j K [v] H Q:=by
 cases a with
 | list ds=>
  cases h
  obtain⟨p,vs,rfl,e,t⟩:=t.lst
  exact⟨p,vs,rfl,.inl (SqL.of e),by rw[t.len];exact q⟩
 | tuple ds=>
  cases h
  obtain⟨p,vs,rfl,e,t⟩:=t.tup
  exact⟨p,vs,rfl,.inr (SqT.of e),by rw[t.len];exact q⟩
 | _=>cases h
theorem B9d {K:A4}:A13 C (B3j K) A20:=by
 intro ρ σ P col H vs ds Qd Q r t g k
 unfold A20 at g
 split at g
 ·obtain⟨v,rfl,t1⟩:=A4i t
  obtain⟨n,hn,q⟩:=N3 g
  exact B9c (.th t1) hn (k _ _ _ ⟨col,r.push (.int _)⟩ q)
 ·exact g.elim
def A4j (i:Nat)  (ρ:List Sl) (Q:PyData->List Sl->Prop):Prop:=bnd (T8 ρ i) λa=>bnd (lenD a) λn=>Q (.int n) ρ
theorem A0z {i:Nat} {K:A4} (h:PE X e (tCB (B3j K) (D9 (G0 i) G7))):PE X e (eOf C (A4j i)):=PE.wk h λ_ _ _ zz14=>el3 zz14 fun ρ P _ zz15 ht k=>zz15.elim λcol r=>by
 obtain⟨a,ha,ht⟩:=N3 ht
 obtain⟨n,hn,q⟩:=N3 ht
 obtain⟨v,ev,t⟩:=r.slot ha
 exact⟨v,ev,B9c t hn (k _ _ _ _ ⟨col,r.push (.int _)⟩ q)⟩
def gI2 (f:Int->Int->Int)  (ds:List PyData) (Q:PyData->Prop):Prop:=match ds with
 | [.int i,.int j]=>Q (.int (f i j))
 | _=>False
theorem B9e {f:Int->Int->Int}:A13 C (λxs H Q=>∃i j,xs=[.int i,.int j]/\Q (.int (f i j)) H) (gI2 f):=by
 intro ρ σ P col H vs ds Qd Q r t g k
 unfold gI2 at g
 split at g
 ·obtain⟨v,w,rfl,t1,t2⟩:=m6 t
  cases t1;cases t2
  exact⟨_,_,rfl,k _ _ _ ⟨col,r.push (.int _)⟩ g⟩
 ·exact g.elim
def A4k:=gI2 λi j=>if j < i then j else i
def A4l:=gI2 λi j=>if j > i then j else i
theorem B0j:A13 C (λxs H Q=>∃i j,xs=[.int i,.int j]/\Q (.int (if j < i then j else i)) H) A4k:=B9e (f:=λi j=>if j < i then j else i)
theorem B9f:A13 C (λxs H Q=>∃i j,xs=[.int i,.int j]/\Q (.int (if j > i then j else i)) H) A4l:=B9e (f:=λi j=>if j > i then j else i)
def A21  (ds:List PyData) (Q:PyData->Prop):Prop:=match ds with
 | [.int i]=>Q (.int i)
 | [.bool b]=>Q (.int (if b then 1 else 0))
 | _=>False
theorem C69:A13 C (λxs H Q=>(∃i,xs=[.int i]/\Q (.int i) H)\/∃k,xs=[.bl k]/\Q (.int (if k then 1 else 0)) H) A21:=by
 intro ρ σ P col H vs ds Qd Q r t g k
 unfold A21 at g
 split at g
 ·obtain⟨v,rfl,t1⟩:=A4i t
  cases t1
  exact .inl ⟨_,rfl,k _ _ _ ⟨col,r.push (.int _)⟩ g⟩
 ·obtain⟨v,rfl,t1⟩:=A4i t
  cases t1
  exact .inr ⟨_,rfl,k _ _ _ ⟨col,r.push (.int _)⟩ g⟩
 ·exact g.elim
def A4m:List PyData->Option (List Bool)
 | []=>some []
 | .bool b::r=>(A4m r).map (b::·)
 | _::_=>none
theorem C7a {F:Addr->Prop} {H:Hp} {ds:List PyData} {vs:List V} {bs:List Bool} (t:B0 F H vs ds) (h:A4m ds=some bs):vs=bs.map V.bl:=by
 induction ds generalizing vs bs with
 | nil=>cases t;cases h;rfl
 | cons d r ih=>
  cases t with
  | cons x y=>
   cases x with
   | bl b=>
    have h':(A4m r).map (b::·)=some bs:=h
    cases q:A4m r with
    | none=>rw[q] at h';cases h'
    | some cs=>
     rw[q] at h'
     cases h'
     rw[ih y q];rfl
   | _=>cases h
def gBs (f:List Bool->Bool)  (ds:List PyData) (Q:PyData->Prop):Prop:=match ds with
 | [.list xs]=>bnd (A4m xs) λbs=>Q (.bool (f bs))
 | _=>False
theorem C7b {K:A4} {f:List Bool->Bool}:A13 C (λxs H Q=>∃(p:Addr) (bs:List Bool),xs=[.ref p]/\SqL K H p (bs.map V.bl)/\Q (.bl (f bs)) H) (gBs f):=by
 intro ρ σ P col H vs ds Qd Q r t g k
 unfold gBs at g
 split at g
 ·obtain⟨bs,hb,q⟩:=N3 g
  obtain⟨v,rfl,t1⟩:=A4i t
  cases t1 with
  | lst _ e t2=>
   have z:=C7a t2 hb
   subst z
   exact⟨_,bs,rfl,SqL.of e,k _ _ _ ⟨col,r.push (.bl _)⟩ q⟩
 ·exact g.elim
def A4n:=gBs λbs=>bs.all id
theorem C7c {K:A4}:A13 C (λxs H Q=>∃(p:Addr) (bs:List Bool),xs=[.ref p]/\SqL K H p (bs.map V.bl)/\Q (.bl (bs.all id)) H) A4n:=C7b
abbrev C7d (K:A4):List V->Hp->VK->Prop:=λxs H Q=>∃p ys,xs=[.ref p]/\(SqL K H p ys\/SqT K H p ys)/\∀l,H l=none->Q (.ref l) (upd H l (.lst ys))
def A22:PyData->Option (List PyData)
 | .list xs=>some xs
 | .tuple xs=>some xs
 | _=>none
theorem C7e {col:Addr->Nat} {H:Hp} {v:V} {a:PyData} {ds:List PyData} (t:Red col H v a) (h:A22 a=some ds):∃p vs,v=.ref p/\(H p=some (.lst vs)\/H p=some (.tup vs))/\B0 (Z col) H vs ds:=by
 cases a with
 | list ds=>
  cases h
  obtain⟨p,vs,rfl,e,t⟩:=t.lst
  exact⟨p,vs,rfl,.inl e,t⟩
 | tuple ds=>
  cases h
  obtain⟨p,vs,rfl,e,t⟩:=t.tup
  exact⟨p,vs,rfl,.inr e,t⟩
 | _=>cases h
def A4o (i:Nat)  (ρ:List Sl) (Q:List PyData->List Sl->Prop):Prop:=bnd (T8 ρ i) λa=>bnd (A22 a) λds=>Q ds ρ
theorem B3k {i:Nat} {K:A4} (h:PE X e (tCB (C7d K) (D9 (G0 i) G7))):PE X e (fOf C (A4o i)):=PE.wk h λ_ _ _ zz16=>el3 zz16 fun ρ P _ zz17 ht k=>zz17.elim λcol r=>by
 obtain⟨a,ha,ht⟩:=N3 ht
 obtain⟨ds,hn,q⟩:=N3 ht
 obtain⟨v,ev,t⟩:=r.slot ha
 obtain⟨p,vs,rfl,e,t⟩:=C7e t hn
 exact⟨_,ev,p,vs,rfl,e.elim (λe=>.inl (SqL.of e)) (λe=>.inr (SqT.of e)),λl hl=>k _ _ _ _ _ ⟨col,r,t⟩ hl q⟩
abbrev DO:=List Sl->(Option Int->List Sl->Prop)->Prop
def oOf (C:DC) (t:DO):TO:=fun σ H Q=>∃ρ P Qd,Rel C ρ σ P H/\t ρ Qd/\∀o ρ' H',Rel C ρ' σ P H'->Qd o ρ'->Q o H'
def oN  (ρ:List Sl) (Q:Option Int->List Sl->Prop):Prop:=Q none ρ
def oS (t:DE)  (ρ:List Sl) (Q:Option Int->List Sl->Prop):Prop:=t ρ λd ρ'=>match d with
 | .int i=>Q (some i) ρ'
 | _=>False
theorem A6l:PO X none (oOf C oN):=PO.wk B77 λ_ _ _ zz20=>el3 zz20 λ_ _ _ R ht k=>k _ _ _ R ht
theorem A23 (h:PE X e (eOf C t)):PO X (some e) (oOf C (oS t)):=PO.wk (B78 h) λ_ _ _ zz21=>el3 zz21 fun ρ P _ R ht k=>⟨ρ,P,_,R,ht,λv d ρ' H' R' q=>by
 split at q
 ·obtain⟨col,r⟩:=R'
  have t:=r.pd _ D4
  cases (show ThV (Z col) H' v (.int _) from t)
  exact⟨_,rfl,k _ _ _ (Rel.pop ⟨col,r⟩) q⟩
 ·exact q.elim⟩
def S4 (xs:List PyData) (lo hi:Option Int):List PyData:=(xs.drop (HT.sIx xs.length 0 lo)).take (HT.sIx xs.length xs.length hi - HT.sIx xs.length 0 lo)
theorem B0.drop {F:Addr->Prop} {H:Hp}:∀{vs:List V} {ds:List PyData} (n:Nat),B0 F H vs ds->B0 F H (vs.drop n) (ds.drop n)
 | _,_,0,h=>h
 | _,_,_ + 1,.nil=>.nil
 | _,_,n + 1,.cons _ t=>B0.drop n t
theorem B0.take {F:Addr->Prop} {H:Hp}:∀{vs:List V} {ds:List PyData} (n:Nat),B0 F H vs ds->B0 F H (vs.take n) (ds.take n)
 | _,_,0,_=>.nil
 | _,_,_ + 1,.nil=>.nil
 | _,_,n + 1,.cons x t=>.cons x (B0.take n t)
theorem B9g {F:Addr->Prop} {H:Hp} {vs:List V} {ds:List PyData} (t:B0 F H vs ds) (lo hi:Option Int):B0 F H (A3w vs lo hi) (S4 ds lo hi):=by
 unfold A3w S4
 rw[t.len]
 exact (t.drop _).take _
def R7:PyData->Option (List PyData)
 | .list xs=>some xs
 | _=>none
def A4p (i:Nat) (tl th:DO)  (ρ:List Sl) (Q:List PyData->List Sl->Prop):Prop:=bnd (T8 ρ i) λ_=>tl ρ λlo ρ1=>th ρ1 λhi ρ2=>bnd (T8 ρ2 i) λa=>bnd (R7 a) λxs=>Q (S4 xs lo hi) ρ2
theorem A8k {i:Nat} {lo hi:Option Expr} {p2:Pos} {tl th:DO} (ha:PE X a (G0 i)) (hl:PO X lo (oOf C tl)) (hh:PO X hi (oOf C th)):PE X (.Subscript a (.Slice lo hi none p2) pos) (fOf C (A4p i tl th)):=PE.wk (B21 B23 ha hl hh) fun σ H Q zz22=>el3 zz22 fun ρ P Qd zz23 ht k=>zz23.elim λcol0 r0=>by
 obtain⟨_,h0,ht⟩:=N3 ht
 obtain⟨v,ev,_⟩:=r0.slot h0
 refine⟨v,ev,ρ,P,_,⟨col0,r0⟩,ht,λlo ρ1 H1 R1 h1=>⟨ρ1,P,_,R1,h1,λhi ρ2 H2 R2 h2=>?_⟩⟩
 obtain⟨a,ha,h2⟩:=N3 h2
 obtain⟨xs,hx,q⟩:=N3 h2
 obtain⟨col,r⟩:=R2
 obtain⟨v',ev',t1⟩:=r.slot ha
 rw[ev] at ev'
 cases ev'
 cases a with
 | list ds=>
  cases hx
  obtain⟨p,vs,rfl,e,t⟩:=t1.lst
  exact⟨p,vs,rfl,SqL.of e,λb hb=>k _ _ _ _ _ ⟨col,r,B9g t lo hi⟩ hb q⟩
 | _=>cases hx
def dSl (ta:DE) (tl th:DO)  (ρ:List Sl) (Q:List PyData->List Sl->Prop):Prop:=ta ρ λa ρ0=>tl ρ0 λlo ρ1=>th ρ1 λhi ρ2=>bnd (R7 a) λxs=>Q (S4 xs lo hi) ρ2
theorem B9h {lo hi:Option Expr} {p2:Pos} {tl th:DO} (ha:PE X a (eOf C ta)) (hl:PO X lo (oOf C tl)) (hh:PO X hi (oOf C th)):PE X (.Subscript a (.Slice lo hi none p2) pos) (fOf C (dSl ta tl th)):=PE.wk (B21 B23 ha hl hh) fun σ H Q zz24=>el3 zz24 fun ρ P Qd R ht k=>
 ⟨ρ,P,_,R,ht,λv a ρ0 H0 R0 h0=>⟨ρ0,_,_,R0,h0,λlo ρ1 H1 R1 h1=>⟨ρ1,_,_,R1,h1,λhi ρ2 H2 R2 h2=>by
  obtain⟨xs,hx,q⟩:=N3 h2
  obtain⟨col,r⟩:=R2
  cases a with
  | list ds=>
   cases hx
   obtain⟨p,vs,rfl,e,t⟩:=Red.lst (.th (r.pd _ D4))
   exact⟨p,vs,rfl,SqL.of e,λb hb=>k _ _ _ _ _ ⟨col,r.sub λ_ h=>C8 _ h,B9g t lo hi⟩ hb q⟩
  | _=>cases hx⟩⟩⟩
def A4q (ta tb:DE)  (ρ:List Sl) (Q:List PyData->List Sl->Prop):Prop:=ta ρ λa ρ1=>tb ρ1 λb ρ2=>bnd (R7 a) λxs=>bnd (R7 b) λys=>xs.length + ys.length<=100000/\Q (xs++ys) ρ2
theorem m7 (ha:PE X a (eOf C ta)) (hb:PE X b (eOf C tb)):PE X (.BinOp a .Add b pos) (fOf C (A4q ta tb)):=PE.wk (K6 B8i ha hb) fun σ H Q zz25=>el3 zz25 fun ρ P Qd R ht k=>
 ⟨ρ,P,_,R,ht,λv a ρ1 H1 R1 h1=>⟨ρ1,_,_,R1,h1,λw b ρ2 H2 R2 h2=>by
  obtain⟨xs,hx,h2⟩:=N3 h2
  obtain⟨ys,hy,h3,q⟩:=N3 h2
  obtain⟨col,r,t1,t2⟩:=th2 R2
  cases a with
  | list ds=>
   cases b with
   | list es=>
    cases hx;cases hy
    obtain⟨p,vs,rfl,e,t⟩:=Red.lst (.th t1)
    obtain⟨p',vs',rfl,e',t'⟩:=Red.lst (.th t2)
    exact⟨p,p',vs,vs',rfl,rfl,e,e',by rw[t.len,t'.len,sizeLine_eq];lia,λb hb=>k _ _ _ _ _ ⟨col,r,t.append t'⟩ hb q⟩
   | _=>cases hy
  | _=>cases hx⟩⟩
def A8l (xs:List PyData) (n:Nat):List PyData:=(E5 n xs).flatten
theorem B9i {F:Addr->Prop} {H:Hp} {vs:List V} {ds:List PyData} (t:B0 F H vs ds):∀n:Nat,B0 F H (E5 n vs).flatten (A8l ds n)
 | 0=>.nil
 | n + 1=>by
  unfold A8l
  rw[A3n,A3n,A7s,A7s]
  exact t.append (B9i t n)
def A4r (ta tb:DE)  (ρ:List Sl) (Q:List PyData->List Sl->Prop):Prop:=ta ρ λa ρ1=>tb ρ1 λb ρ2=>match b with
 | .int k=>bnd (R7 a) λxs=>(-1000<=k/\k<=1000/\xs.length<=100)/\Q (A8l xs k.toNat) ρ2
 | _=>False
theorem B9j (ha:PE X a (eOf C ta)) (hb:PE X b (eOf C tb)):PE X (.BinOp a .Mult b pos) (fOf C (A4r ta tb)):=PE.wk (K6 C58 ha hb) fun σ H Q zz26=>el3 zz26 fun ρ P Qd R ht k=>
 ⟨ρ,P,_,R,ht,λv a ρ1 H1 R1 h1=>⟨ρ1,_,_,R1,h1,λw b ρ2 H2 R2 h2=>by
  split at h2
  ·obtain⟨xs,hx,⟨h3,h4,h5⟩,q⟩:=N3 h2
   obtain⟨col,r,t1,t2⟩:=th2 R2
   cases t2
   cases a with
   | list ds=>
    cases hx
    obtain⟨p,vs,rfl,e,t⟩:=Red.lst (.th t1)
    rename_i kk
    refine⟨p,kk,vs,rfl,rfl,e,by lia,by lia,?_,λb hb=>k _ _ _ _ _ ⟨col,r,B9i t _⟩ hb q⟩
    have hl:=t.len
    rw[<-hl] at h5
    have:vs.length * kk.toNat<=100 * 1000:=Nat.mul_le_mul h5 (by lia)
    rw[sizeLine_eq]
    lia
   | _=>cases hx
  ·exact h2.elim⟩⟩
def tyD:PyData->Option String
 | .none=>some "NoneType"
 | .bool _=>some "bool"
 | .int _=>some "int"
 | .str _=>some "str"
 | .list _=>some "list"
 | .tuple _=>some "tuple"
 | .dict _=>some "dict"
theorem C7f {K:A4} {col:Addr->Nat} {H:Hp} {v:V} {a:PyData} (t:Red col H v a):∃T,tyD a=some T/\A8f K H v (.type T):=by
 cases t with
 | th t=>cases t with
  | non=>exact⟨_,rfl,.o .non⟩
  | bl b=>exact⟨_,rfl,.o (.bl b)⟩
  | int i=>exact⟨_,rfl,.o (.int i)⟩
  | str x=>exact⟨_,rfl,.o (.str x)⟩
  | lst _ e _=>exact⟨_,rfl,.o (.lst e)⟩
  | tup _ e _=>exact⟨_,rfl,.o (.tup e)⟩
  | dic _ e u=>cases u with
   | t=>exact⟨_,rfl,.o (.dT e)⟩
   | k i j=>exact⟨_,rfl,.o (.dK e)⟩
   | f o ks=>exact⟨_,rfl,.f e⟩
 | ls e _=>exact⟨_,rfl,.o (.lst e)⟩
def m8 (T:String) (d:PyData):Bool:=match tyD d with
 | some t=>t == T||(T == "int" &&t == "bool")
 | none=>false
def A8m (K:A4) (T:String):Prop:=∀d t,tyD d=some t->K5 K (.type t) (.type T)=some (m8 T d)
abbrev C7g (K:A4):List V->Hp->VK->Prop:=λxs H Q=>∃x cv c t b,xs=[x,cv]/\C9 cv c/\A8f K H x t/\K5 K t c=some b/\Q (.bl b) H
def A4s (i:Nat) (T:String)  (ρ:List Sl) (Q:PyData->List Sl->Prop):Prop:=bnd (T8 ρ i) λa=>Q (.bool (m8 T a)) ρ
theorem B0k {i:Nat} {K:A4} {T:String} (hT:A8m K T) (h:PE X e (tCB (C7g K) (D9 (G0 i) (D9 (tC (.ty T)) G7)))):PE X e (eOf C (A4s i T)):=PE.wk h λ_ _ _ zz27=>el3 zz27 fun ρ P _ zz28 ht k=>zz28.elim λcol r=>by
 obtain⟨a,ha,q⟩:=N3 ht
 obtain⟨v,ev,t⟩:=r.slot ha
 obtain⟨t',e1,e2⟩:=C7f (K:=K) t
 exact⟨v,ev,v,.ty T,.type T,_,_,rfl,rfl,e2,hT a t' e1,k _ _ _ _ ⟨col,r.push (.bl _)⟩ q⟩
theorem C7h {K:A4}:A8m K "int" :=λd t h=>by cases d <;> cases h <;> with_unfolding_all rfl
theorem C7i {K:A4}:A8m K "bool" :=λd t h=>by cases d <;> cases h <;> with_unfolding_all rfl
theorem C7j {K:A4}:A8m K "list" :=λd t h=>by cases d <;> cases h <;> with_unfolding_all rfl
theorem C7k {K:A4}:A8m K "tuple" :=λd t h=>by cases d <;> cases h <;> with_unfolding_all rfl
end
inductive Md where
 | sh
 | bo
 | hd
 | b2
 | bd
def A24:List PyData->Option (List (List PyData))
 | []=>some []
 | .list ds::r=>(A24 r).map (ds::·)
 | _=>none
def B3l:PyData->Option (List (List PyData))
 | .list xs=>A24 xs
 | _=>none
abbrev lls (dss:List (List PyData)):List PyData:=dss.map PyData.list
theorem C7l {xs:List PyData} {dss:List (List PyData)} (h:A24 xs=some dss):xs=lls dss:=by
 induction xs generalizing dss with
 | nil=>cases h;rfl
 | cons x r ih=>
  cases x with
  | list ds=>
   have h':(A24 r).map (ds::·)=some dss:=h
   cases q:A24 r with
   | none=>rw[q] at h';cases h'
   | some ess=>
    rw[q] at h'
    cases h'
    rw[ih q];rfl
  | _=>cases h
theorem C7m {d:PyData} {dss:List (List PyData)} (h:B3l d=some dss):d=.list (lls dss):=by
 cases d with
 | list xs=>rw[C7l h]
 | _=>cases h
theorem C7n {F:Addr->Prop} {H:Hp} {dss:List (List PyData)} {vs:List V} (t:B0 F H vs (lls dss)):∃as:List Addr,vs=as.map V.ref/\Rws F F H as dss:=by
 induction dss generalizing vs with
 | nil=>cases t;exact⟨[],rfl,.nil⟩
 | cons ds dss ih=>
  cases t with
  | cons x y=>
   obtain⟨as,rfl,r⟩:=ih y
   cases x with
   | lst n e z=>exact⟨_::as,rfl,.cons n e z r⟩
def slot2 (ρ:List Sl) (i:Nat):Option (List (List PyData)):=match ρ[i]? with
 | some (.o2 dss)=>some dss
 | some (.b2 dss)=>some dss
 | some (.sh d)=>B3l d
 | _=>none
def B9k (F:Addr->Prop) (hand:Option (Addr×Addr)) (H:Hp) (v:V) (d:PyData):Md->Prop
 | .sh=>ThV F H v d
 | .bo=>∃a vs ds,v=.ref a/\d=.list ds/\(∀q,hand=some q->a≠q.1)/\H a=some (.lst vs)/\B0 F H vs ds
 | .hd=>∃q,hand=some q/\v=.ref q.1
 | .b2=>∃a as dss,v=.ref a/\d=.list (lls dss)/\(∀q,hand=some q->a≠q.1)/\H a=some (.lst (as.map V.ref))/\Rws (λb=>∀q,hand=some q->b≠q.1) F H as dss
 | .bd=>ThV (λb=>∀q,hand=some q->b≠q.1) H v d
inductive m9 (F:Addr->Prop) (hand:Option (Addr×Addr)) (H:Hp):List Md->List V->List PyData->Prop
 | nil:m9 F hand H [] [] []
 | cons {m v d ms vs ds}:B9k F hand H v d m->m9 F hand H ms vs ds->m9 F hand H (m::ms) (v::vs) (d::ds)
theorem m9.len {F:Addr->Prop} {hand:Option (Addr×Addr)} {H:Hp} {ms:List Md} {vs:List V} {ds:List PyData} (t:m9 F hand H ms vs ds):vs.length=ms.length/\ds.length=ms.length:=by
 induction t with
 | nil=>exact⟨rfl,rfl⟩
 | cons _ t ih=>exact⟨congrArg (· + 1) ih.1,congrArg (· + 1) ih.2⟩
abbrev DSp:=List PyData->(PyData->Prop)->Prop
def spD (ms:List Md) (sp:DSp):Sp:=λvs H Q _=>∃F hand ds Qd,((∀b,H b=none->F b)/\∀b xs,H b=some (.tup xs)->F b)/\(∀q,hand=some q->¬ F q.1)/\Hq hand H/\m9 F hand H ms vs ds/\sp ds Qd/\∀d v H',Qd d->ThV F H' v d->Kq hand H H'->Hq hand H'->Q v H'
inductive Ar where
 | v (d:PyData)
 | s (i:Nat)
 | w (d:PyData)
inductive ArV (σ:St) (P:List Pe):List V->List Ar->Prop
 | nil:ArV σ P [] []
 | v {v d vs as}:Pe.v v d∈P->ArV σ P vs as->ArV σ P (v::vs) (.v d::as)
 | s {i v vs as}:σ[i]?=some (some v)->ArV σ P vs as->ArV σ P (v::vs) (.s i::as)
 | w {v d vs as}:Pe.w v d∈P->ArV σ P vs as->ArV σ P (v::vs) (.w d::as)
abbrev DA:=List Sl->(List Ar->List Sl->Prop)->Prop
def aOf (C:DC) (t:DA):TA:=fun σ H Q=>∃ρ P Qd,Rel C ρ σ P H/\t ρ Qd/\∀vs as ρ' P' H',Rel C ρ' σ P' H'->(∀p∈P,p∈P')->ArV σ P' vs as->Qd as ρ'->Q vs H'
def A14 (ρ:List Sl) (i:Nat):Bool:=match ρ[i]? with
 | some .no=>false
 | none=>false
 | _=>true
section
variable {X:Cx} {C:DC} {e:Expr} {es:List Expr} {t:DE} {u:DA}
def A4t  (ρ:List Sl) (Q:List Ar->List Sl->Prop):Prop:=Q [] ρ
def aV (t:DE) (u:DA)  (ρ:List Sl) (Q:List Ar->List Sl->Prop):Prop:=t ρ λd ρ1=>u ρ1 λas ρ2=>Q (.v d::as) ρ2
def aS (i:Nat) (u:DA)  (ρ:List Sl) (Q:List Ar->List Sl->Prop):Prop:=A14 ρ i=true/\u ρ λas ρ2=>Q (.s i::as) ρ2
theorem F4:PA X [] (aOf C A4t):=PA.wk A6 λ_ _ _ zz31=>el3 zz31 λ_ _ _ R ht k=>k [] [] _ _ _ R (λ_ h=>h) .nil ht
theorem C2 (ha:PE X e (eOf C t)) (hr:PA X es (aOf C u)) (hs:starEach (e::es) X.env=(false,eval e X.env)::starEach es X.env:=by rfl):PA X (e::es) (aOf C (aV t u)):=PA.wk (A1 ha hr hs) λ_ _ _ zz32=>el3 zz32 fun ρ P _ R ht k=>
 ⟨ρ,P,_,R,ht,λ_ _ ρ1 _ R1 h1=>⟨ρ1,_,_,R1,h1,λ_ _ _ _ _ R2 s2 p2 h2=>k _ _ _ _ _ R2 (λp hp=>s2 p (C8 _ hp)) (.v (s2 _ D4) p2) h2⟩⟩
theorem C7o {col:Addr->Nat} {ρ:List Sl} {σ:St} {P:List Pe} {H:Hp} {i:Nat} (r:F6 C col ρ σ P H) (h:A14 ρ i=true):∃v,σ[i]?=some (some v):=by
 unfold A14 at h
 split at h
 ·cases h
 ·cases h
 ·rename_i s n1 n2
  cases q:ρ[i]? with
  | none=>exact absurd q n2
  | some s=>
   have z:=r.sl i s q
   cases s with
   | no=>exact absurd q n1
   | sh d=>obtain⟨v,e,_⟩:=z;exact⟨v,N9 e⟩
   | ow d=>obtain⟨a,_,e,_⟩:=z;exact⟨_,N9 e⟩
   | bo d=>obtain⟨a,_,e,_⟩:=z;exact⟨_,N9 e⟩
   | hd=>obtain⟨q,_,e⟩:=z;exact⟨_,N9 e⟩
   | o2 d=>obtain⟨a,_,e,_⟩:=z;exact⟨_,N9 e⟩
   | b2 d=>obtain⟨a,_,e,_⟩:=z;exact⟨_,N9 e⟩
   | di f ks=>obtain⟨a,e,_⟩:=z;exact⟨_,N9 e⟩
   | dm f ks=>obtain⟨a,e,_⟩:=z;exact⟨_,N9 e⟩
   | bd d=>obtain⟨v,e,_⟩:=z;exact⟨v,N9 e⟩
   | ot d=>obtain⟨v,e,_⟩:=z;exact⟨v,N9 e⟩
   | ob R=>obtain⟨v,e,_⟩:=z;exact⟨v,N9 e⟩
theorem F6.le {col:Addr->Nat} {ρ:List Sl} {σ:St} {P:List Pe} {H:Hp} (r:F6 C col ρ σ P H) {v:V} {d:PyData} (t:ThV (Le C) C.H0 v d):ThV (Le C) H v d:=t.mv λb o g e=>⟨g,r.kq b o e g.2⟩
theorem F6.slot2 {col:Addr->Nat} {ρ:List Sl} {σ:St} {P:List Pe} {H:Hp} (r:F6 C col ρ σ P H) {i:Nat} {dss:List (List PyData)} (h:slot2 ρ i=some dss):∃a as,σ[i]?=some (some (.ref a))/\(∀q,C.hand=some q->a≠q.1)/\H a=some (.lst (as.map V.ref))/\Rws (λb=>∀q,C.hand=some q->b≠q.1) (Z col) H as dss:=by
 unfold My.slot2 at h
 split at h
 ·rename_i dss' e
  cases h
  obtain⟨a,as,e1,c,e2,nd,t⟩:=r.sl i _ e
  exact⟨a,as,N9 e1,r.notH (by have:=c.1;lia),e2,t.mv (λb o z e=>⟨z,e⟩) λb o g e=>⟨r.notH (by have:=g.1;lia),e⟩⟩
 ·rename_i dss' e
  cases h
  obtain⟨a,as,e1,c,e2,t⟩:=r.sl i _ e
  exact⟨a,as,N9 e1,c.2,e2,t.mv (λb o z e=>⟨z,e⟩) λb o g e=>⟨g.2,e⟩⟩
 ·rename_i d e
  cases C7m h
  obtain⟨v,e1,t⟩:=r.sl i _ e
  cases t with
  | lst n e2 t=>
   obtain⟨as,rfl,t2⟩:=C7n t
   exact⟨_,as,N9 e1,r.notH (by rw[show col _=0 from n];decide),e2,t2.mv (λb o z e=>⟨z,e⟩) λb o g e=>⟨r.notH (by rw[show col b=0 from g];decide),e⟩⟩
 ·cases h
theorem V1 {i:Nat} (ha:PE X e (G0 i)) (hr:PA X es (aOf C u)) (hs:starEach (e::es) X.env=(false,eval e X.env)::starEach es X.env:=by rfl):PA X (e::es) (aOf C (aS i u)):=PA.wk (A1 ha hr hs) fun σ H Q zz33=>el3 zz33 fun ρ P Qd zz34 ht k=>zz34.elim λcol r=>by
 obtain⟨v,ev⟩:=C7o r ht.1
 exact⟨v,ev,ρ,P,_,⟨col,r⟩,ht.2,λ_ _ _ _ _ R2 s2 p2 h2=>k _ _ _ _ _ R2 s2 (.s ev p2) h2⟩
def arD (ρ:List Sl) (m:Md) (a:Ar):Option PyData:=match m,a with
 | .sh,.v d=>some d
 | .bo,.v (.list ds)=>some (.list ds)
 | .bo,.s i=>(T8 ρ i).bind λd=>(R7 d).map PyData.list
 | .hd,.s i=>match ρ[i]? with
  | some .hd=>some .none
  | _=>none
 | .b2,.s i=>(slot2 ρ i).map λdss=>.list (lls dss)
 | .bd,.v d=>some d
 | .bd,.w d=>some d
 | .bd,.s i=>match ρ[i]? with
  | some (.bd d)=>some d
  | some (.sh d)=>some d
  | _=>none
 | _,_=>none
def W3 (ρ:List Sl):List Md->List Ar->Option (List PyData)
 | [],[]=>some []
 | m::ms,a::as=>(arD ρ m a).bind λd=>(W3 ρ ms as).map (d::·)
 | _,_=>none
theorem A25 {d:PyData} {xs:List PyData} (h:R7 d=some xs):d=.list xs:=by
 cases d <;> cases h
 rfl
theorem B3m {col:Addr->Nat} {ρ:List Sl} {σ:St} {P:List Pe} {H:Hp} (r:F6 C col ρ σ P H) {m:Md} {v:V} {d:PyData} {a:Ar} (ha:match a with | .v d=>Pe.v v d∈P | .s i=>σ[i]?=some (some v) | .w d=>Pe.w v d∈P) (h:arD ρ m a=some d):B9k (Z col) C.hand H v d m:=by
 unfold arD at h
 split at h
 ·cases h;exact r.pd _ ha
 ·cases h
  have z:ThV (Z col) H v (.list _):=r.pd _ ha
  cases z with
  | lst za e t=>exact⟨_,_,_,rfl,rfl,r.notH (by rw[show col _=0 from za];decide),e,t⟩
 ·rename_i i
  have ha':σ[i]?=some (some v):=ha
  cases q:T8 ρ i with
  | none=>rw[q] at h;cases h
  | some d'=>
   rw[q] at h
   cases q2:R7 d' with
   | none=>
    have h':(R7 d').map PyData.list=some d:=h
    rw[q2] at h';cases h'
   | some xs=>
    have h':(R7 d').map PyData.list=some d:=h
    rw[q2] at h'
    cases h'
    have:=A25 q2
    subst this
    unfold T8 at q
    split at q
    ·rename_i d'' e
     cases q
     obtain⟨v',e1,t⟩:=r.sl i _ e
     rw[N9 e1] at ha'
     cases ha'
     cases t with
     | lst za e t=>exact⟨_,_,_,rfl,rfl,r.notH (by rw[show col _=0 from za];decide),e,t⟩
    ·rename_i ds e
     cases q
     obtain⟨a,vs,e1,c,_,e2,t⟩:=r.sl i _ e
     rw[N9 e1] at ha'
     cases ha'
     exact⟨_,_,_,rfl,rfl,r.notH (by lia),e2,t⟩
    ·rename_i ds e
     cases q
     obtain⟨a,vs,e1,c,n,e2,t⟩:=r.sl i _ e
     rw[N9 e1] at ha'
     cases ha'
     exact⟨_,_,_,rfl,rfl,n,e2,t⟩
    ·cases q
 ·rename_i i
  have ha':σ[i]?=some (some v):=ha
  split at h
  ·rename_i e
   cases h
   obtain⟨q,e1,e2⟩:=r.sl i _ e
   rw[N9 e2] at ha'
   cases ha'
   exact⟨q,e1,rfl⟩
  ·cases h
 ·rename_i i
  have ha':σ[i]?=some (some v):=ha
  cases q:slot2 ρ i with
  | none=>rw[q] at h;cases h
  | some dss=>
   rw[q] at h
   cases h
   obtain⟨a,as,e1,n,e2,t⟩:=r.slot2 q
   rw[e1] at ha'
   cases ha'
   exact⟨a,as,dss,rfl,rfl,n,e2,t⟩
 ·cases h
  exact ThV.mv (λb o z e=>⟨r.notH (by rw[show col b=0 from z];decide),e⟩) (r.pd _ ha)
 ·cases h
  exact ThV.mv (λb o z e=>⟨z.2,e⟩) (r.le (r.pd _ ha))
 ·rename_i i
  have ha':σ[i]?=some (some v):=ha
  split at h
  ·rename_i e
   cases h
   obtain⟨v',e1,t⟩:=r.sl i _ e
   rw[N9 e1] at ha'
   cases ha'
   exact ThV.mv (λb o z e=>⟨z.2,e⟩) (r.le t)
  ·rename_i e
   cases h
   obtain⟨v',e1,t⟩:=r.sl i _ e
   rw[N9 e1] at ha'
   cases ha'
   exact ThV.mv (λb o z e=>⟨r.notH (by rw[show col b=0 from z];decide),e⟩) t
  ·cases h
 ·cases h
theorem B0l {col:Addr->Nat} {ρ:List Sl} {σ:St} {P:List Pe} {H:Hp} (r:F6 C col ρ σ P H):∀{ms:List Md} {vs:List V} {ds:List PyData} {as:List Ar},ArV σ P vs as->W3 ρ ms as=some ds->m9 (Z col) C.hand H ms vs ds
 | [],_,_,_,.nil,h=>by cases h;exact .nil
 | [],_,_,_,.v _ _,h=>by cases h
 | [],_,_,_,.s _ _,h=>by cases h
 | [],_,_,_,.w _ _,h=>by cases h
 | _::_,_,_,_,.nil,h=>by cases h
 | m::ms,_,ds,_,.v (d:=d0) (as:=as) hm t,h=>by
  have h':((arD ρ m (.v d0)).bind λd=>(W3 ρ ms as).map (d::·))=some ds:=h
  cases q:arD ρ m (.v d0) with
  | none=>rw[q] at h';cases h'
  | some d=>
   rw[q] at h'
   have h2:(W3 ρ ms as).map (d::·)=some ds:=h'
   cases q2:W3 ρ ms as with
   | none=>rw[q2] at h2;cases h2
   | some ds'=>
    rw[q2] at h2
    cases h2
    exact .cons (B3m r (a:=.v d0) hm q) (B0l r t q2)
 | m::ms,_,ds,_,.s (i:=i) (as:=as) hm t,h=>by
  have h':((arD ρ m (.s i)).bind λd=>(W3 ρ ms as).map (d::·))=some ds:=h
  cases q:arD ρ m (.s i) with
  | none=>rw[q] at h';cases h'
  | some d=>
   rw[q] at h'
   have h2:(W3 ρ ms as).map (d::·)=some ds:=h'
   cases q2:W3 ρ ms as with
   | none=>rw[q2] at h2;cases h2
   | some ds'=>
    rw[q2] at h2
    cases h2
    exact .cons (B3m r (a:=.s i) hm q) (B0l r t q2)
 | m::ms,_,ds,_,.w (d:=d0) (as:=as) hm t,h=>by
  have h':((arD ρ m (.w d0)).bind λd=>(W3 ρ ms as).map (d::·))=some ds:=h
  cases q:arD ρ m (.w d0) with
  | none=>rw[q] at h';cases h'
  | some d=>
   rw[q] at h'
   have h2:(W3 ρ ms as).map (d::·)=some ds:=h'
   cases q2:W3 ρ ms as with
   | none=>rw[q2] at h2;cases h2
   | some ds'=>
    rw[q2] at h2
    cases h2
    exact .cons (B3m r (a:=.w d0) hm q) (B0l r t q2)
def A4u (ms:List Md) (sp:DSp) (u:DA)  (ρ:List Sl) (Q:PyData->List Sl->Prop):Prop:=u ρ λas ρ'=>bnd (W3 ρ' ms as) λds=>sp ds λd=>Q d ρ'
theorem F5 {ms:List Md} {sp:DSp} {E:XK} (h:PE X e (B7y (spD ms sp) [] E (aOf C u))):PE X e (eOf C (A4u ms sp u)):=PE.wk h fun σ H Q zz35=>el3 zz35 fun ρ P Qd R ht k=>⟨ρ,P,_,R,ht,λvs as ρ' P' H' zz36 s p q=>zz36.elim λcol r=>by
 obtain⟨ds,hds,q⟩:=N3 q
 rw[A2j]
 obtain⟨col,r,tp⟩:=r.norm
 refine⟨Z col,C.hand,ds,_,⟨r.fresh,tp⟩,λq hq z=>?_,r.hq,B0l r p hds,q,λd v H2 q2 t2 k2 h2=>k _ _ _ _ ⟨col,(((r.mv k2 h2).sub s)).push t2⟩ q2⟩
 have:=r.hnd q hq
 rw[show col q.1=0 from z] at this
 cases this⟩
end
structure A8n (C:DC) (J:It) (xs:List PyData) (P:List Pe):Prop where
 go:∀{i:Nat} {ρ:List Sl} {σ:St} {P':List Pe} {H:Hp},(∀p∈P,p∈P')->Rel C ρ σ P' H->i < xs.length->J.go i H
 yld:∀{i:Nat} {ρ:List Sl} {σ:St} {P':List Pe} {H H':Hp} {x:V} {d:PyData},(∀p∈P,p∈P')->Rel C ρ σ P' H->xs[i]?=some d->J.yld i H x H'->Rel C ρ σ (.v x d::P') H'
 stop:∀{ρ:List Sl} {σ:St} {P':List Pe} {H:Hp},(∀p∈P,p∈P')->Rel C ρ σ P' H->J.stop xs.length H
theorem P8 {F:Addr->Prop} {H:Hp} {v:V} {xs:List PyData} (t:ThV F H v (.list xs)):∃a vs,v=.ref a/\F a/\H a=some (.lst vs)/\B0 F H vs xs:=by
 cases t with
 | lst za e t=>exact⟨_,_,rfl,za,e,t⟩
theorem A1b {F:Addr->Prop} {H:Hp} {v:V} {xs:List PyData} (t:ThV F H v (.tuple xs)):∃a vs,v=.ref a/\F a/\H a=some (.tup vs)/\B0 F H vs xs:=by
 cases t with
 | tup za e t=>exact⟨_,_,rfl,za,e,t⟩
def iOf (C:DC) (t:DF):TI:=fun σ H R=>∃ρ P Qd,Rel C ρ σ P H/\t ρ Qd/\∀xs ρ' P' H' J,Rel C ρ' σ P' H'->(∀p∈P,p∈P')->A8n C J xs P'->Qd xs ρ'->R J H'
section
variable {X:Cx} {C:DC} {tg e:Expr} {t:DE} {u:DF} {pos:Pos}
theorem PI.wk {tg e:Expr} {w w':TI} (h:PI X tg e w) (f:∀σ H R,w' σ H R->w σ H R):PI X tg e w':=λpins s σ H R I q=>h pins s σ H R I (f σ H R q)
theorem B0m {K:A4} {a:Addr} {vs:List V} {xs:List PyData} {P:List Pe}:A8n C (Itl K a) xs (.n a (.lst vs)::.s vs xs::P) where
 go:=λ{i ρ σ P' H} s R hi=>by
  obtain⟨col,r⟩:=R
  have h1:=r.pd _ (s _ D4)
  have h2:B0 (Z col) H vs xs:=r.pd _ (s _ (C8 _ D4))
  have hl:=h2.len
  exact⟨vs,vs[i],SqL.of h1.2.2,P5 (by lia)⟩
 yld:=λ{i ρ σ P' H H' x d} s R hi y=>by
  obtain⟨e,y⟩:=y
  subst e
  obtain⟨col,r⟩:=R
  have h1:=r.pd _ (s _ D4)
  have h2:B0 (Z col) H' vs xs:=r.pd _ (s _ (C8 _ D4))
  have hx:=y vs (SqL.of h1.2.2)
  obtain⟨d',e1,t⟩:=h2.get hx
  rw[hi] at e1
  cases e1
  exact⟨col,r.push t⟩
 stop:=λ{ρ σ P' H} s R=>by
  obtain⟨col,r⟩:=R
  have h1:=r.pd _ (s _ D4)
  have h2:B0 (Z col) H vs xs:=r.pd _ (s _ (C8 _ D4))
  have hl:=h2.len
  exact⟨vs,SqL.of h1.2.2,by lia⟩
def dIl (t:DE)  (ρ:List Sl) (Q:List PyData->List Sl->Prop):Prop:=t ρ λd ρ'=>bnd (R7 d) λxs=>Q xs ρ'
theorem B9l (h:PE X e (eOf C t)):PI X tg e (iOf C (dIl t)):=PI.wk (A0p h) λ_ _ _ zz1=>el3 zz1 fun ρ P _ R ht k=>⟨ρ,P,_,R,ht,λv d ρ' H' zz2 q=>zz2.elim λcol r=>by
 obtain⟨xs,hx,q⟩:=N3 q
 have:=A25 hx
 subst this
 obtain⟨a,vs,rfl,za,e1,t1⟩:=P8 (show ThV (Z col) H' v (.list xs) from r.pd _ D4)
 refine⟨a,rfl,⟨vs,SqL.of e1⟩,k xs ρ' (.n a (.lst vs)::.s vs xs::P) H' _ ⟨col,?_⟩ (λ_ h=>C8 _ (C8 _ h)) B0m q⟩
 exact ((r.sub λ_ h=>C8 _ h).add (x:=.s vs xs) t1).add (x:=.n a (.lst vs)) ⟨by rw[show col a=0 from za];decide,r.notH (by rw[show col a=0 from za];decide),e1⟩⟩
def dIv (i:Nat)  (ρ:List Sl) (Q:List PyData->List Sl->Prop):Prop:=match ρ[i]? with
 | some (.sh (.list xs))=>Q xs ρ
 | some (.ow xs)=>Q xs (ρ.set i (.sh (.list xs)))
 | some (.bo xs)=>Q xs ρ
 | _=>False
theorem A6m {i:Nat} (h:PE X e (G0 i)):PI X tg e (iOf C (dIv i)):=PI.wk (A0p h) fun σ H R' zz5=>el3 zz5 fun ρ P Qd zz6 ht k=>zz6.elim λcol r=>by
 unfold dIv at ht
 split at ht
 ·rename_i xs e
  obtain⟨v,e1,t⟩:=r.sl i _ e
  obtain⟨a,vs,rfl,za,e2,t1⟩:=P8 t
  ·refine⟨_,N9 e1,a,rfl,⟨vs,SqL.of e2⟩,k xs ρ (.n a (.lst vs)::.s vs xs::P) H _ ⟨col,?_⟩ (λ_ h=>C8 _ (C8 _ h)) B0m ht⟩
   exact (r.add (x:=.s vs xs) t1).add (x:=.n a (.lst vs)) ⟨by rw[show col a=0 from za];decide,r.notH (by rw[show col a=0 from za];decide),e2⟩
 ·rename_i xs e
  obtain⟨a,e1,col',r'⟩:=r.freeze e
  obtain⟨a',vs,ea,za,e2,t1⟩:=P8 (show ThV (Z col') H (.ref a) (.list xs) from r'.pd _ D4)
  cases ea
  ·refine⟨_,N9 e1,a,rfl,⟨vs,SqL.of e2⟩,k xs _ (.n a (.lst vs)::.s vs xs::P) H _ ⟨col',?_⟩ (λ_ h=>C8 _ (C8 _ h)) B0m ht⟩
   exact ((r'.sub λ_ h=>C8 _ h).add (x:=.s vs xs) t1).add (x:=.n a (.lst vs)) ⟨by rw[show col' a=0 from za];decide,r'.notH (by rw[show col' a=0 from za];decide),e2⟩
 ·rename_i xs e
  obtain⟨a,vs,e1,c,n,e2,t⟩:=r.sl i _ e
  exact⟨_,N9 e1,a,rfl,⟨vs,SqL.of e2⟩,k xs ρ (.n a (.lst vs)::.s vs xs::P) H _ ⟨col,(r.add (x:=.s vs xs) t).add (x:=.n a (.lst vs)) ⟨c,n,e2⟩⟩ (λ_ h=>C8 _ (C8 _ h)) B0m ht⟩
 ·exact ht.elim
def V4 (lo:Int) (n:Nat):List PyData:=(U8 n).map λi=>.int (lo + ((i:Nat):Int))
theorem C7p {lo:Int} {n i:Nat} {d:PyData} (h:(V4 lo n)[i]?=some d):i < n/\d=.int (lo + i):=by
 unfold V4 at h
 rw[S0] at h
 by_cases hi:i < n
 ·rw[C3y hi] at h
  cases h
  exact⟨hi,rfl⟩
 ·rw[A3o (by rw[u8];lia)] at h
  cases h
theorem C7q {lo:Int} {n:Nat} {P:List Pe}:A8n C (Itr lo n) (V4 lo n) P where
 go:=λ{i _ _ _ _} _ _ hi=>by
  have:(V4 lo n).length=n:=by unfold V4;rw[D6,u8]
  show i < n
  lia
 yld:=λ{i ρ σ P' H H' x d} _ R hi y=>by
  obtain⟨e1,e2⟩:=y
  subst e1 e2
  obtain⟨_,e3⟩:=C7p hi
  subst e3
  obtain⟨col,r⟩:=R
  exact⟨col,r.push (.int _)⟩
 stop:=λ_ _=>by
  have:(V4 lo n).length=n:=by unfold V4;rw[D6,u8]
  show n<=(V4 lo n).length
  lia
def B3n (u:DF)  (ρ:List Sl) (Q:List PyData->List Sl->Prop):Prop:=u ρ λds ρ'=>match ds with
 | [.int j]=>(-(2 ^ 62)<=j/\j < 2 ^ 62)/\Q (V4 0 j.toNat) ρ'
 | _=>False
theorem A8o (h:PI X tg e (B7k (vOf C u))):PI X tg e (iOf C (B3n u)):=PI.wk h λ_ _ _ zz7=>el3 zz7 fun ρ P _ R ht k=>⟨ρ,P,_,R,ht,λvs ds ρ' P' H' zz8 s p q=>zz8.elim λcol r=>by
 split at q
 ·have t:=p.th r
  obtain⟨v,rfl,t1⟩:=A4i t
  cases t1
  exact⟨_,rfl,q.1.1,q.1.2,k _ _ P' _ _ ⟨col,r⟩ s C7q q.2⟩
 ·exact q.elim⟩
def A1c (xs:List PyData):List PyData:=xs.zipIdx.map λp=>.tuple [.int (p.2:Nat),p.1]
theorem C7r {xs:List PyData} {i:Nat} {d:PyData} (h:(A1c xs)[i]?=some d):∃x,xs[i]?=some x/\d=.tuple [.int (i:Nat),x]:=by
 unfold A1c at h
 rw[S0,List.getElem?_zipIdx] at h
 cases q:xs[i]? with
 | none=>rw[q] at h;cases h
 | some x=>rw[q] at h;cases h;exact⟨x,rfl,by rw[Nat.zero_add]⟩
theorem C7s {K:A4} {a:Addr} {vs:List V} {xs:List PyData} {P:List Pe}:A8n C (Ite K a) (A1c xs) (.n a (.lst vs)::.s vs xs::P) where
 go:=λ{i ρ σ P' H} s R hi=>by
  obtain⟨col,r⟩:=R
  have h1:=r.pd _ (s _ D4)
  have h2:B0 (Z col) H vs xs:=r.pd _ (s _ (C8 _ D4))
  have hl:=h2.len
  have hi':i < xs.length:=by unfold A1c at hi;rw[D6,List.length_zipIdx] at hi;exact hi
  exact⟨vs,vs[i],SqL.of h1.2.2,P5 (by lia)⟩
 yld:=λ{i ρ σ P' H H' x d} s R hi y=>by
  obtain⟨p,v,rfl,hp,rfl,y⟩:=y
  obtain⟨col,r⟩:=R
  have h1:=r.pd _ (s _ D4)
  have h2:B0 (Z col) H vs xs:=r.pd _ (s _ (C8 _ D4))
  have hx:=y vs (SqL.of h1.2.2)
  obtain⟨x,e1,rfl⟩:=C7r hi
  obtain⟨d',e2,t⟩:=h2.get hx
  rw[e1] at e2
  cases e2
  exact⟨col,r.tup (.cons (.int _) (.cons t .nil)) hp⟩
 stop:=λ{ρ σ P' H} s R=>by
  obtain⟨col,r⟩:=R
  have h1:=r.pd _ (s _ D4)
  have h2:B0 (Z col) H vs xs:=r.pd _ (s _ (C8 _ D4))
  have hl:=h2.len
  exact⟨vs,SqL.of h1.2.2,by unfold A1c;rw[D6,List.length_zipIdx];lia⟩
def B3o (t:DE)  (ρ:List Sl) (Q:List PyData->List Sl->Prop):Prop:=t ρ λd ρ'=>bnd (R7 d) λxs=>Q (A1c xs) ρ'
theorem B9m {K:A4} (h:PI X tg e (B8w K (D9 (eOf C t) G7))):PI X tg e (iOf C (B3o t)):=PI.wk h λ_ _ _ zz11=>el3 zz11 fun ρ P _ R ht k=>⟨ρ,P,_,R,ht,λv d ρ' H' zz12 q=>zz12.elim λcol r=>by
 obtain⟨xs,hx,q⟩:=N3 q
 have:=A25 hx
 subst this
 obtain⟨a,vs,rfl,za,e1,t1⟩:=P8 (show ThV (Z col) H' v (.list xs) from r.pd _ D4)
 refine⟨a,rfl,⟨vs,SqL.of e1⟩,k _ ρ' (.n a (.lst vs)::.s vs xs::P) H' _ ⟨col,?_⟩ (λ_ h=>C8 _ (C8 _ h)) C7s q⟩
 exact ((r.sub λ_ h=>C8 _ h).add (x:=.s vs xs) t1).add (x:=.n a (.lst vs)) ⟨by rw[show col a=0 from za];decide,r.notH (by rw[show col a=0 from za];decide),e1⟩⟩
end
def A26 (tt:DT) (te:DE) (ρ:List Sl) (Q:List PyData->Prop):List PyData->List PyData->Prop
 | [],acc=>Q acc
 | x::r,acc=>tt (ρ++[.sh x]) λb ρ'=>ρ'=ρ++[.sh x]/\if b=true then te (ρ++[.sh x]) λd ρ''=>ρ''=ρ++[.sh x]/\A26 tt te ρ Q r (acc++[d]) else A26 tt te ρ Q r acc
def A1d (j:Nat) (it:DF) (tt:DT) (te:DE)  (ρ:List Sl) (Q:List PyData->List Sl->Prop):Prop:=it ρ λxs ρ1=>(ρ1.length=j/\xs.length<=1000)/\A26 tt te ρ1 (λds=>Q ds ρ1) xs []
def B3p  (ρ:List Sl) (Q:Bool->List Sl->Prop):Prop:=Q true ρ
section
variable {X:Cx} {C:DC}
theorem PTs.wk {es:List Expr} {t t':TT} (h:PTs X es t) (f:∀σ H Q,t' σ H Q->t σ H Q):PTs X es t':=λpins s σ H Q I q=>h pins s σ H Q I (f σ H Q q)
theorem A6n:PTs X [] (cOf C B3p):=PTs.wk A10 λ_ _ _ zz13=>el3 zz13 λ_ _ _ R ht k=>k _ _ _ R ht
theorem Rel.ext {ρ:List Sl} {σ:St} {P:List Pe} {H:Hp} {x:V} {d:PyData} (R:Rel C ρ σ (.v x d::P) H):Rel C (ρ++[.sh d]) (σ++[some x]) P H:=by
 obtain⟨col,r⟩:=R
 have t:ThV (Z col) H x d:=r.pd _ D4
 have r:=r.sub λ_ h=>C8 _ h
 refine⟨col,{ r with sl:=λi s e=>?_,len:=by rw[Q1,Q1,r.len];rfl }⟩
 by_cases hi:i < ρ.length
 ·rw[A5w hi] at e
  rw[A5w (by rw[<-r.len];exact hi)]
  exact r.sl i s e
 ·rw[A7q (by lia)] at e
  rw[A7q (by rw[<-r.len];lia),<-r.len]
  match q:i - ρ.length with
  | 0=>
   rw[q] at e
   cases e
   exact⟨x,rfl,t⟩
  | n + 1=>rw[q] at e;simp at e
theorem F6.unext {col:Addr->Nat} {ρ ρ':List Sl} {σ σ':St} {P:List Pe} {H:Hp} (r:F6 C col (ρ++ρ') (σ++σ') P H) (hl:ρ.length=σ.length):F6 C col ρ σ P H:=by
 refine { r with sl:=λi s e=>?_,len:=hl }
 have hi:=(A2h.mp e).1
 have:=r.sl i s (by rw[A5w hi];exact e)
 rw[A5w (by lia)] at this
 exact this
theorem B0.snoc {F:Addr->Prop} {H:Hp} {vs:List V} {ds:List PyData} {v:V} {d:PyData} (t:B0 F H vs ds) (x:ThV F H v d):B0 F H (vs++[v]) (ds++[d]):=t.append (.cons x .nil)
theorem C7t {σ:St} {n j:Nat} {x:V} (h1:n=σ.length + 1) (h2:j=σ.length):(V9 n j σ).set j (some x)=σ++[some x]:=by
 subst h1 h2
 unfold V9
 rw[B2f (by simp),List.set_append_right _ _ (F7 _),List.set_append_right _ _ (F7 _)]
 simp
theorem B3q {it:DF} {tt:DT} {te:DE} {n j:Nat} (hn:n=j + 1) {σ:St} {H:Hp} {Q:VK} (h:fOf C (A1d j it tt te) σ H Q):A6d (iOf C it) n j (λ_=>cOf C tt) (λ_=>eOf C te) σ H Q:=by
 obtain⟨ρ,P,Qd,R,ht,k⟩:=h
 refine⟨ρ,P,_,R,ht,λxs ρ1 P1 H1 J R1 s1 io q=>?_⟩
 obtain⟨⟨hj,hx⟩,q⟩:=q
 have lz:∀m,m<=1000->m<=sizeLine:=λm hm=>A7p (A98 hm)
 refine⟨λi m ys H'=>m=xs.length - i/\i<=xs.length/\ys.length<=i/\∃acc,Rel C ρ1 σ (.s ys acc::P1) H'/\A26 tt te ρ1 (λds=>Qd ds ρ1) (xs.drop i) acc,⟨xs.length,by simp,P0 _,F7 _,[],?_,q⟩,?_⟩
 ·obtain⟨col,r⟩:=R1
  exact⟨col,r.add (x:=.s [] []) .nil⟩
 rintro i m ys H2 ⟨rfl,hi,hy,acc,R2,q2⟩
 refine⟨lz _ (by lia),?_⟩
 have sub2:∀p∈P1,p∈Pe.s ys acc::P1:=λ_ h=>C8 _ h
 have hlen:ρ1.length=σ.length:=by obtain⟨col,r⟩:=R2;exact r.len
 by_cases hlt:i < xs.length
 ·rw[List.drop_eq_getElem_cons hlt] at q2
  refine .inr ⟨io.go sub2 R2 hlt,λys' H'=>ys'.length<=i + 1/\∃acc,Rel C ρ1 σ (.s ys' acc::P1) H'/\A26 tt te ρ1 (λds=>Qd ds ρ1) (xs.drop (i + 1)) acc,λys' H' zz14=>zz14.elim λh1 h2=>⟨xs.length - (i + 1),by lia,rfl,hlt,h1,h2⟩,λx H3 y a=>?_⟩
  have R3:=(io.yld sub2 R2 (P5 hlt) y).ext
  rw[C7t (by rw[hn,<-hlen,hj]) (by rw[<-hlen,hj])]
  refine⟨_,_,_,R3,q2,λb ρ' H4 R4 q4=>?_⟩
  obtain⟨rfl,q4⟩:=q4
  cases b with
  | true=>
   refine J0 ⟨_,_,_,R4,by simpa using q4,λv d ρ'' H5 R5 q5=>?_⟩
   obtain⟨rfl,q5⟩:=q5
   refine⟨by rw[Q1];simp;lia,acc++[d],?_,q5⟩
   obtain⟨col,r⟩:=R5
   have t1:ThV (Z col) H5 v d:=r.pd _ D4
   have t2:B0 (Z col) H5 ys acc:=r.pd _ (C8 _ D4)
   exact⟨col,((r.unext hlen).sub λ_ h=>C8 _ (C8 _ h)).add (x:=.s (ys++[v]) (acc++[d])) (t2.snoc t1)⟩
  | false=>
   refine E2 ⟨by lia,acc,?_,by simpa using q4⟩
   obtain⟨col,r⟩:=R4
   exact⟨col,r.unext hlen⟩
 ·have e:i=xs.length:=by lia
  subst e
  rw[List.drop_length] at q2
  refine .inl ⟨io.stop sub2 R2,λp hp=>k _ _ _ _ _ ?_ hp q2⟩
  obtain⟨col,r⟩:=R2
  exact⟨col,r.sub λp hp=>C8 _ (s1 p hp),r.pd _ D4⟩
end
structure Y3 where
 nx:List Sl->Prop
 rt:PyData->Prop
 bk:List Sl->Prop:=λ_=>False
 ct:List Sl->Prop:=λ_=>False
 ro:Sl->Prop:=λ_=>False
abbrev DS:=Y3->List Sl->Prop
def C7u (C:DC) (col:Addr->Nat) (H:Hp) (v:V):Sl->Prop
 | .ow ds=>∃a vs,v=.ref a/\C.H0 a=none/\col a≠0/\H a=some (.lst vs)/\B0 (Z col) H vs ds
 | .o2 dss=>∃a as,v=.ref a/\(C.H0 a=none/\col a≠0)/\H a=some (.lst (as.map V.ref))/\(a::as).Nodup/\Rws (λb=>C.H0 b=none/\col b≠0) (Z col) H as dss
 | .di false ks=>∃a,v=.ref a/\C.H0 a=none/\H a=some (.dT (dEn ks))
 | _=>False
structure C7v (C:DC) (P:List Pe) (Dd:Y3) (D:X3):Prop where
 nx:∀ρ σ H,Rel C ρ σ P H->Dd.nx ρ->D.nx σ H
 rt:∀v d ρ σ H,Rel C ρ σ (.v v d::P) H->Dd.rt d->D.rt v H
 bk:∀ρ σ H,Rel C ρ σ P H->Dd.bk ρ->D.bk σ H
 ct:∀ρ σ H,Rel C ρ σ P H->Dd.ct ρ->D.ct σ H
 ro:∀(v:V) (s:Sl) (ρ:List Sl) σ H col,F6 C col ρ σ P H->C7u C col H v s->Dd.ro s->D.rt v H
def sOf (C:DC) (t:DS):TS:=λD σ H=>∃ρ P Dd,Rel C ρ σ P H/\t Dd ρ/\C7v C P Dd D
section
variable {X:Cx} {C:DC} {st:Stmt} {sts:List Stmt} {e:Expr} {t u:DS} {te:DE} {tf:DF} {c:DT} {pos:Pos}
theorem PS.wk {t t':TS} (h:PS X st t) (f:∀D σ H,t' D σ H->t D σ H):PS X st t':=λpins s σ H D I q=>h pins s σ H D I (f D σ H q)
theorem PSs.wk {t t':TS} (h:PSs X sts t) (f:∀D σ H,t' D σ H->t D σ H):PSs X sts t':=λpins s σ H D I q=>h pins s σ H D I (f D σ H q)
def A4v (t u:DS)  (D:Y3) (ρ:List Sl):Prop:=t { D with nx:=u D } ρ
def A4w  (D:Y3) (ρ:List Sl):Prop:=D.nx ρ
theorem T9:PSs X [] (sOf C A4w):=PSs.wk M9 λ_ _ _ zz15=>el3 zz15 λ_ _ _ R ht E=>E.nx _ _ _ R ht
theorem E1 (h:PS X st (sOf C t)):PSs X [st] (sOf C t):=D1 h
theorem G1 (h1:PS X st (sOf C t)) (h2:PSs X sts (sOf C u)):PSs X (st::sts) (sOf C (A4v t u)):=PSs.wk (C0 h1 h2) λ_ _ _ zz16=>el3 zz16 fun ρ P Dd R ht E=>⟨ρ,P,{ Dd with nx:=u Dd },R,ht,⟨fun ρ' _ _ R' h=>⟨ρ',P,Dd,R',h,E⟩,E.rt,E.bk,E.ct,E.ro⟩⟩
def Go (f:List Sl->Prop) (ρ:List Sl):Prop:=f ρ
theorem go {f:List Sl->Prop} {ρ:List Sl} (h:f ρ):Go f ρ:=h
def A15 (t u:DS) (D:Y3) (ρ:List Sl):Prop:=t { D with nx:=Go (u D) } ρ
theorem M6 (h1:PS X st (sOf C t)) (h2:PSs X sts (sOf C u)):PSs X (st::sts) (sOf C (A15 t u)):=PSs.wk (C0 h1 h2) λ_ _ _ zz17=>el3 zz17 fun ρ P Dd R ht E=>⟨ρ,P,{ Dd with nx:=Go (u Dd) },R,ht,⟨fun ρ' _ _ R' h=>⟨ρ',P,Dd,R',h,E⟩,E.rt,E.bk,E.ct,E.ro⟩⟩
def B9n (t:DS)  (D:Y3) (ρ:List Sl):Prop:=∃M:List Sl->Prop,t { D with nx:=M } ρ/\∀ρ',M ρ'->D.nx ρ'
theorem B3r (h:PS X st (sOf C t)):PS X st (sOf C (B9n t)):=PS.wk h λ_ _ _ ⟨ρ,P,Dd,R,⟨M,h1,h2⟩,E⟩=>⟨ρ,P,{ Dd with nx:=M },R,h1,⟨fun ρ' σ' H' R' h=>E.nx ρ' σ' H' R' (h2 ρ' h),E.rt,E.bk,E.ct,E.ro⟩⟩
theorem C7w:PS X st (sOf C λ_ _=>False):=PS.wk A11 λ_ _ _ zz22=>el3 zz22 λ_ _ _ _ h _=>h
def A4x (te:DE)  (D:Y3) (ρ:List Sl):Prop:=te ρ λd _=>D.rt d
theorem F8 (h:PE X e (eOf C te)):PS X (.Return (some e) pos) (sOf C (A4x te)):=PS.wk (G6 h) λ_ _ _ zz23=>el3 zz23 fun ρ P _ R ht E=>⟨ρ,P,_,R,ht,λv d _ _ R' q=>E.rt v d _ _ _ R' q⟩
def A4y (c:DT) (t u:DS)  (D:Y3) (ρ:List Sl):Prop:=c ρ λb ρ'=>if b=true then t D ρ' else u D ρ'
theorem U0 {ce:Expr} {a b:List Stmt} (hc:PT X ce (cOf C c)) (ha:PSs X a (sOf C t)) (hb:PSs X b (sOf C u)):PS X (.If ce a b pos) (sOf C (A4y c t u)):=PS.wk (K9 hc ha hb) λ_ _ _ zz26=>el3 zz26 fun ρ P Dd R ht E=>⟨ρ,P,_,R,ht,λb ρ' _ R' q=>by
 cases b with
 | true=>exact J0 ⟨ρ',P,Dd,R',by simpa using q,E⟩
 | false=>exact E2 ⟨ρ',P,Dd,R',by simpa using q,E⟩⟩
def A27 (i:Nat) (te:DE)  (D:Y3) (ρ:List Sl):Prop:=te ρ λd ρ'=>D.nx (ρ'.set i (.sh d))
theorem G5 {i:Nat} (hp:PS X st (x6 (eOf C te) (c8 i))):PS X st (sOf C (A27 i te)):=PS.wk hp λ_ _ _ zz28=>el3 zz28 fun ρ P _ R ht E=>⟨ρ,P,_,R,ht,λv d ρ' H' zz29 q=>zz29.elim λcol r=>E.nx _ _ _ ⟨col,((r.store (i:=i) (r.pd _ D4)).sub λ_ h=>C8 _ h)⟩ q⟩
def A28 (i:Nat) (tf:DF)  (D:Y3) (ρ:List Sl):Prop:=tf ρ λds ρ'=>D.nx (ρ'.set i (.ow ds))
theorem n6 {i:Nat} (hp:PS X st (x6 (fOf C tf) (c8 i))):PS X st (sOf C (A28 i tf)):=PS.wk hp λ_ _ _ zz30=>el3 zz30 fun ρ P _ R ht E=>⟨ρ,P,_,R,ht,λp vs ds ρ' H1 zz31 hp q=>el2 zz31 λcol r t=>E.nx _ _ _ (r.own t hp) q⟩
theorem C7x {i n j:Nat} {it:DF} {tt:DT} (hn:n=j + 1) (hp:PS X st (λD σ H=>A6d (iOf C it) n j (λ_=>cOf C tt) (λ_=>eOf C te) σ H λv H1=>D.nx (σ.set i (some v)) H1)):PS X st (sOf C (A28 i (A1d j it tt te))):=
 PS.wk hp λ_ _ _ zz32=>el3 zz32 fun ρ P _ R ht E=>B3q hn ⟨ρ,P,_,R,ht,λp vs ds ρ' H1 zz33 hp q=>el2 zz33 λcol r t=>E.nx _ _ _ (r.own t hp) q⟩
theorem B9o {i n j:Nat} {it:DF} {tt:DT} (hn:n=j + 1) (hp:PS X st (λD σ H=>A6d (iOf C it) n j (λ_=>cOf C tt) (λ_=>eOf C te) σ H λv H1=>D.nx (σ.set i (some v)) H1)):PS X st (sOf C (A27 i (dF (A1d j it tt te)))):=
 PS.wk hp λ_ _ _ zz34=>el3 zz34 fun ρ P _ R ht E=>B3q hn ⟨ρ,P,_,R,ht,λp vs ds ρ' H1 zz35 hp q=>el2 zz35 λcol r t=>E.nx _ _ _ ⟨col,(((r.lst t hp).store (i:=i) ((r.lst t hp).pd _ D4)).sub λ_ h=>C8 _ h)⟩ q⟩
def A29 (i:Nat) (te:DE)  (D:Y3) (ρ:List Sl):Prop:=match ρ[i]? with
 | some (.ow _)=>te ρ λd ρ'=>match ρ'[i]? with
  | some (.ow ds)=>ds.length<=1000/\D.nx (ρ'.set i (.ow (ds++[d])))
  | _=>False
 | _=>False
theorem A4z {i:Nat} {K:A4} (hp:PS X st (A73 (tBM K "list" B8h (G0 i) (D9 (eOf C te) G7)))):PS X st (sOf C (A29 i te)):=PS.wk hp λD σ H zz36=>el3 zz36 fun ρ P Dd zz37 ht E=>zz37.elim λcol r=>by
 unfold A29 at ht
 split at ht
 ·rename_i ds0 e0
  obtain⟨a,vs,e1,c,n,e2,t⟩:=r.sl i _ e0
  refine⟨.ref a,N9 e1,.inl ⟨rfl,vs,SqL.of e2⟩,ρ,P,_,⟨col,r⟩,ht,λv d ρ' H' zz38 q=>zz38.elim λcol' r'=>?_⟩
  split at q
  ·rename_i ds e0'
   obtain⟨a',vs',e1',c',n',e2',t'⟩:=r'.sl i _ e0'
   rw[e1] at e1'
   cases e1'
   exact⟨a,vs',v,rfl,rfl,e2',by rw[t'.len];exact A98 q.1,E.nx _ _ _ ⟨col',((r'.write e0' e1 (t'.snoc (r'.pd _ D4)))).sub λ_ h=>C8 _ h⟩ q.2⟩
  ·exact q.elim
 ·exact ht.elim
def A40 (i:Nat) (te tk:DE)  (D:Y3) (ρ:List Sl):Prop:=te ρ λd ρ1=>match ρ1[i]? with
 | some (.ow _)=>tk ρ1 λk ρ2=>match ρ2[i]? with
  | some (.ow ds)=>match k with
   | .int k=>bnd (ixN ds.length k) λj=>D.nx (ρ2.set i (.ow (ds.set j d)))
   | _=>False
  | _=>False
 | _=>False
theorem B0.set {F:Addr->Prop} {H:Hp} {v:V} {d:PyData} (x:ThV F H v d):∀{vs:List V} {ds:List PyData} (j:Nat),B0 F H vs ds->B0 F H (vs.set j v) (ds.set j d)
 | _,_,_,.nil=>.nil
 | _,_,0,.cons _ t=>.cons x t
 | _,_,j + 1,.cons y t=>.cons y (B0.set x j t)
theorem B0n {i:Nat} {tk:DE} (hp:PS X st (x6 (eOf C te) (B7h (G0 i) (eOf C tk) B8d))):PS X st (sOf C (A40 i te tk)):=PS.wk hp λD σ H zz39=>el3 zz39 fun ρ P Dd R ht E=>⟨ρ,P,_,R,ht,λv d ρ1 H1 zz40 q1=>zz40.elim λcol1 r1=>by
 split at q1
 ·rename_i ds0 e0
  obtain⟨a,vs,e1,c,n,e2,t⟩:=r1.sl i _ e0
  refine⟨.ref a,N9 e1,ρ1,_,_,⟨col1,r1⟩,q1,λw k ρ2 H2 zz41 q2=>zz41.elim λcol2 r2=>?_⟩
  split at q2
  ·rename_i ds e0'
   cases k with
   | int k'=>
    obtain⟨j,hj,q⟩:=N3 q2
    obtain⟨a',vs',e1',c',n',e2',t'⟩:=r2.sl i _ e0'
    rw[e1] at e1'
    cases e1'
    have tw:ThV (Z col2) H2 w (.int k'):=r2.pd _ D4
    cases tw
    refine⟨a,vs',k',j,rfl,rfl,e2',by rw[t'.len];exact hj,E.nx _ _ _ ⟨col2,((r2.write e0' e1 (B0.set (r2.pd (.v v d) (C8 _ D4)) j t'))).sub λ_ h=>C8 _ (C8 _ h)⟩ q⟩
   | _=>exact q2.elim
  ·exact q2.elim
 ·exact q1.elim⟩
abbrev DG:=PyData->List Sl->(List Sl->Prop)->Prop
def gOf (C:DC) (g:DG):TG:=λv σ H Q=>∃ρ P d Qd,Rel C ρ σ (.v v d::P) H/\g d ρ Qd/\∀ρ' σ',Rel C ρ' σ' P H->Qd ρ'->Q σ' H
theorem PG.wk {tg:Expr} {g g':TG} (h:PG X tg g) (f:∀v σ H Q,g' v σ H Q->g v σ H Q):PG X tg g':=λpins s σ H v u Q I r q=>h pins s σ H v u Q I r (f v σ H Q q)
def gN (i:Nat)  (d:PyData) (ρ:List Sl) (Q:List Sl->Prop):Prop:=Q (ρ.set i (.sh d))
theorem B0o {tg:Expr} {i:Nat} (h:PG X tg (c8 i)):PG X tg (gOf C (gN i)):=PG.wk h λ_ _ _ _ ⟨_,_,_,_,⟨col,r⟩,ht,k⟩=>k _ _ ⟨col,((r.store (i:=i) (r.pd _ D4)).sub λ_ h=>C8 _ h)⟩ ht
def gT2 (i j:Nat)  (d:PyData) (ρ:List Sl) (Q:List Sl->Prop):Prop:=match d with
 | .tuple [a,b]=>Q ((ρ.set i (.sh a)).set j (.sh b))
 | _=>False
theorem B9p {tg:Expr} {i j:Nat} {K:A4} (h:PG X tg (B7g K 2 (B2q (c8 i) (B2q (c8 j) B7f)))):PG X tg (gOf C (gT2 i j)):=PG.wk h λv σ H Q ⟨ρ,P,d,Qd,⟨col,r⟩,ht,k⟩=>by
 unfold gT2 at ht
 split at ht
 ·rename_i a b
  have z:ThV (Z col) H v (.tuple [a,b]):=r.pd _ D4
  cases z with
  | tup za e t=>
   obtain⟨x,y,rfl,t1,t2⟩:=m6 t
   exact⟨_,_,rfl,SqT.of e,rfl,x,[y],rfl,y,[],rfl,rfl,k _ _ ⟨col,(((r.store (i:=i) t1).store (i:=j) t2).sub λ_ h=>C8 _ h)⟩ ht⟩
 ·exact ht.elim
def Blk (t:DS) (D:Y3) (ρ:List Sl):Prop:=t D ρ
def B3s (it:DF) (g:DG) (tb:DS) (D:Y3) (ρ:List Sl):Prop:=it ρ λxs ρ1=>∃I:List PyData->List Sl->Prop,I xs ρ1/\(∀x r ρ,I (x::r) ρ->g x ρ (Blk tb { nx:=I r,ct:=I r,bk:=D.nx,rt:=D.rt }))/\∀ρ,I [] ρ->D.nx ρ
theorem A6o {it:DF} {g:DG} {tb:DS} (hp:PS X st (B7l (iOf C it) (gOf C g) (sOf C tb))):PS X st (sOf C (B3s it g tb)):=PS.wk hp λD σ H zz46=>el3 zz46 fun ρ P Dd R ht E=>⟨ρ,P,_,R,ht,λxs ρ1 P1 H1 J R1 s1 io q=>by
 obtain⟨I,q0,qs,qd⟩:=q
 refine⟨λi m σ' H'=>m=xs.length - i/\i<=xs.length/\∃ρ',Rel C ρ' σ' P1 H'/\I (xs.drop i) ρ',⟨xs.length,by simp,P0 _,ρ1,R1,q0⟩,?_⟩
 rintro i m σ2 H2 ⟨rfl,hi,ρ2,R2,q2⟩
 by_cases hlt:i < xs.length
 ·rw[List.drop_eq_getElem_cons hlt] at q2
  refine .inr ⟨io.go (λ_ h=>h) R2 hlt,fun σ' H'=>∃ρ',Rel C ρ' σ' P1 H'/\I (xs.drop (i + 1)) ρ',fun σ' H' h=>⟨xs.length - (i + 1),by lia,rfl,hlt,h⟩,λx H3 y=>?_⟩
  refine⟨ρ2,P1,_,_,io.yld (λ_ h=>h) R2 (P5 hlt) y,qs _ _ _ q2,fun ρ3 σ3 R3 q3=>?_⟩
  refine⟨ρ3,P1,⟨I (xs.drop (i + 1)),Dd.rt,Dd.nx,I (xs.drop (i + 1)),λ_=>False⟩,R3,q3,⟨fun ρ4 σ4 H4 R4 q4=>⟨ρ4,R4,q4⟩,λv d ρ4 σ4 H4 R4 q4=>E.rt v d ρ4 σ4 H4 (R4.sub (B9a s1)) q4,fun ρ4 σ4 H4 R4 q4=>E.nx ρ4 σ4 H4 (R4.sub s1) q4,fun ρ4 σ4 H4 R4 q4=>⟨ρ4,R4,q4⟩,λ_ _ _ _ _ _ _ _ h=>h.elim⟩⟩
 ·have e:i=xs.length:=by lia
  subst e
  rw[List.drop_length] at q2
  exact .inl ⟨io.stop (λ_ h=>h) R2,E.nx _ _ _ (R2.sub s1) (qd _ q2)⟩⟩
def B0p (c:DT) (tb:DS)  (D:Y3) (ρ:List Sl):Prop:=∃W:Nat->List Sl->Prop,(∃m,W m ρ)/\∀m ρ,W m ρ->c ρ λb ρ1=>if b=true then Blk tb { nx:=fun ρ'=>∃m',m' < m/\W m' ρ',ct:=fun ρ'=>∃m',m' < m/\W m' ρ',bk:=D.nx,rt:=D.rt } ρ1 else D.nx ρ1
theorem B3t {tb:DS} (hp:PS X st (B2t (cOf C c) (sOf C tb))):PS X st (sOf C (B0p c tb)):=PS.wk hp λD σ H ⟨ρ,P,Dd,R,⟨W,⟨m0,w0⟩,turn⟩,E⟩=>by
 refine⟨λm σ' H'=>∃ρ',Rel C ρ' σ' P H'/\W m ρ',⟨m0,ρ,R,w0⟩,?_⟩
 rintro m σ1 H1 ⟨ρ1,R1,w1⟩
 refine⟨ρ1,P,_,R1,turn m ρ1 w1,λb ρ2 H2 R2 q2=>?_⟩
 cases b with
 | true=>
  refine J0 ⟨fun σ' H'=>∃ρ',Rel C ρ' σ' P H'/\∃m',m' < m/\W m' ρ',fun σ' H' zz48=>zz48.elim fun ρ' zz49=>zz49.elim λR' zz50=>zz50.elim λm' zz51=>zz51.elim λhm w=>⟨m',hm,ρ',R',w⟩,ρ2,P,⟨fun ρ'=>∃m',m' < m/\W m' ρ',Dd.rt,Dd.nx,fun ρ'=>∃m',m' < m/\W m' ρ',λ_=>False⟩,R2,by simpa [Blk] using q2,⟨fun ρ4 σ4 H4 R4 q4=>⟨ρ4,R4,q4⟩,E.rt,fun ρ4 σ4 H4 R4 q4=>E.nx ρ4 σ4 H4 R4 q4,fun ρ4 σ4 H4 R4 q4=>⟨ρ4,R4,q4⟩,λ_ _ _ _ _ _ _ _ h=>h.elim⟩⟩
 | false=>exact E2 (E.nx _ _ _ R2 (by simpa using q2))
end
open PySem.Spec PyProof.Rows
def i9:Md->PyData->Sl
 | .sh,d=>.sh d
 | .bo,.list ds=>.bo ds
 | .bo,_=>.no
 | .hd,_=>.hd
 | .b2,d=>match B3l d with
  | some dss=>.b2 dss
  | none=>.no
 | .bd,d=>.bd d
theorem B9q:∀dss:List (List PyData),A24 (lls dss)=some dss
 | []=>rfl
 | ds::dss=>by
  show (A24 (lls dss)).map (ds::·)=some (ds::dss)
  rw[B9q dss];rfl
theorem C7y (dss:List (List PyData)):i9 .b2 (.list (lls dss))=.b2 dss:=by
 show (match A24 (lls dss) with
  | some dss=>Sl.b2 dss
  | none=>.no)=_
 rw[B9q]
def A3a (n:Nat):List Md->List PyData->List Sl
 | m::ms,d::ds=>i9 m d::A3a (n - 1) ms ds
 | _,_=>E5 n .no
def A0d:List Str->List Md->List PyData->List Sl
 | [],_,_=>[]
 | _::N,ms,ds=>(match ms,ds with
  | m::_,d::_=>i9 m d
  | _,_=>.no)::A0d N ms.tail ds.tail
theorem B9r:∀N:List Str,A0d N [] []=E5 N.length .no
 | []=>rfl
 | _::N=>by
  show Sl.no::A0d N [] []=_
  rw[B9r N];rfl
theorem B9s:∀{N:List Str} {ms:List Md} {ds:List PyData},ms.length<=N.length->ds.length=ms.length->A0d N ms ds=A3a N.length ms ds
 | N,[],[],_,_=>B9r N
 | _::N,m::ms,d::ds,h1,h2=>by
  show i9 m d::A0d N ms ds=i9 m d::A3a (N.length + 1 - 1) ms ds
  rw[B9s (by simpa using h1) (by simpa using h2)];rfl
 | [],_::_,_,h,_=>by simp at h
 | _,[],_::_,_,h=>by simp at h
 | _,_::_,[],_,h=>by simp at h
section
variable {P:Program} {w:World} {K:A4} {mg:Str->Option Value} {base:Heap}
theorem C7z {C:DC} {col:Addr->Nat} {H:Hp} {F:Addr->Prop} {hand:Option (Addr×Addr)} (hC:C.hand=hand) (hH:C.H0=H) (f:∀b,F b->col b=0) (lo:∀b,col b<=1) {ms:List Md} {vs:List V} {ds:List PyData} {n:Nat} (ar:m9 F hand H ms vs ds) :
  ∀(i:Nat) (s:Sl),(A3a n ms ds)[i]?=some s->∀j:Nat,SlR C col H j ((vs.map some++E5 (n - vs.length) none)[i]?).join s:=by
 induction ar generalizing n with
 | nil=>
  intro i s e j
  have e':(E5 n Sl.no)[i]?=some s:=e
  rw[A7r] at e'
  split at e'
  ·cases e';trivial
  ·cases e'
 | @cons m v d ms vs ds a t ih=>
  intro i s e j
  have e':(i9 m d::A3a (n - 1) ms ds)[i]?=some s:=e
  cases i with
  | zero=>
   cases e'
   show SlR C col H j (some v) (i9 m d)
   have mv0:∀b o,F b->H b=some o->Z col b/\H b=some o:=λb o z e=>⟨f b z,e⟩
   cases m with
   | sh=>exact⟨v,rfl,ThV.mv mv0 a⟩
   | bo=>
    obtain⟨ad,us,es,rfl,rfl,nh,e2,t2⟩:=a
    exact⟨ad,us,rfl,lo ad,by rw[hC];exact nh,e2,B0.mv mv0 t2⟩
   | hd=>
    obtain⟨q,hq,rfl⟩:=a
    exact⟨q,hC.trans hq,rfl⟩
   | b2=>
    obtain⟨ad,as,dss,rfl,rfl,nh,e2,t2⟩:=a
    rw[C7y]
    exact⟨ad,as,rfl,⟨lo ad,by rw[hC];exact nh⟩,e2,t2.mv mv0 λb o g e=>⟨⟨lo b,by rw[hC];exact g⟩,e⟩⟩
   | bd=>exact⟨v,rfl,ThV.mv (λb o g e=>⟨⟨(by rw[hH,e];exact λq=>nomatch q),by rw[hC];exact g⟩,by rw[hH];exact e⟩) a⟩
  | succ i=>
   have:=ih (n:=n - 1) i s e' j
   rw[P2,A3p,A52,G3,show n - (vs.length + 1)=n - 1 - vs.length by lia]
   exact this
theorem C70 {F:Addr->Prop} {hand:Option (Addr×Addr)} {H:Hp} {ms:List Md} {vs:List V} {ds:List PyData} {n:Nat} (a:m9 F hand H ms vs ds) (h:ms.length<=n):(A3a n ms ds).length=n:=by
 induction a generalizing n with
 | nil=>show (E5 n Sl.no).length=n;rw[A1o]
 | @cons m v d ms vs ds a t ih=>
  show (i9 m d::A3a (n - 1) ms ds).length=n
  rw[G3] at h
  rw[G3,ih (by lia)]
  lia
open Classical in
theorem K0 {x qual:Str} {st:Stmt} {f:Addr} {fd:FuncData} {N ps:List Str} {k:Nat} {sp:DSp} {ms:List Md} (F:Fun K x qual st f fd) (S:D3 N ps (B8 st)) (hm:ms.length=ps.length)
  (hb:∀(C:DC) (cdv:Value) (A:Around) (outer:List Env) (s:Shared) (H:Hp) (E:XK),N6 k (A.deeper (envOfC qual (B8 st) s.heap.objs.size f cdv))->
   ∃t,PSs (O6 CX0 P w K mg base N qual (B8 st) f cdv A outer s H E).nox (A0r st) (sOf C t)/\∀ds Q,ds.length=ms.length->sp ds Q->t { nx:=λ_=>Q .none,rt:=Q } (A0d N ms ds)) :
  B9 P w K mg base CX0 (k + 1) f fd ps (spD ms sp):=by
 refine F.ok S (λvs H Q E h=>?_) (λcdv A outer s H vs Q E hr h=>?_)
 ·obtain⟨_,_,_,_,_,_,_,a,_⟩:=h
  rw[a.len.1,hm]
 ·obtain⟨G,hand,ds,Qd,h1,h2,h3,a,h4,h5⟩:=h
  obtain⟨t,ht,q⟩:=hb ⟨G,hand,H⟩ cdv A outer s H E hr
  have hN:ps.length<=N.length:=by have:=congrArg B18 S.pre;rw[Z0] at this;lia
  let col:Addr->Nat:=λb=>if G b then 0 else 1
  have c0:∀b,G b->col b=0:=λb hb=>if_pos hb
  have c1:∀b,¬ G b->col b=1:=λb hb=>if_neg hb
  have lo:∀b,col b<=1:=λb=>by
   by_cases z:G b
   ·rw[c0 b z];lia
   ·rw[c1 b z];lia
  refine⟨_,ht,A3a N.length ms ds,[],⟨λ_=>Qd .none,Qd,λ_=>False,λ_=>False,λ_=>False⟩,⟨col,λb hb=>c0 b (h1.1 b hb),λb hb=>?_,λq hq=>c1 _ (h2 q hq),λi s e=>C7z (C:=⟨G,hand,H⟩) rfl rfl c0 lo a i s e i,λp hp=>(nomatch hp),Kq.refl,h3,h3,h1,?_⟩,by rw[<-B9s (by lia) a.len.2];exact q ds Qd a.len.2 h4,⟨fun ρ σ H' R h=>?_,λv d ρ σ H' R h=>?_,λ_ _ _ _ h=>h.elim,λ_ _ _ _ h=>h.elim,λ_ _ _ _ _ _ _ _ h=>h.elim⟩⟩
  ·by_cases z:G b
   ·exact z
   ·rw[c1 b z] at hb;cases hb
  ·rw[C70 a (by lia)]
   unfold L2.start
   rw[Q1,D6,A1o,a.len.1]
   lia
  ·obtain⟨col',r⟩:=R
   exact h5 _ _ _ h .non r.kq r.hq
  ·obtain⟨col',r⟩:=R
   exact h5 _ _ _ h (ThV.mv (λb o z e=>⟨r.inF b z,e⟩) (r.pd _ D4)) r.kq r.hq
open Classical in
end
end My
namespace My
open PySem L2
section
variable {X:Cx} {C:DC} {tg e a b:Expr} {t ta tb:DE} {u:DF} {pos:Pos}
def A1e:List PyData->Option (List Int)
 | []=>some []
 | .int b::r=>(A1e r).map (b::·)
 | _::_=>none
theorem B3u {F:Addr->Prop} {H:Hp} {ds:List PyData} {vs:List V} {bs:List Int} (t:B0 F H vs ds) (h:A1e ds=some bs):vs=bs.map V.int:=by
 induction ds generalizing vs bs with
 | nil=>cases t;cases h;rfl
 | cons d r ih=>
  cases t with
  | cons x y=>
   cases x with
   | int b=>
    have h':(A1e r).map (b::·)=some bs:=h
    cases q:A1e r with
    | none=>rw[q] at h';cases h'
    | some cs=>
     rw[q] at h'
     cases h'
     rw[ih y q];rfl
   | _=>cases h
theorem A8p:∀ns:List Int,A1e (ns.map PyData.int)=some ns
 | []=>rfl
 | n::ns=>by
  show (A1e (ns.map PyData.int)).map (n::·)=some (n::ns)
  rw[A8p ns];rfl
def gIn (neg:Bool)  (a b:PyData) (Q:PyData->Prop):Prop:=match a,b with
 | .int i,.list xs=>bnd (A1e xs) λns=>Q (.bool (if neg then !(ns.contains i) else ns.contains i))
 | _,_=>False
theorem B9t (i:Int):∀ns:List Int,inV (V.int i) (ns.map V.int)=ns.contains i
 | []=>rfl
 | n::ns=>by
  have:=B9t i ns
  unfold inV at this ⊢
  rw[P2,A5z,this,A53]
  congr 1
  show (n == i)=(i == n)
  exact Bool.beq_comm
theorem B9u:∀ns:List Int,(ns.map V.int).all A1x=true
 | []=>rfl
 | n::ns=>by rw[P2,List.all_cons,B9u ns];rfl
theorem C71 {K:A4} {neg:Bool}:W1 C (rIn K neg) (gIn neg):=by
 intro ρ σ P H v w a b Qd Q R hg k
 unfold gIn at hg
 split at hg
 ·obtain⟨ns,hn,q⟩:=N3 hg
  obtain⟨col,r,t1,t2⟩:=th2 R
  cases t1
  cases t2 with
  | lst za e t=>
   have z:=B3u t hn
   subst z
   refine⟨_,_,rfl,.inl (SqL.of e),rfl,B9u ns,k _ _ _ ⟨col,r.push ?_⟩ q⟩
   rw[B9t]
   exact .bl _
 ·exact hg.elim
def A41 (i:Nat) (tk:DE)  (ρ:List Sl) (Q:PyData->List Sl->Prop):Prop:=bnd (T8 ρ i) λa0=>bnd (R7 a0) λ_=>tk ρ λk ρ2=>match k with
 | .int k=>bnd (T8 ρ2 i) λa=>bnd (R7 a) λxs=>bnd (A1e xs) λns=>(k∈ns/\ns.length<=100000)/\Q (.int (ns.idxOf k:Nat)) ρ2
 | _=>False
theorem B9v {i:Nat} {K:A4} (h:PE X e (tBM K "list" (B8y K) (G0 i) (D9 (eOf C t) G7))):PE X e (eOf C (A41 i t)):=PE.wk h fun σ H Q zz1=>el3 zz1 fun ρ P Qd zz2 ht k=>zz2.elim λcol0 r0=>by
 obtain⟨a0,h0,ht⟩:=N3 ht
 obtain⟨xs0,hx0,ht⟩:=N3 ht
 have:=A25 hx0
 subst this
 obtain⟨v,ev,t0⟩:=r0.slot h0
 obtain⟨a,vs,rfl,e0,_⟩:=t0.lst
 refine⟨_,ev,.inl ⟨rfl,vs,SqL.of e0⟩,ρ,P,_,⟨col0,r0⟩,ht,λw d ρ2 H2 R2 h2=>?_⟩
 split at h2
 ·rename_i kk
  obtain⟨a1,h1,h2⟩:=N3 h2
  obtain⟨xs,hx,h2⟩:=N3 h2
  obtain⟨ns,hn,⟨hk,hz⟩,q⟩:=N3 h2
  have:=A25 hx
  subst this
  obtain⟨col,r⟩:=R2
  obtain⟨v',ev',t1⟩:=r.slot h1
  rw[ev] at ev'
  cases ev'
  obtain⟨a',vs',e',e1,t1⟩:=t1.lst
  cases e'
  have z:=B3u t1 hn
  subst z
  have tw:ThV (Z col) H2 w (.int kk):=r.pd _ D4
  cases tw
  exact⟨a,ns,kk,rfl,rfl,SqL.of e1,hk,hz,k _ _ _ _ ⟨col,(r.sub λ_ h=>C8 _ h).push (.int _)⟩ q⟩
 ·exact h2.elim
def A42 (t:DE)  (ρ:List Sl) (Q:List PyData->List Sl->Prop):Prop:=t ρ λd ρ'=>bnd (R7 d) λxs=>Q xs.reverse ρ'
theorem B0.rev {F:Addr->Prop} {H:Hp} {vs:List V} {ds:List PyData} (t:B0 F H vs ds):B0 F H vs.reverse ds.reverse:=by
 induction vs generalizing ds with
 | nil=>cases t;exact .nil
 | cons v vs ih=>
  cases t with
  | cons x t=>
   rw[B60,B60]
   exact (ih t).append (.cons x .nil)
theorem C72 {K:A4} (h:PE X e (fun σ H Q=>D9 (eOf C t) G7 σ H λvs H1=>∃a xs,vs=[.ref a]/\SqL K H1 a xs/\∀p,H1 p=none->Q (.ref p) (upd H1 p (.lst xs.reverse)))):PE X e (fOf C (A42 t)):=PE.wk h λ_ _ _ zz3=>el3 zz3 fun ρ P _ R ht k=>⟨ρ,P,_,R,ht,λv d ρ' H' zz4 q=>zz4.elim λcol r=>by
 obtain⟨xs,hx,q⟩:=N3 q
 have:=A25 hx
 subst this
 obtain⟨a,vs,rfl,e,t⟩:=Red.lst (.th (r.pd _ D4))
 exact⟨a,vs,rfl,SqL.of e,λp hp=>k _ _ _ _ _ ⟨col,r.sub λ_ h=>C8 _ h,t.rev⟩ hp q⟩⟩
theorem C73 {K:A4} {a:Addr} {vs:List V} {xs:List PyData} {P:List Pe}:A8n C (Itv K a vs.length) xs.reverse (.n a (.lst vs)::.s vs xs::P) where
 go:=λ{i ρ σ P' H} s R hi=>by
  obtain⟨col,r⟩:=R
  have h1:=r.pd _ (s _ D4)
  have h2:B0 (Z col) H vs xs:=r.pd _ (s _ (C8 _ D4))
  have hl:=h2.len
  rw[A7u] at hi
  exact⟨vs,vs.reverse[i]'(by rw[A7u];lia),SqL.of h1.2.2,rfl,P5 _⟩
 yld:=λ{i ρ σ P' H H' x d} s R hi y=>by
  obtain⟨e,y⟩:=y
  subst e
  obtain⟨col,r⟩:=R
  have h1:=r.pd _ (s _ D4)
  have h2:B0 (Z col) H' vs xs:=r.pd _ (s _ (C8 _ D4))
  have hx:=y vs (SqL.of h1.2.2)
  obtain⟨d',e1,t⟩:=h2.rev.get hx
  rw[hi] at e1
  cases e1
  exact⟨col,r.push t⟩
 stop:=λ{ρ σ P' H} s R=>by
  obtain⟨col,r⟩:=R
  have h2:B0 (Z col) H vs xs:=r.pd _ (s _ (C8 _ D4))
  have hl:=h2.len
  show vs.length<=xs.reverse.length
  rw[A7u];lia
def B3v (t:DE)  (ρ:List Sl) (Q:List PyData->List Sl->Prop):Prop:=t ρ λd ρ'=>bnd (R7 d) λxs=>Q xs.reverse ρ'
theorem C74 {K:A4} (h:PI X tg e (B81 K (D9 (eOf C t) G7))):PI X tg e (iOf C (B3v t)):=PI.wk h λ_ _ _ zz5=>el3 zz5 fun ρ P _ R ht k=>⟨ρ,P,_,R,ht,λv d ρ' H' zz6 q=>zz6.elim λcol r=>by
 obtain⟨xs,hx,q⟩:=N3 q
 have:=A25 hx
 subst this
 obtain⟨a,vs,rfl,za,e1,t1⟩:=P8 (show ThV (Z col) H' v (.list xs) from r.pd _ D4)
 refine⟨a,vs,rfl,SqL.of e1,k _ ρ' (.n a (.lst vs)::.s vs xs::P) H' _ ⟨col,?_⟩ (λ_ h=>C8 _ (C8 _ h)) C73 q⟩
 exact ((r.sub λ_ h=>C8 _ h).add (x:=.s vs xs) t1).add (x:=.n a (.lst vs)) ⟨by rw[show col a=0 from za];decide,r.notH (by rw[show col a=0 from za];decide),e1⟩⟩
theorem A43 {n j:Nat} {it:DF} {tt:DT} {te:DE} (hn:n=j + 1) (h:PE X e (A6d (iOf C it) n j (λ_=>cOf C tt) (λ_=>eOf C te))):PE X e (fOf C (A1d j it tt te)):=PE.wk h λ_ _ _ h=>B3q hn h
end
theorem C75 {α:Type} {x:α} {xs:List α}:atI (x::xs) 0=some x:=A0q (j:=0) rfl
theorem A6p {α:Type} {x:α}:atI [x] 0=some x:=rfl
theorem A6q {α:Type} {x y:α}:atI [x,y] 0=some x:=rfl
theorem A6r {α:Type} {x y:α}:atI [x,y] 1=some y:=rfl
theorem A6s {α:Type} {x y z:α}:atI [x,y,z] 0=some x:=rfl
theorem A6t {α:Type} {x y z:α}:atI [x,y,z] 1=some y:=rfl
theorem A6u {α:Type} {x y z:α}:atI [x,y,z] 2=some z:=rfl
theorem A6v {a b:Prop}:(if true=true then a else b)=a:=rfl
theorem A6w {a b:Prop}:(if false=true then a else b)=b:=rfl
theorem A6x {a b:Bool}:(if true=true then a else b)=a:=rfl
theorem A6y {a b:Bool}:(if false=true then a else b)=b:=rfl
theorem A6z {a b:Int}:(if true=true then a else b)=a:=rfl
theorem A60 {a b:Int}:(if false=true then a else b)=b:=rfl
theorem A61 {α:Type} {a:α} {Q:α->Prop}:bnd (some a) Q=Q a:=rfl
theorem A62 {α:Type} {te:DE} {ρ:List Sl} {Q:List PyData->Prop} {g f:α->PyData}:∀{xs:List α} {acc:List PyData},(∀x∈xs,∀Q':PyData->List Sl->Prop,Q' (f x) (ρ++[.sh (g x)])->te (ρ++[.sh (g x)]) Q')->Q (acc++xs.map f)->A26 B3p te ρ Q (xs.map g) acc
 | [],acc,_,q=>by
  have q':Q (acc++[]):=q
  rw[A2j] at q'
  exact q'
 | x::r,acc,h,q=>by
  refine⟨rfl,?_⟩
  rw[if_pos rfl]
  refine h x D4 _ ⟨rfl,A62 (λy hy=>h y (C8 _ hy)) ?_⟩
  rw[B2a]
  exact q
theorem A63 {α:Type} {tt:DT} {te:DE} {ρ:List Sl} {Q:List PyData->Prop} {g f:α->PyData} {p:α->Bool}:∀{xs:List α} {acc:List PyData},(∀x∈xs,∀Q':Bool->List Sl->Prop,Q' (p x) (ρ++[.sh (g x)])->tt (ρ++[.sh (g x)]) Q')->(∀x∈xs,p x=true->∀Q':PyData->List Sl->Prop,Q' (f x) (ρ++[.sh (g x)])->te (ρ++[.sh (g x)]) Q')->
  Q (acc++(xs.filter p).map f)->A26 tt te ρ Q (xs.map g) acc
 | [],acc,_,_,q=>by
  have q':Q (acc++[]):=q
  rw[A2j] at q'
  exact q'
 | x::r,acc,h1,h2,q=>by
  refine h1 x D4 _ ⟨rfl,?_⟩
  cases e:p x with
  | true=>
   rw[if_pos rfl]
   refine h2 x D4 e _ ⟨rfl,A63 (λy hy=>h1 y (C8 _ hy)) (λy hy=>h2 y (C8 _ hy)) ?_⟩
   rw[B2g e] at q
   rw[B2a]
   exact q
  | false=>
   rw[if_neg R9]
   refine A63 (λy hy=>h1 y (C8 _ hy)) (λy hy=>h2 y (C8 _ hy)) ?_
   rw[A7w (by rw[e];exact R9)] at q
   exact q
theorem B3w {xs:List PyData} {k:Nat}:S4 xs none (some ((k:Nat):Int))=xs.take k:=by
 unfold S4
 rw[HT.sIx_none,HT.sIx_nat,List.drop_zero,Nat.sub_zero]
 by_cases h:k<=xs.length
 ·rw[B2h h]
 ·rw[Nat.min_eq_right (by lia),B2f (F7 _),B2f (by lia)]
theorem C76 {xs:List PyData} {i j:Nat} (h1:i<=xs.length) (h2:j<=xs.length):S4 xs (some ((i:Nat):Int)) (some ((j:Nat):Int))=(xs.drop i).take (j - i):=by
 unfold S4
 rw[HT.sIx_nat,HT.sIx_nat,B2h h1,B2h h2]
section
variable {X:Cx} {C:DC}
end
theorem B9w {te:DE} {ρ:List Sl} {Q:List PyData->Prop} {R:PyData->Prop}:∀{xs acc:List PyData},(∀x∈xs,∀Q':PyData->List Sl->Prop,(∀d,R d->Q' d (ρ++[.sh x]))->te (ρ++[.sh x]) Q')->(∀ds:List PyData,ds.length=xs.length->(∀d∈ds,R d)->Q (acc++ds))->A26 B3p te ρ Q xs acc
 | [],acc,_,q=>by
  have q':=q [] rfl (λd hd=>nomatch hd)
  rw[A2j] at q'
  exact q'
 | x::r,acc,h,q=>by
  refine⟨rfl,?_⟩
  rw[if_pos rfl]
  refine h x D4 _ λd hd=>⟨rfl,B9w (λy hy=>h y (C8 _ hy)) λds hl hR=>?_⟩
  rw[B2a]
  refine q ([d]++ds) (by simp [hl]) λe he=>?_
  rcases A0l.mp he with z | z
  ·have:e=d:=by simpa using z
   subst this;exact hd
  ·exact hR e z
section
variable {X:Cx} {C:DC}
theorem C77 {sts:List Stmt} {t:DS} (h:∀C,PSs X sts (sOf C t)):PSs X sts (λD σ H=>∃C,sOf C t D σ H):=λpins s σ H D I zz2=>zz2.elim λC q=>h C pins s σ H D I q
open Classical in
theorem C78 {xs:List PyData} {x:PyData}:S4 (xs++[x]) none (some (-1))=xs:=by
 have e1:HT.sIx (xs++[x]).length 0 none=0:=rfl
 have e2:HT.sIx (xs++[x]).length (xs++[x]).length (some (-1))=xs.length:=by
  show (if (-1:Int) < 0 then ((-1:Int) + (((xs++[x]).length:Nat):Int)).toNat else min (-1:Int).toNat (xs++[x]).length)=xs.length
  rw[if_pos DD,Q1,C3v]
  lia
 unfold S4
 rw[e1,e2,List.drop_zero,Nat.sub_zero,List.take_left]
end
section
variable {X:Cx} {C:DC} {e:Expr} {u:DF}
end
section
variable {X:Cx} {C:DC} {tg e:Expr} {t u:DE}
end
section
variable {X:Cx} {C:DC}
end
section
variable {X:Cx} {C:DC} {st:Stmt} {te:DE}
end
section
variable {X:Cx} {C:DC} {st:Stmt}
end
theorem Rws.mvm {G F G' F':Addr->Prop} {H H':Hp} {as:List Addr} {dss:List (List PyData)} (t:Rws G F H as dss) (f:∀b o,F b->H b=some o->F' b/\H' b=some o) (g:∀b o,b∈as->G b->H b=some o->G' b/\H' b=some o):Rws G' F' H' as dss:=by
 induction t with
 | nil=>exact .nil
 | cons x e y _ ih=>
  have:=g _ _ D4 x e
  exact .cons this.1 this.2 (y.mv f) (ih λb o hb=>g b o (C8 _ hb))
section
variable {C:DC} {col col':Addr->Nat} {ρ:List Sl} {σ σ':St} {P:List Pe} {H H':Hp} {p:Addr}
end
section
variable {X:Cx} {C:DC} {a b e:Expr} {pos:Pos}
end
section
variable {X:Cx} {C:DC} {e:Expr}
end
section
variable {X:Cx} {C:DC} {st:Stmt} {e:Expr} {te:DE} {pos:Pos} {u:DA}
end
section
variable {X:Cx} {C:DC} {e:Expr} {ta:DE}
end
end My
namespace My
abbrev Tb:=List (Option Int)
abbrev Rn:=List (Option Nat)
abbrev Wy:=Nat×Nat×Int
def N7 (st lv c:Int):Option Int:=if lv + c < 0 then none else some (if st < lv + c then st else lv + c)
def gt {α:Type} (t:List (Option α)) (p:Nat):Option α:=(t[p]?).join
def O8 (st:Int) (t:Tb) (w:Wy):Option Int:=match gt t w.1 with
 | none=>none
 | some l=>N7 st l w.2.2
def Y4:Option Int->Option Int->Bool
 | none,_=>false
 | some _,none=>true
 | some a,some b=>decide (b < a)
def leO (a b:Option Int):Prop:=Y4 a b=false
theorem Z6 {a b:Int}:leO (some a) (some b)↔a<=b:=by unfold leO Y4;simp
theorem A3b {a:Int}:¬ leO (some a) none:=by unfold leO Y4;simp
theorem A44 (a:Option Int):leO a a:=by
 cases a with
 | none=>rfl
 | some x=>exact Z6.mpr (A51 x)
theorem A16 {a b c:Option Int} (h1:leO a b) (h2:leO b c):leO a c:=by
 cases a with
 | none=>rfl
 | some x=>
  cases b with
  | none=>exact absurd h1 A3b
  | some y=>
   cases c with
   | none=>exact absurd h2 A3b
   | some z=>exact Z6.mpr (Int.le_trans (Z6.mp h1) (Z6.mp h2))
theorem C79 {a b:Option Int} (h1:leO a b) (h2:leO b a):a=b:=by
 cases a with
 | none=>cases b with
  | none=>rfl
  | some y=>exact absurd h2 A3b
 | some x=>cases b with
  | none=>exact absurd h1 A3b
  | some y=>rw[Int.le_antisymm (Z6.mp h1) (Z6.mp h2)]
theorem C8a {a b:Option Int} (h:Y4 a b=true):leO b a:=by
 cases a with
 | none=>cases h
 | some x=>cases b with
  | none=>rfl
  | some y=>unfold Y4 at h;exact Z6.mpr (by have:=of_decide_eq_true h;lia)
theorem B3x {a b:Option Int} (h:Y4 a b=true):¬ leO a b:=λz=>by unfold leO at z;rw[z] at h;cases h
theorem B3y {a b:Option Int}:Y4 a b=true\/leO a b:=by
 cases e:Y4 a b with
 | true=>exact .inl rfl
 | false=>exact .inr e
theorem B9x {st a b c:Int} (h:a<=b):leO (N7 st a c) (N7 st b c):=by
 unfold N7
 by_cases h1:a + c < 0
 ·rw[if_pos h1];rfl
 ·have h2:¬ b + c < 0:=by lia
  rw[if_neg h1,if_neg h2]
  apply Z6.mpr
  split <;> split <;> lia
theorem B3z {st l c x:Int} (h0:0<=st) (h:N7 st l c=some x):0<=x/\x<=st:=by
 unfold N7 at h
 split at h
 ·cases h
 ·have:=Option.some.inj h
  subst this
  split <;> lia
def leT (t u:Tb):Prop:=∀p,leO (gt t p) (gt u p)
theorem B9y (t:Tb):leT t t:=λ_=>A44 _
theorem C8b {t u v:Tb} (a:leT t u) (b:leT u v):leT t v:=λp=>A16 (a p) (b p)
theorem C8c {st:Int} {t u:Tb} {w:Wy} (h:leT t u):leO (O8 st t w) (O8 st u w):=by
 have:=h w.1
 unfold O8
 cases e:gt t w.1 with
 | none=>rfl
 | some a=>
  rw[e] at this
  cases e2:gt u w.1 with
  | none=>rw[e2] at this;exact absurd this A3b
  | some b=>rw[e2] at this;exact B9x (Z6.mp this)
theorem C8d {st:Int} {t:Tb} {w:Wy} {x:Int} (h0:0<=st) (h:O8 st t w=some x):0<=x/\x<=st:=by
 unfold O8 at h
 split at h
 ·cases h
 ·exact B3z h0 h
structure K8 (m:Nat) (st:Int) (t:Tb):Prop where
 len:t.length=m
 bd:∀p x,gt t p=some x->0<=x/\x<=st
structure O9 (m:Nat) (ws:List Wy):Prop where
 m1:1<=m
 m2:m<=12
 few:ws.length<=40
 st:∀w∈ws,w.1 < m
 en:∀w∈ws,w.2.1 < m
 lo:∀w∈ws,-1000000000000000000<=w.2.2
 hi:∀w∈ws,w.2.2<=1000000000000000000
theorem B30 {α:Type} {t:List (Option α)} {p:Nat} (h:t.length<=p):gt t p=none:=by unfold gt;rw[A3o h];rfl
theorem B0q {α:Type} {t:List (Option α)} {p:Nat} (h:p < t.length):t[p]?=some (gt t p):=by unfold gt;rw[P5 h];rfl
theorem B0r {α:Type} {t:List (Option α)} {i j:Nat} {x:Option α} (h:i < t.length):gt (t.set i x) j=if i=j then x else gt t j:=by
 unfold gt
 rw[A50]
 by_cases e:i=j
 ·rw[if_pos e,if_pos h,if_pos e];rfl
 ·rw[if_neg e,if_neg e]
theorem B0s {α:Type} {m p:Nat}:gt (E5 m (none:Option α)) p=none:=by
 unfold gt
 rw[A7r]
 split <;> rfl
theorem B9z {t u:Tb} (hl:t.length=u.length) (h:∀p,gt t p=gt u p):t=u:=by
 apply List.ext_getElem?
 intro i
 by_cases hi:i < t.length
 ·rw[B0q hi,B0q (by lia),h i]
 ·rw[A3o (by lia),A3o (by lia)]
theorem C8e {t u:Tb} (hl:t.length=u.length) (h1:leT t u) (h2:leT u t):t=u:=B9z hl λp=>C79 (h1 p) (h2 p)
def A3c (st:Int) (t:Tb) (acc:Tb×Rn) (p:Wy×Nat):Tb×Rn:=
 if Y4 (O8 st t p.1) (gt acc.1 p.1.2.1)=true then (acc.1.set p.1.2.1 (O8 st t p.1),acc.2.set p.1.2.1 (some p.2)) else acc
def P9 (m:Nat) (ws:List Wy) (st:Int) (t s:Tb):Tb×Rn:=ws.zipIdx.foldl (A3c st t) (s,E5 m none)
structure A64 (m:Nat) (ws:List Wy) (st:Int) (t s:Tb) (L:List (Wy×Nat)) (acc:Tb×Rn):Prop where
 l1:acc.1.length=m
 l2:acc.2.length=m
 up:leT s acc.1
 no:∀p,gt acc.2 p=none->gt acc.1 p=gt s p
 yes:∀p n,gt acc.2 p=some n->∃w,ws[n]?=some w/\w.2.1=p/\gt acc.1 p=O8 st t w/\Y4 (O8 st t w) (gt s p)=true
 top:∀q∈L,leO (O8 st t q.1) (gt acc.1 q.1.2.1)
theorem C8f {m:Nat} {ws:List Wy} {st:Int} {t s:Tb} {L:List (Wy×Nat)} {acc:Tb×Rn} (ok:O9 m ws) (I:A64 m ws st t s L acc) {q:Wy×Nat} (hq:ws[q.2]?=some q.1):A64 m ws st t s (L++[q]) (A3c st t acc q):=by
 have hw:q.1∈ws:=X1 hq
 have he:q.1.2.1 < m:=ok.en _ hw
 unfold A3c
 by_cases c:Y4 (O8 st t q.1) (gt acc.1 q.1.2.1)=true
 ·rw[if_pos c]
  have g1:∀j,gt (acc.1.set q.1.2.1 (O8 st t q.1)) j=if q.1.2.1=j then O8 st t q.1 else gt acc.1 j:=λj=>B0r (by rw[I.l1];exact he)
  have g2:∀j,gt (acc.2.set q.1.2.1 (some q.2)) j=if q.1.2.1=j then some q.2 else gt acc.2 j:=λj=>B0r (by rw[I.l2];exact he)
  have hup:∀j,leO (gt acc.1 j) (gt (acc.1.set q.1.2.1 (O8 st t q.1)) j):=λj=>by
   rw[g1]
   by_cases e:q.1.2.1=j
   ·rw[if_pos e,<-e];exact C8a c
   ·rw[if_neg e];exact A44 _
  refine⟨by rw[X2];exact I.l1,by rw[X2];exact I.l2,λp=>A16 (I.up p) (hup p),λp hp=>?_,λp n hp=>?_,λr hr=>?_⟩
  ·rw[g2] at hp
   by_cases e:q.1.2.1=p
   ·rw[if_pos e] at hp;cases hp
   ·rw[if_neg e] at hp;rw[g1,if_neg e];exact I.no p hp
  ·rw[g2] at hp
   by_cases e:q.1.2.1=p
   ·rw[if_pos e] at hp
    cases hp
    refine⟨q.1,hq,e,by rw[g1,if_pos e],?_⟩
    rcases B3y (a:=O8 st t q.1) (b:=gt s p) with z | z
    ·exact z
    ·exact absurd (A16 z (I.up p)) (B3x (e▸c))
   ·rw[if_neg e] at hp;rw[g1,if_neg e];exact I.yes p n hp
  ·rcases A0l.mp hr with hr | hr
   ·exact A16 (I.top r hr) (hup _)
   ·have:r=q:=by simpa using hr
    subst this
    rw[g1,if_pos rfl];exact A44 _
 ·rw[if_neg c]
  refine⟨I.l1,I.l2,I.up,I.no,I.yes,λr hr=>?_⟩
  rcases A0l.mp hr with hr | hr
  ·exact I.top r hr
  ·have:r=q:=by simpa using hr
   subst this
   rcases B3y (a:=O8 st t r.1) (b:=gt acc.1 r.1.2.1) with z | z
   ·exact absurd z c
   ·exact z
theorem B90 {m:Nat} {ws:List Wy} {st:Int} {t s:Tb} (ok:O9 m ws):∀(R L:List (Wy×Nat)) (acc:Tb×Rn),A64 m ws st t s L acc->(∀q∈R,ws[q.2]?=some q.1)->A64 m ws st t s (L++R) (R.foldl (A3c st t) acc)
 | [],L,acc,I,_=>by rw[A2j];exact I
 | q::R,L,acc,I,h=>by
  have:=B90 ok R (L++[q]) _ (C8f ok I (h q D4)) λr hr=>h r (C8 _ hr)
  rw[B2a] at this
  exact this
theorem A1f {m:Nat} {ws:List Wy} {st:Int} {t s:Tb} (ok:O9 m ws) (hs:s.length=m):A64 m ws st t s ws.zipIdx (P9 m ws st t s):=by
 have h0:A64 m ws st t s [] (s,E5 m none):=⟨hs,by rw[A1o],B9y s,λ_ _=>rfl,λp n h=>(by rw[B0s] at h;cases h),λq hq=>(nomatch hq)⟩
 have:=B90 ok ws.zipIdx [] _ h0 λq hq=>by
  obtain⟨w,n⟩:=q
  rw[C3z] at hq
  exact hq
 rw[Z1] at this
 exact this
theorem B91 {m:Nat} {ws:List Wy} {st:Int} {t s:Tb} (ok:O9 m ws) (hs:s.length=m) {w:Wy} (hw:w∈ws):leO (O8 st t w) (gt (P9 m ws st t s).1 w.2.1):=by
 obtain⟨n,hn,e⟩:=A9k.mp hw
 exact (A1f ok hs).top (w,n) (by rw[C3z];show ws[n]?=some w;rw[P5 hn,e])
theorem C8g {m:Nat} {ws:List Wy} {st:Int} {t s:Tb} (ok:O9 m ws) (h0:0<=st) (hs:K8 m st s):K8 m st (P9 m ws st t s).1:=by
 have I:=A1f (st:=st) (t:=t) ok hs.len
 refine⟨I.l1,λp x h=>?_⟩
 cases e:gt (P9 m ws st t s).2 p with
 | none=>rw[I.no p e] at h;exact hs.bd p x h
 | some n=>
  obtain⟨w,_,_,e2,_⟩:=I.yes p n e
  rw[e2] at h
  exact C8d h0 h
def A45 (ws:List Wy) (st:Int) (t:Tb):Prop:=∀w∈ws,leO (O8 st t w) (gt t w.2.1)
theorem C8h {m:Nat} {ws:List Wy} {st:Int} {t s L:Tb} (ok:O9 m ws) (hs:s.length=m) (h1:leT t L) (h2:leT s L) (c:A45 ws st L):leT (P9 m ws st t s).1 L:=λp=>by
 have I:=A1f (st:=st) (t:=t) ok hs
 cases e:gt (P9 m ws st t s).2 p with
 | none=>rw[I.no p e];exact h2 p
 | some n=>
  obtain⟨w,hw,e1,e2,_⟩:=I.yes p n e
  rw[e2,<-e1]
  exact A16 (C8c h1) (c w (X1 hw))
structure U3 (m:Nat) (ws:List Wy) (st:Int) (b t:Tb):Prop where
 tab:K8 m st t
 up:leT b t
 cl:A45 ws st t
 le:∀L,K8 m st L->leT b L->A45 ws st L->leT t L
theorem U3.uniq {m:Nat} {ws:List Wy} {st:Int} {b t u:Tb} (h:U3 m ws st b t) (h':U3 m ws st b u):t=u:=C8e (h.tab.len.trans h'.tab.len.symm) (h.le u h'.tab h'.up h'.cl) (h'.le t h.tab h.up h.cl)
abbrev Rw:=Tb×Rn
def U4 (m:Nat) (ws:List Wy) (st:Int):Nat->Rw->List Rw
 | 0,r=>[r]
 | k + 1,r=>if (P9 m ws st r.1 r.1).1=r.1 then [r] else r::U4 m ws st k (P9 m ws st r.1 r.1)
inductive Rows (m:Nat) (ws:List Wy) (st:Int) (b:Tb):List Rw->Prop
 | one:Rows m ws st b [(b,E5 m none)]
 | more {r rs}:Rows m ws st b (r::rs)->(P9 m ws st r.1 r.1).1≠r.1->Rows m ws st b (P9 m ws st r.1 r.1::r::rs)
theorem B92 {m:Nat} {ws:List Wy} {st:Int} {b:Tb}:∀(k:Nat) (r:Rw) (rs:List Rw),Rows m ws st b (r::rs)->∃r' rs',(rs.reverse++U4 m ws st k r).reverse=r'::rs'/\Rows m ws st b (r'::rs')/\((P9 m ws st r'.1 r'.1).1=r'.1\/(r'::rs').length=rs.length + k + 1)
 | 0,r,rs,h=>⟨r,rs,by simp [U4],h,.inr (by simp)⟩
 | k + 1,r,rs,h=>by
  unfold U4
  by_cases c:(P9 m ws st r.1 r.1).1=r.1
  ·rw[if_pos c]
   exact⟨r,rs,by simp,h,.inl c⟩
  ·rw[if_neg c]
   obtain⟨r',rs',e,h',z⟩:=B92 k _ (r::rs) (.more h c)
   refine⟨r',rs',?_,h',?_⟩
   ·rw[<-e];simp
   ·rcases z with z | z
    ·exact .inl z
    ·refine .inr ?_
     rw[z,G3];lia
section
variable {m:Nat} {ws:List Wy} {st:Int} {b:Tb}
theorem Rows.ok (ok:O9 m ws) (h0:0<=st) (hb:K8 m st b):∀{r:Rw} {rs:List Rw},Rows m ws st b (r::rs)->K8 m st r.1/\r.2.length=m/\leT b r.1
 | _,_,.one=>⟨hb,by simp,B9y b⟩
 | _,_,.more (r:=r) h c=>by
  obtain⟨a1,_,a3⟩:=Rows.ok ok h0 hb h
  have I:=A1f (st:=st) (t:=r.1) ok a1.len
  exact⟨C8g ok h0 a1,I.l2,C8b a3 I.up⟩
theorem Rows.under (ok:O9 m ws) (hb:b.length=m) {L:Tb} (h1:leT b L) (c:A45 ws st L):∀{r:Rw} {rs:List Rw},Rows m ws st b (r::rs)->r.1.length=m/\leT r.1 L
 | _,_,.one=>⟨hb,h1⟩
 | _,_,.more (r:=r) h _=>by
  obtain⟨a1,a2⟩:=Rows.under ok hb h1 c h
  exact⟨(A1f (st:=st) (t:=r.1) ok a1).l1,C8h ok a1 a2 a2 c⟩
theorem Rows.least (ok:O9 m ws) (h0:0<=st) (hb:K8 m st b) {r:Rw} {rs:List Rw} (h:Rows m ws st b (r::rs)) (c:(P9 m ws st r.1 r.1).1=r.1):U3 m ws st b r.1:=by
 obtain⟨a1,_,a3⟩:=h.ok ok h0 hb
 refine⟨a1,a3,λw hw=>?_,λL _ h1 cl=>(h.under ok hb.len h1 cl).2⟩
 have:=B91 (st:=st) (t:=r.1) (s:=r.1) ok a1.len hw
 rw[c] at this
 exact this
end
abbrev Ef:=Option (Int×Int×Int)
def EOk (st:Int) (e:Int×Int×Int):Prop:=0<=e.1/\e.1<=st/\0<=e.2.2/\e.2.2<=st/\0<=e.1 + e.2.1/\e.2.2<=st + e.2.1
def N4 (e:Ef) (x:Int):Option Int:=match e with
 | none=>none
 | some (l,g,t)=>if x < l then none else some (if t < x + g then t else x + g)
def Z7 (a b:Ef):Ef:=match a,b with
 | some (l1,g1,t1),some (l2,g2,t2)=>if t1 < l2 then none else some (if l2 - g1 > l1 then l2 - g1 else l1,g1 + g2,if t2 < t1 + g2 then t2 else t1 + g2)
 | _,_=>none
theorem A65 {a b:Int×Int×Int} (h:¬ a.2.2 < b.1):Z7 (some a) (some b)=some (if b.1 - a.2.1 > a.1 then b.1 - a.2.1 else a.1,a.2.1 + b.2.1,if b.2.2 < a.2.2 + b.2.1 then b.2.2 else a.2.2 + b.2.1):=by
 obtain⟨l1,g1,t1⟩:=a
 obtain⟨l2,g2,t2⟩:=b
 unfold Z7
 simp only at h
 simp only[if_neg h]
theorem A8q {a b:Int×Int×Int} (h:a.2.2 < b.1):Z7 (some a) (some b)=none:=by
 obtain⟨l1,g1,t1⟩:=a
 obtain⟨l2,g2,t2⟩:=b
 unfold Z7
 simp only at h
 simp only[if_pos h]
theorem C8i {st:Int} {a b r:Int×Int×Int} (ha:EOk st a) (hb:EOk st b) (h:Z7 (some a) (some b)=some r):EOk st r:=by
 by_cases c:a.2.2 < b.1
 ·rw[A8q c] at h;cases h
 ·rw[A65 c] at h
  cases h
  obtain⟨l1,g1,t1⟩:=a
  obtain⟨l2,g2,t2⟩:=b
  obtain⟨h1,h2,h3,h4,h5,h6⟩:=ha
  obtain⟨i1,i2,i3,i4,i5,i6⟩:=hb
  simp only at h1 h2 h3 h4 h5 h6 i1 i2 i3 i4 i5 i6 c
  refine⟨?_,?_,?_,?_,?_,?_⟩ <;> dsimp only <;> (repeat' split) <;> lia
theorem C8j {a b r:Int×Int×Int} (h:Z7 (some a) (some b)=some r) (x:Int):N4 (some r) x=(N4 (some a) x).bind (N4 (some b)):=by
 by_cases c:a.2.2 < b.1
 ·rw[A8q c] at h;cases h
 ·rw[A65 c] at h
  cases h
  obtain⟨l1,g1,t1⟩:=a
  obtain⟨l2,g2,t2⟩:=b
  simp only at c
  unfold N4
  dsimp only
  by_cases c1:x < l1
  ·rw[if_pos c1,if_pos (by split <;> lia)]
   rfl
  ·rw[if_neg c1]
   show _=(if (if t1 < x + g1 then t1 else x + g1) < l2 then none else some (if t2 < (if t1 < x + g1 then t1 else x + g1) + g2 then t2 else (if t1 < x + g1 then t1 else x + g1) + g2))
   obtain⟨y,ey,y1,y2,y3⟩:∃y,(if t1 < x + g1 then t1 else x + g1)=y/\y<=t1/\y<=x + g1/\(y=t1\/y=x + g1):=⟨_,rfl,by split <;> lia,by split <;> lia,by split <;> lia⟩
   obtain⟨m,em,m1,m2,m3⟩:∃m,(if l2 - g1 > l1 then l2 - g1 else l1)=m/\l1<=m/\l2 - g1<=m/\(m=l1\/m=l2 - g1):=⟨_,rfl,by split <;> lia,by split <;> lia,by split <;> lia⟩
   obtain⟨n,en,n1,n2,n3⟩:∃n,(if t2 < t1 + g2 then t2 else t1 + g2)=n/\n<=t2/\n<=t1 + g2/\(n=t2\/n=t1 + g2):=⟨_,rfl,by split <;> lia,by split <;> lia,by split <;> lia⟩
   rw[ey,em,en]
   by_cases c2:x < m
   ·rw[if_pos c2,if_pos (show y < l2 by lia)]
   ·rw[if_neg c2,if_neg (show ¬ y < l2 by lia)]
    congr 1
    split <;> split <;> lia
def OkE (st:Int):Ef->Prop
 | none=>True
 | some e=>EOk st e
theorem OkE.join {st:Int} {a b:Ef} (ha:OkE st a) (hb:OkE st b):OkE st (Z7 a b):=by
 rcases a with _ | a
 ·exact trivial
 ·rcases b with _ | b
  ·exact trivial
  ·cases q:Z7 (some a) (some b) with
   | none=>exact trivial
   | some r=>exact C8i ha hb q
theorem C8k {st:Int} (h:0<=st):EOk st (0,0,st):=⟨A51 _,h,h,A51 _,by simp,by simp⟩
def A0e (st c:Int):Ef:=if st + c < 0 then none else some (if -c > 0 then -c else 0,c,if st + c < st then st + c else st)
def foF (st:Int) (w:Ef) (cs:List Int):Ef:=cs.foldl (λw c=>Z7 w (A0e st c)) w
def fxF (st:Int) (cs:List Int):Ef:=foF st (some (0,0,st)) cs
theorem C8l {st:Int} (h:0<=st) (c:Int):OkE st (A0e st c):=by
 unfold A0e
 split
 ·exact trivial
 ·refine⟨?_,?_,?_,?_,?_,?_⟩ <;> dsimp only <;> (repeat' split) <;> lia
theorem B93 {st:Int} (h:0<=st):∀(cs:List Int) {w:Ef},OkE st w->OkE st (foF st w cs)
 | [],_,hw=>hw
 | c::cs,w,hw=>B93 h cs (hw.join (C8l h c))
theorem C8m {st:Int} (h:0<=st) (cs:List Int):OkE st (fxF st cs):=B93 h cs (C8k h)
theorem C8n (a b:Ef) (x:Int):N4 (Z7 a b) x=(N4 a x).bind (N4 b):=by
 rcases a with _ | a
 ·rfl
 ·rcases b with _ | b
  ·show none=(N4 (some a) x).bind (N4 none)
   cases N4 (some a) x <;> rfl
  ·by_cases c:a.2.2 < b.1
   ·rw[A8q c]
    obtain⟨l1,g1,t1⟩:=a
    obtain⟨l2,g2,t2⟩:=b
    simp only at c
    show none=_
    unfold N4
    dsimp only
    by_cases c1:x < l1
    ·rw[if_pos c1];rfl
    ·rw[if_neg c1]
     show none=if (if t1 < x + g1 then t1 else x + g1) < l2 then none else _
     rw[if_pos (by split <;> lia)]
   ·exact C8j (A65 c) x |>.symm▸(by rw[A65 c])
def wkF (st:Int) (o:Option Int) (cs:List Int):Option Int:=cs.foldl (λo c=>o.bind (λx=>N7 st x c)) o
theorem B0t (st:Int):∀cs:List Int,wkF st none cs=none
 | []=>rfl
 | _::cs=>B0t st cs
theorem C8o {st x c:Int} (h0:0<=x) (h1:x<=st):N4 (A0e st c) x=N7 st x c:=by
 unfold A0e N7
 by_cases d:st + c < 0
 ·rw[if_pos d,if_pos (by lia)]
  rfl
 ·rw[if_neg d]
  unfold N4
  dsimp only
  by_cases e:x + c < 0
  ·rw[if_pos e,if_pos (by split <;> lia)]
  ·rw[if_neg e,if_neg (by split <;> lia)]
   congr 1
   split <;> split <;> (try split) <;> lia
theorem B94 {st:Int} (h:0<=st) (x:Int):∀(cs:List Int) (w:Ef),(∀y,N4 w x=some y->0<=y/\y<=st)->N4 (foF st w cs) x=wkF st (N4 w x) cs
 | [],_,_=>rfl
 | c::cs,w,hw=>by
  have e:N4 (Z7 w (A0e st c)) x=(N4 w x).bind (λy=>N7 st y c):=by
   rw[C8n]
   cases q:N4 w x with
   | none=>rfl
   | some y=>exact C8o (hw y q).1 (hw y q).2
  show N4 (foF st (Z7 w (A0e st c)) cs) x=wkF st ((N4 w x).bind (λy=>N7 st y c)) cs
  rw[B94 h x cs _ ?_,e]
  intro y q
  rw[e] at q
  cases q2:N4 w x with
  | none=>rw[q2] at q;cases q
  | some z=>rw[q2] at q;exact B3z h q
theorem B95 {st x:Int} (h0:0<=x) (h1:x<=st):N4 (some (0,0,st)) x=some x:=by
 unfold N4
 dsimp only
 rw[if_neg (by lia)]
 congr 1
 split <;> lia
theorem B31 {st x:Int} (h0:0<=x) (h1:x<=st) (cs:List Int):N4 (fxF st cs) x=wkF st (some x) cs:=by
 unfold fxF
 rw[B94 (by lia) x cs _ ?_,B95 h0 h1]
 intro y q
 rw[B95 h0 h1] at q
 cases q
 exact⟨h0,h1⟩
theorem B96 {st:Int}:∀(cs:List Int) {w:Int×Int×Int} {r:Int×Int×Int},foF st (some w) cs=some r->r.2.1=w.2.1 + cs.sum
 | [],w,r,q=>by
  have q':some w=some r:=q
  cases q'
  simp
 | c::cs,w,r,q=>by
  have q':foF st (Z7 (some w) (A0e st c)) cs=some r:=q
  cases q2:Z7 (some w) (A0e st c) with
  | none=>
   rw[q2] at q'
   have:∀cs:List Int,foF st none cs=none:=by
    intro cs
    induction cs with
    | nil=>rfl
    | cons c cs ih=>exact ih
   rw[this] at q'
   cases q'
  | some a=>
   rw[q2] at q'
   rw[B96 cs q']
   have ga:a.2.1=w.2.1 + c:=by
    unfold A0e at q2
    split at q2
    ·cases q2
    ·by_cases d:w.2.2 < (if -c > 0 then -c else 0)
     ·rw[A8q (by exact d)] at q2;cases q2
     ·rw[A65 (by exact d)] at q2;cases q2;rfl
   rw[ga,List.sum_cons]
   lia
theorem C8p {st:Int} {cs:List Int} {r:Int×Int×Int} (q:fxF st cs=some r):r.2.1=cs.sum:=by
 rw[B96 cs q]
 show 0 + cs.sum=cs.sum
 lia
def Y5 (ws:List Wy) (n:Nat):Nat:=match ws[n]? with
 | some w=>w.1
 | none=>0
def A17 (ws:List Wy) (n:Nat):Nat:=match ws[n]? with
 | some w=>w.2.1
 | none=>0
def A0f (ws:List Wy) (n:Nat):Int:=match ws[n]? with
 | some w=>w.2.2
 | none=>0
def wlk (ws:List Wy):List Rw->Nat->Nat×List Nat
 | [],p=>(p,[])
 | r::rs,p=>match gt r.2 p with
  | none=>wlk ws rs p
  | some n=>((wlk ws rs (Y5 ws n)).1,(wlk ws rs (Y5 ws n)).2++[n])
structure Wk (ws:List Wy) (st:Int) (b:Tb) (N:List Nat) (P:Nat->Nat) (L:Nat->Int):Prop where
 way:∀k n,N[k]?=some n->∃w,ws[n]?=some w/\w.1=P k/\w.2.1=P (k + 1)/\N7 st (L k) w.2.2=some (L (k + 1))
 beg:gt b (P 0)=some (L 0)
 rise:∀k,1<=k->k<=N.length->Y4 (some (L k)) (gt b (P k))=true
 strict:∀i j,i < j->j<=N.length->P i=P j->L i < L j
theorem C8q {a b c:Option Int} (h:Y4 a c=true) (z:leO b c):Y4 a b=true:=by
 rcases B3y (a:=a) (b:=b) with q | q
 ·exact q
 ·exact absurd (A16 q z) (B3x h)
section
variable {m:Nat} {ws:List Wy} {st:Int} {b:Tb}
theorem B97 (ok:O9 m ws) (h0:0<=st) (hb:K8 m st b):∀{r:Rw} {rs:List Rw},Rows m ws st b (r::rs)->∀p,((rs=[]/\∃l,gt b p=some l)\/(∃n,gt r.2 p=some n))->
  ∃N P L,wlk ws (r::rs) p=(P 0,N)/\N.length=rs.length/\P N.length=p/\gt r.1 p=some (L N.length)/\Wk ws st b N P L/\∀k,k<=N.length->leO (some (L k)) (gt r.1 (P k))
 | _,_,.one,p,h=>by
  rcases h with ⟨_,l,hl⟩ | ⟨n,hn⟩
  ·refine⟨[],λ_=>p,λ_=>l,?_,rfl,rfl,hl,⟨λk n e=>by simp at e,hl,λk h1 h2=>?_,λi j h1 h2=>?_⟩,λk _=>by show leO (some l) (gt b p);rw[hl];exact A44 _⟩
   ·unfold wlk
    rw[B0s]
    rfl
   ·simp at h2;lia
   ·simp at h2;lia
  ·rw[B0s] at hn;cases hn
 | _,_,.more (r:=r) (rs:=rs) h c,p,hp=>by
  obtain⟨a1,_,a3⟩:=h.ok ok h0 hb
  have I:=A1f (st:=st) (t:=r.1) ok a1.len
  have hp':∃n,gt (P9 m ws st r.1 r.1).2 p=some n:=by
   rcases hp with ⟨z,_⟩ | z
   ·cases z
   ·exact z
  obtain⟨n,hn⟩:=hp'
  obtain⟨w,hw,e1,e2,e3⟩:=I.yes p n hn
  obtain⟨l,hl⟩:∃l,O8 st r.1 w=some l:=by
   cases q:O8 st r.1 w with
   | none=>rw[q] at e3;cases e3
   | some l=>exact⟨l,rfl⟩
  obtain⟨l',hl',hs⟩:∃l',gt r.1 w.1=some l'/\N7 st l' w.2.2=some l:=by
   have hl2:=hl
   unfold O8 at hl2
   split at hl2
   ·cases hl2
   ·rename_i l' e;exact⟨l',e,hl2⟩
  rw[hl] at e2 e3
  have hq:(rs=[]/\∃l,gt b w.1=some l)\/(∃n,gt r.2 w.1=some n):=by
   cases h with
   | one=>exact .inl ⟨rfl,l',hl'⟩
   | @more r0 rs0 h' c'=>
    obtain⟨b1,_,_⟩:=h'.ok ok h0 hb
    have I0:=A1f (st:=st) (t:=r0.1) ok b1.len
    cases e:gt (P9 m ws st r0.1 r0.1).2 w.1 with
    | some n'=>exact .inr ⟨n',rfl⟩
    | none=>
     have e4:=I0.no w.1 e
     have e5:O8 st r0.1 w=some l:=by
      unfold O8
      rw[<-e4,hl']
      exact hs
     have:=B91 (st:=st) (t:=r0.1) (s:=r0.1) ok b1.len (X1 hw)
     rw[e5,e1] at this
     exact absurd this (B3x e3)
  obtain⟨N,P,L,f1,f2,f3,f4,W,f6⟩:=B97 ok h0 hb h w.1 hq
  have eL:L N.length=l':=by rw[hl'] at f4;exact (Option.some.inj f4).symm
  let P':Nat->Nat:=λk=>if k<=N.length then P k else p
  let L':Nat->Int:=λk=>if k<=N.length then L k else l
  have p1:∀k,k<=N.length->P' k=P k:=λk hk=>if_pos hk
  have p2:∀k,¬ k<=N.length->P' k=p:=λk hk=>if_neg hk
  have l1:∀k,k<=N.length->L' k=L k:=λk hk=>if_pos hk
  have l2:∀k,¬ k<=N.length->L' k=l:=λk hk=>if_neg hk
  have hlen:(N++[n]).length=N.length + 1:=by simp
  refine⟨N++[n],P',L',?_,by rw[hlen,f2];rfl,by rw[hlen];exact p2 _ (by lia),by rw[hlen,l2 _ (by lia)];exact e2,⟨λk n' e=>?_,by rw[p1 0 (P0 _),l1 0 (P0 _)];exact W.beg,λk k1 k2=>?_,λi j hij hj hp=>?_⟩,λk hk=>?_⟩
  ·show (match gt (P9 m ws st r.1 r.1).2 p with
    | none=>wlk ws (r::rs) p
    | some n=>((wlk ws (r::rs) (Y5 ws n)).1,(wlk ws (r::rs) (Y5 ws n)).2++[n]))=_
   rw[hn]
   have:Y5 ws n=w.1:=by unfold Y5;rw[hw]
   show ((wlk ws (r::rs) (Y5 ws n)).1,(wlk ws (r::rs) (Y5 ws n)).2++[n])=_
   rw[this,f1,p1 0 (P0 _)]
  ·by_cases hk:k < N.length
   ·rw[A5w hk] at e
    rw[p1 k (by lia),p1 (k + 1) (by lia),l1 k (by lia),l1 (k + 1) (by lia)]
    exact W.way k n' e
   ·rw[A7q (by lia)] at e
    have hk':k=N.length:=by
     match q:k - N.length with
     | 0=>lia
     | z + 1=>rw[q] at e;simp at e
    subst hk'
    rw[Nat.sub_self] at e
    cases e
    refine⟨w,hw,?_,?_,?_⟩
    ·rw[p1 _ (F7 _),f3]
    ·rw[p2 _ (by lia),e1]
    ·rw[l1 _ (F7 _),l2 _ (by lia),eL];exact hs
  ·by_cases hk:k<=N.length
   ·rw[p1 k hk,l1 k hk];exact W.rise k k1 hk
   ·rw[p2 k hk,l2 k hk];exact C8q e3 (a3 p)
  ·by_cases hk:j<=N.length
   ·rw[l1 i (by lia),l1 j hk]
    rw[p1 i (by lia),p1 j hk] at hp
    exact W.strict i j hij hk hp
   ·rw[hlen] at hj
    rw[p1 i (by lia),p2 j hk] at hp
    rw[l1 i (by lia),l2 j hk]
    have z:=f6 i (by lia)
    rw[hp] at z
    cases q:gt r.1 p with
    | none=>rw[q] at z;exact absurd z A3b
    | some y=>
     rw[q] at z e3
     have z1:=Z6.mp z
     have z2:y < l:=of_decide_eq_true e3
     lia
  ·by_cases hk':k<=N.length
   ·rw[p1 k hk',l1 k hk'];exact A16 (f6 k hk') (I.up _)
   ·rw[p2 k hk',l2 k hk',e2];exact A44 _
end
def seg (N:List Nat) (i j:Nat):List Nat:=(N.drop i).take (j - i)
def chs (ws:List Wy) (ns:List Nat):List Int:=ns.map (A0f ws)
theorem A66 (N:List Nat) (i:Nat):seg N i i=[]:=by unfold seg;rw[Nat.sub_self];rfl
theorem B32 {N:List Nat} {i j:Nat} (h:i<=j) (h2:j < N.length):seg N i (j + 1)=seg N i j++[N[j]]:=by
 unfold seg
 have e:j + 1 - i=j - i + 1:=by lia
 rw[e,A54,List.getElem?_drop,show i + (j - i)=j by lia,P5 h2]
 rfl
theorem B0u {N:List Nat} {i j:Nat} (h:j<=N.length):(seg N i j).length=j - i:=by
 unfold seg
 rw[Z0,B6z]
 lia
theorem B98 (st:Int) (o:Option Int) (xs ys:List Int):wkF st o (xs++ys)=wkF st (wkF st o xs) ys:=by unfold wkF;rw[List.foldl_append]
section
variable {ws:List Wy} {st:Int} {b:Tb} {N:List Nat} {P:Nat->Nat} {L:Nat->Int}
theorem Wk.ch (W:Wk ws st b N P L) {k:Nat} (h:k < N.length):N7 st (L k) (A0f ws N[k])=some (L (k + 1)):=by
 obtain⟨w,hw,_,_,e⟩:=W.way k N[k] (P5 h)
 unfold A0f
 rw[hw]
 exact e
theorem Wk.seg (W:Wk ws st b N P L) {i:Nat}:∀{j:Nat},i<=j->j<=N.length->wkF st (some (L i)) (chs ws (My.seg N i j))=some (L j)
 | 0,h1,_=>by
  have:i=0:=by lia
  subst this
  rw[A66];rfl
 | j + 1,h1,h2=>by
  by_cases e:i=j + 1
  ·subst e
   rw[A66];rfl
  ·rw[B32 (by lia) (by lia)]
   unfold chs
   rw[V3,B98]
   have:=W.seg (i:=i) (j:=j) (by lia) (by lia)
   unfold chs at this
   rw[this]
   exact W.ch (by lia)
theorem Wk.bd (W:Wk ws st b N P L) (h0:0<=st) {m:Nat} (hb:K8 m st b):∀k,k<=N.length->0<=L k/\L k<=st
 | 0,_=>hb.bd _ _ W.beg
 | k + 1,h=>B3z h0 (W.ch (k:=k) (by lia))
theorem Wk.pl (W:Wk ws st b N P L) {m:Nat} (ok:O9 m ws) (hb:K8 m st b):∀k,k<=N.length->P k < m
 | 0,_=>by
  by_cases h:P 0 < m
  ·exact h
  ·have:=W.beg
   rw[B30 (by rw[hb.len];lia)] at this
   cases this
 | k + 1,h=>by
  obtain⟨w,hw,_,e,_⟩:=W.way k N[k] (P5 (by lia))
  rw[<-e]
  exact ok.en w (X1 hw)
theorem Wk.lid (W:Wk ws st b N P L) {T:Tb} (c:A45 ws st T) {i:Nat} {x:Int} (hx:leO (some x) (gt T (P i))):∀{j:Nat} {y:Int},i<=j->j<=N.length->wkF st (some x) (chs ws (My.seg N i j))=some y->leO (some y) (gt T (P j))
 | 0,y,h1,_,e=>by
  have:i=0:=by lia
  subst this
  rw[A66] at e
  cases e
  exact hx
 | j + 1,y,h1,h2,e=>by
  by_cases q:i=j + 1
  ·subst q
   rw[A66] at e
   cases e
   exact hx
  ·rw[B32 (by lia) (by lia)] at e
   unfold chs at e
   rw[V3,B98] at e
   obtain⟨w,hw,e1,e2,_⟩:=W.way j N[j] (P5 (by lia))
   cases z:wkF st (some x) ((My.seg N i j).map (A0f ws)) with
   | none=>rw[z] at e;cases e
   | some v=>
    rw[z] at e
    have e':N7 st v (A0f ws N[j])=some y:=e
    have ih:=W.lid c hx (j:=j) (y:=v) (by lia) (by lia) z
    have hc:A0f ws N[j]=w.2.2:=by unfold A0f;rw[hw]
    cases g:gt T (P j) with
    | none=>rw[g] at ih;exact absurd ih A3b
    | some u=>
     rw[g] at ih
     have s1:=B9x (st:=st) (c:=w.2.2) (Z6.mp ih)
     rw[<-hc,e',hc] at s1
     have s2:=c w (X1 hw)
     unfold O8 at s2
     rw[e1,g,e2] at s2
     exact A16 s1 s2
end
def O7 (st lv:Int):List Int->List Int
 | []=>[lv]
 | c::cs=>match N7 st lv c with
  | none=>[lv]
  | some x=>lv::O7 st x cs
theorem C8r {st lv c:Int} {cs:List Int} (h:N7 st lv c=none):O7 st lv (c::cs)=[lv]:=by rw[O7,h]
theorem C8s {st lv c x:Int} {cs:List Int} (h:N7 st lv c=some x):O7 st lv (c::cs)=lv::O7 st x cs:=by rw[O7,h]
theorem B33 {st:Int}:∀{cs:List Int} {x y:Int},wkF st (some x) cs=some y->∀k,k<=cs.length->∃z,(O7 st x cs)[k]?=some z/\wkF st (some x) (cs.take k)=some z
 | [],x,y,_,k,hk=>by
  have:k=0:=by simpa using hk
  subst this
  exact⟨x,rfl,rfl⟩
 | c::cs,x,y,h,k,hk=>by
  cases e:N7 st x c with
  | none=>
   have h':wkF st (N7 st x c) cs=some y:=h
   rw[e,B0t] at h'
   cases h'
  | some x1=>
   have h':wkF st (N7 st x c) cs=some y:=h
   rw[e] at h'
   unfold O7
   rw[e]
   cases k with
   | zero=>exact⟨x,rfl,rfl⟩
   | succ k=>
    obtain⟨z,z1,z2⟩:=B33 h' k (by simpa using hk)
    refine⟨z,z1,?_⟩
    show wkF st (N7 st x c) (cs.take k)=some z
    rw[e];exact z2
theorem B34 {st:Int}:∀{cs:List Int} {x y:Int},wkF st (some x) cs=some y->(O7 st x cs).length=cs.length + 1
 | [],_,_,_=>rfl
 | c::cs,x,y,h=>by
  have h':wkF st (N7 st x c) cs=some y:=h
  cases e:N7 st x c with
  | none=>rw[e,B0t] at h';cases h'
  | some x1=>
   rw[e] at h'
   unfold O7
   rw[e,G3,G3,B34 h']
theorem B99 {st:Int}:∀{cs:List Int} {x y:Int},wkF st (some x) cs=some y->y=x + cs.sum\/st∈O7 st x cs
 | [],x,y,h=>by
  cases h
  exact .inl (by simp)
 | c::cs,x,y,h=>by
  have h':wkF st (N7 st x c) cs=some y:=h
  cases e:N7 st x c with
  | none=>rw[e,B0t] at h';cases h'
  | some x1=>
   rw[e] at h'
   have hd:(O7 st x1 cs).head?=some x1:=by
    cases cs with
    | nil=>rfl
    | cons d ds=>
     unfold O7
     cases N7 st x1 d <;> rfl
   by_cases q:x1=st
   ·refine .inr ?_
    unfold O7
    rw[e]
    refine C8 _ ?_
    have hm:=List.mem_of_head? hd
    have e3:(st∈O7 st x1 cs)=(x1∈O7 st x1 cs):=congrArg (·∈O7 st x1 cs) q.symm
    rw[e3]
    exact hm
   ·have e1:x1=x + c:=by
     unfold N7 at e
     split at e
     ·cases e
     ·have e2:=Option.some.inj e
      split at e2
      ·exact absurd e2.symm q
      ·exact e2.symm
    rcases B99 h' with z | z
    ·refine .inl ?_
     rw[z,e1,List.sum_cons];lia
    ·refine .inr ?_
     unfold O7
     rw[e]
     exact C8 _ z
structure Rnd (st:Int) (cs:List Int) (x:Int) (le g tp:Int) (k:Nat):Prop where
 fx:fxF st cs=some (le,g,tp)
 g0:0 < g
 gs:g=cs.sum
 xt:x < tp
 tst:tp<=st
 kl:k<=cs.length
 ki:(O7 st tp cs).idxOf st=k
 km:st∈O7 st tp cs
 kw:wkF st (some tp) (cs.take k)=some st
 ll:(O7 st tp cs).length=cs.length + 1
theorem C8t {st:Int} {cs:List Int} {x y:Int} (h0:0<=x) (h1:x<=st) (w:wkF st (some x) cs=some y) (hy:x < y):∃le g tp k,Rnd st cs x le g tp k/\le<=x:=by
 have hp:=B31 h0 h1 cs
 rw[w] at hp
 have hok:=C8m (by lia) cs (st:=st)
 cases e:fxF st cs with
 | none=>rw[e] at hp;cases hp
 | some r=>
  obtain⟨le,g,tp⟩:=r
  rw[e] at hp hok
  have gs:=C8p e
  obtain⟨o1,o2,o3,o4,o5,o6⟩:=hok
  simp only at o1 o2 o3 o4 o5 o6 gs
  unfold N4 at hp
  dsimp only at hp
  split at hp
  ·cases hp
  ·rename_i hle
   have hy2:=Option.some.inj hp
   have g0:0 < g:=by split at hy2 <;> lia
   have xt:x < tp:=by split at hy2 <;> lia
   have wt:=B31 (st:=st) (x:=tp) o3 o4 cs
   rw[e] at wt
   unfold N4 at wt
   dsimp only at wt
   rw[if_neg (by lia),if_pos (by lia)] at wt
   have km:st∈O7 st tp cs:=by
    rcases B99 wt.symm with z | z
    ·lia
    ·exact z
   have hlt:=B2e.mpr km
   have ll:=B34 wt.symm
   rw[ll] at hlt
   obtain⟨z,z1,z2⟩:=B33 wt.symm ((O7 st tp cs).idxOf st) (by lia)
   have ez:z=st:=by
    have hl2:=B2e.mpr km
    rw[P5 hl2,C3x hl2] at z1
    exact (Option.some.inj z1).symm
   subst ez
   exact⟨le,g,tp,_,⟨e,g0,gs,xt,o4,by lia,rfl,km,z2,ll⟩,by lia⟩
section
variable {m:Nat} {ws:List Wy} {st:Int} {b:Tb} {N:List Nat} {P:Nat->Nat} {L:Nat->Int}
theorem C0a {N:List Nat} {i j k:Nat} (h:k<=j - i):(seg N i j).take k=seg N i (i + k):=by
 unfold seg
 rw[List.take_take,show min k (j - i)=k by lia,show i + k - i=k by lia]
theorem C8u (W:Wk ws st b N P L) {i j:Nat} (hij:i < j) (hj:j<=N.length) (hp:P i=P j) {le g tp:Int} {k:Nat} (hle:le<=L i) (R:Rnd st (chs ws (seg N i j)) (L i) le g tp k) {T:Tb} (hT:K8 m st T) (hb:leT b T) (c:A45 ws st T) :
  leO (some st) (gt T (P (i + k))):=by
 have kl:k<=j - i:=by
  have:=R.kl
  unfold chs at this
  rw[D6,B0u hj] at this
  exact this
 have h0:leO (some (L 0)) (gt T (P 0)):=by rw[<-W.beg];exact hb _
 have hi:=W.lid c h0 (j:=i) (P0 _) (by lia) (W.seg (P0 _) (by lia))
 cases q:gt T (P i) with
 | none=>rw[q] at hi;exact absurd hi A3b
 | some z=>
  rw[q] at hi
  have hz:=Z6.mp hi
  obtain⟨z0,z1⟩:=hT.bd _ _ q
  have wz:=B31 z0 z1 (chs ws (seg N i j))
  rw[R.fx] at wz
  unfold N4 at wz
  dsimp only at wz
  rw[if_neg (by lia)] at wz
  have hr:=W.lid c (x:=z) (by rw[q];exact A44 _) (j:=j) (by lia) hj wz.symm
  rw[<-hp,q] at hr
  have hr':=Z6.mp hr
  have:=R.g0
  have htz:tp<=z:=by split at hr' <;> lia
  have ht:leO (some tp) (gt T (P i)):=by rw[q];exact Z6.mpr htz
  refine W.lid c ht (j:=i + k) (by lia) (by lia) ?_
  have kw:=R.kw
  unfold chs at kw ⊢
  rw[<-A2l,C0a kl] at kw
  exact kw
theorem C8v (W:Wk ws st b N P L) (h0:0<=st) (hb:K8 m st b) {i j k:Nat} (hij:i < j) (hj:j<=N.length) (hp:P i=P j) (hk:i + k<=j):gt b (P (i + k))≠some st:=λe=>by
 have key:∀q,1<=q->q<=N.length->gt b (P q)≠some st:=λq h1 h2 e=>by
  have r:=W.rise q h1 h2
  rw[e] at r
  have:=of_decide_eq_true r
  have:=(W.bd h0 hb q h2).2
  lia
 by_cases hk0:i + k=0
 ·rw[hk0] at e
  have:i=0:=by lia
  rw[this] at hp
  rw[hp] at e
  exact key j (by lia) hj e
 ·exact key (i + k) (by lia) (by lia) e
theorem U3.fill (hb:K8 m st b) {p:Nat} (hp:p < m) {t:Tb} (h:U3 m ws st (b.set p (some st)) t) (hl:∀T,K8 m st T->leT b T->A45 ws st T->leO (some st) (gt T p)):U3 m ws st b t:=by
 have g:∀j,gt (b.set p (some st)) j=if p=j then some st else gt b j:=λj=>B0r (by rw[hb.len];exact hp)
 refine⟨h.tab,λq=>A16 ?_ (h.up q),h.cl,λT hT h1 h2=>h.le T hT (λq=>?_) h2⟩
 ·rw[g]
  by_cases e:p=q
  ·rw[if_pos e]
   cases z:gt b q with
   | none=>rfl
   | some x=>exact Z6.mpr (hb.bd _ _ z).2
  ·rw[if_neg e];exact A44 _
 ·rw[g]
  by_cases e:p=q
  ·rw[if_pos e,<-e];exact hl T hT h1 h2
  ·rw[if_neg e];exact h1 q
theorem C8w (h0:0<=st) (hb:K8 m st b) {p:Nat} (hp:p < m):K8 m st (b.set p (some st)):=by
 refine⟨by rw[X2];exact hb.len,λq x h=>?_⟩
 rw[B0r (by rw[hb.len];exact hp)] at h
 by_cases e:p=q
 ·rw[if_pos e] at h;cases h;exact⟨h0,A51 _⟩
 ·rw[if_neg e] at h;exact hb.bd q x h
end
def A46 (st:Int) (b:Tb):Nat:=b.countP λx=>!(x == some st)
theorem C0b (st:Int):∀(b:Tb) (p:Nat),p < b.length->gt b p≠some st->A46 st (b.set p (some st)) < A46 st b
 | [],_,h,_=>by simp at h
 | x::b,0,_,h=>by
  have hx:x≠some st:=h
  show List.countP _ (some st::b) < List.countP _ (x::b)
  rw[List.countP_cons_of_neg (by simp),List.countP_cons_of_pos (by simp [hx])]
  lia
 | x::b,p + 1,h1,h2=>by
  have ih:=C0b st b p (by simpa using h1) h2
  show List.countP _ (x::b.set p (some st)) < List.countP _ (x::b)
  unfold A46 at ih
  rw[List.countP_cons,List.countP_cons]
  lia
theorem B35:∀(m:Nat) (l:List Nat),l.Nodup->(∀x∈l,x < m)->l.length<=m
 | 0,l,_,h=>by
  cases l with
  | nil=>exact F7 _
  | cons x r=>exact absurd (h x D4) (by lia)
 | m + 1,l,nd,h=>by
  by_cases c:m∈l
  ·have h1:=B35 m (l.erase m) (nd.erase m) λx hx=>by
    have h2:=h x (List.mem_of_mem_erase hx)
    have h3:x≠m:=λe=>by
     subst e
     exact absurd hx (nd.not_mem_erase)
    lia
   rw[List.length_erase_of_mem c] at h1
   lia
  ·have:=B35 m l nd λx hx=>by
    have h2:=h x hx
    have h3:x≠m:=λe=>c (e▸hx)
    lia
   lia
abbrev Sp2:=Nat×Int
section
variable {m:Nat} {ws:List Wy} {st:Int} {b g:Sp2}
end
section
variable {ws:List Wy} {row:List Nat} {cs:List Int} {st sc gv x y:Int} {p0:Nat}
end
section
variable {m:Nat} {row:List Nat} {cs:List Int} {sc gv:Int} {B S ws:List Wy}
end
section
variable {m:Nat} {ws:List Wy} {row:List Nat} {cs:List Int} {sc gv st x y:Int} {p0 pl:Nat}
end
section
variable {m:Nat} {ws:List Wy} {st:Int}
end
section
variable {m:Nat} {st:Int}
end
end My
namespace L2
open PySem PySem.Spec PyProof.Rows
end L2
namespace My
open PySem L2
section
variable {X:Cx} {C:DC}
variable {st:Stmt} {te:DE}
end
section
variable {X:Cx} {C:DC} {st:Stmt} {te:DE} {tg e:Expr} {u:DF}
end
section
variable {C:DC}
def A3d (ds:List PyData) (Q:PyData->Prop):Prop:=match ds with
 | [.list xs]=>bnd (A1e xs) λns=>ns≠[]/\∀M,B82 ns M->Q (.int M)
 | _=>False
theorem C0c {K:A4}:A13 C (B83 K) A3d:=by
 intro ρ σ P col H vs ds Qd Q r t g k
 unfold A3d at g
 split at g
 ·rename_i xs
  cases hn:A1e xs with
  | none=>rw[hn] at g;exact g.elim
  | some ns=>
   rw[hn] at g
   obtain⟨g1,g2⟩:=g
   obtain⟨v,rfl,t1⟩:=A4i t
   cases t1 with
   | lst _ e t2=>
    have z:=B3u t2 hn
    subst z
    exact⟨_,ns,rfl,SqL.of e,g1,λM hM=>k _ _ _ ⟨col,r.push (.int M)⟩ (g2 M hM)⟩
 ·exact g.elim
section
variable {X:Cx} {st:Stmt} {ta:DF}
variable {a b:Expr} {te:DE} {pos:Pos}
end
end
section
variable {X:Cx} {C:DC} {st:Stmt} {te:DE}
end
section
variable {C:DC}
end
section
variable {X:Cx} {C:DC}
end
section
variable {C:DC}
end
section
variable {X:Cx} {C:DC} {st:Stmt} {te:DE}
end
section
variable {C:DC}
end
section
variable {C:DC} {col col2:Addr->Nat} {ρ:List Sl} {σ:St} {P:List Pe} {H H2:Hp} {i:Nat} {ds:List PyData} {a:Addr} {vs:List V}
variable {X:Cx} {e:Expr}
end
end My
namespace L2
open PySem PySem.Spec PyProof.Rows
section
variable {κ:Type} [DecidableEq κ]
def Z8 (kvs:List (κ×V)) (k:κ):Option V:=(kvs.find? λkv=>decide (kv.1=k)).map (·.2)
def U5 (kvs:List (κ×V)) (k:κ) (v:V):List (κ×V):=
 if (kvs.any λkv=>decide (kv.1=k))=true then kvs.map (λkv=>if kv.1=k then (kv.1,v) else kv) else kvs++[(k,v)]
def A18 (kvs:List (κ×V)) (k:κ):List (κ×V):=kvs.filter λkv=>decide (kv.1≠k)
theorem B0v {p:κ×V} {r:List (κ×V)} {k:κ} (e:p.1=k):Z8 (p::r) k=some p.2:=by simp [Z8,A7x,e]
theorem B0w {p:κ×V} {r:List (κ×V)} {k:κ} (e:¬ p.1=k):Z8 (p::r) k=Z8 r k:=by simp [Z8,A7x,e]
theorem C0d (k:κ):∀kvs:List (κ×V),(kvs.any λkv=>decide (kv.1=k))=(Z8 kvs k).isSome
 | []=>rfl
 | p::r=>by
  rw[A5z]
  by_cases e:p.1=k
  ·simp only[B0v e,decide_eq_true e,Bool.true_or,Option.isSome_some]
  ·rw[B0w e,decide_eq_false e,Bool.false_or];exact C0d k r
theorem C0e (kvs:List (κ×V)) (k:κ) (v:V):(U5 kvs k v).length<=kvs.length + 1:=by
 unfold U5
 split
 ·rw[D6];lia
 ·rw[Q1,G3,A2m];lia
theorem U9.isSome_eq {o:Option V} {u:Option Value} (r:U9 o u):o.isSome=u.isSome:=by
 cases o with
 | none=>cases u with
  | none=>rfl
  | some _=>exact (show False from r).elim
 | some _=>cases u with
  | none=>exact (show False from r).elim
  | some _=>rfl
theorem KV.val {kvs:List (κ×V)} {vs:List (κ×Value)} (r:KV kvs vs) (k:κ):U9 (Z8 kvs k) (valueAt vs k):=by
 unfold KV at r
 induction r with
 | nil=>exact True.intro
 | @cons p q ps qs h t ih=>
  obtain⟨h1,h2⟩:=h
  by_cases e:p.1=k
  ·have e':q.1=k:=h1.symm.trans e
   have b:valueAt (q::qs) k=some q.2:=by simp [valueAt,A7x,e']
   rw[B0v e,b];exact h2
  ·have e':¬ q.1=k:=λz=>e (h1.trans z)
   have b:valueAt (q::qs) k=valueAt qs k:=by simp [valueAt,A7x,e']
   rw[B0w e,b];exact ih
theorem KV.any {kvs:List (κ×V)} {vs:List (κ×Value)} (r:KV kvs vs) (k:κ):(kvs.any λkv=>decide (kv.1=k))=vs.any λkv=>decide (kv.1=k):=by
 unfold KV at r
 induction r with
 | nil=>rfl
 | cons h t ih=>rw[A5z,A5z,ih,h.1]
theorem KV.repl {kvs:List (κ×V)} {vs:List (κ×Value)} (r:KV kvs vs) (k:κ) {y:V} {u:Value} (ry:C9 y u) :
  KV (kvs.map λkv=>if kv.1=k then (kv.1,y) else kv) (vs.map λkv=>if kv.1=k then (kv.1,u) else kv):=by
 unfold KV at r ⊢
 induction r with
 | nil=>exact .nil
 | @cons p q ps qs h t ih=>
  rw[P2,P2]
  refine .cons ?_ ih
  obtain⟨h1,h2⟩:=h
  by_cases e:p.1=k
  ·rw[if_pos e,if_pos (h1.symm.trans e)];exact⟨h1,ry⟩
  ·rw[if_neg e,if_neg (λz=>e (h1.trans z))];exact⟨h1,h2⟩
theorem KV.put {kvs:List (κ×V)} {vs:List (κ×Value)} (r:KV kvs vs) (k:κ) {y:V} {u:Value} (ry:C9 y u):KV (U5 kvs k y) (stored vs k u):=by
 unfold U5 stored
 rw[r.any k]
 by_cases e:(vs.any λkv=>decide (kv.1=k))=true
 ·rw[if_pos e,if_pos e];exact r.repl k ry
 ·rw[if_neg e,if_neg e];exact Paired.snoc r ⟨rfl,ry⟩
theorem KV.drop {kvs:List (κ×V)} {vs:List (κ×Value)} (r:KV kvs vs) (k:κ):KV (A18 kvs k) (without vs k):=by
 unfold KV at r ⊢
 unfold A18 without
 induction r with
 | nil=>exact .nil
 | @cons p q ps qs h t ih=>
  obtain⟨h1,h2⟩:=h
  rw[List.filter_cons,List.filter_cons]
  by_cases e:p.1=k
  ·have a:¬ decide (p.1≠k)=true:=by simp [e]
   have b:¬ decide (q.1≠k)=true:=by simp [h1.symm.trans e]
   rw[if_neg a,if_neg b];exact ih
  ·have e':¬ q.1=k:=λz=>e (h1.trans z)
   have a:decide (p.1≠k)=true:=by simp [e]
   have b:decide (q.1≠k)=true:=by simp [e']
   rw[if_pos a,if_pos b];exact .cons ⟨h1,h2⟩ ih
theorem KV.length {kvs:List (κ×V)} {vs:List (κ×Value)} (r:KV kvs vs):kvs.length=vs.length:=Paired.length r
theorem C8x (kvs:List (κ×V)) (k:κ):(A18 kvs k).length<=kvs.length:=C30 _ _
end
theorem A67 {P:Program} {w:World} {k:Key} {u:Value} (r:C9 (kV k) u):(S1 P w).is k u=true:=by
 cases k with
 | inl i=>obtain⟨t,e⟩:=(show ∃t,u=Value.int i t from r);subst e;exact C4c P w i t
 | inr x=>obtain⟨t,e⟩:=(show ∃t,u=Value.str x t from r);subst e;exact C4d P w x t
theorem C0f {P:Program} {w:World}:∀{ks:List Key} {us:List Value},C5 (ks.map kV) us->ItemsAre (S1 P w) ks us
 | [],_,r=>by rw[A9j] at r;cases r;exact .nil
 | k::ks,_,r=>by
  rw[P2] at r
  cases r with
  | cons h t=>exact .cons (A67 h) (C0f t)
abbrev KT (H:Hp):List (List Key×V)->List (List Key×Addr×Value)->Prop:=Paired λp q=>p.1=q.1/\H q.2.1=some (.tup (p.1.map kV))/\C9 p.2 q.2.2
theorem KT.val {H:Hp} {kvs:List (List Key×V)} {xs:List (List Key×Addr×Value)} (r:KT H kvs xs) (k:List Key):U9 (Z8 kvs k) ((atKey xs k).map (·.2)):=by
 induction r with
 | nil=>exact True.intro
 | @cons p q ps qs h t ih=>
  obtain⟨h1,_,h2⟩:=h
  by_cases e:p.1=k
  ·have e':q.1=k:=h1.symm.trans e
   have b:atKey (q::qs) k=some q.2:=by simp [atKey,A7x,e']
   rw[B0v e,b];exact h2
  ·have e':¬ q.1=k:=λz=>e (h1.trans z)
   have b:atKey (q::qs) k=atKey qs k:=by simp [atKey,A7x,e']
   rw[B0w e,b];exact ih
theorem KT.repl {H:Hp} {kvs:List (List Key×V)} {xs:List (List Key×Addr×Value)} (r:KT H kvs xs) (k:List Key) {y:V} {u:Value} (ry:C9 y u) :
  KT H (kvs.map λkv=>if kv.1=k then (kv.1,y) else kv) (xs.map (putAt k u)):=by
 induction r with
 | nil=>exact .nil
 | @cons p q ps qs h t ih=>
  rw[P2,P2]
  refine .cons ?_ ih
  obtain⟨h1,h2,h3⟩:=h
  unfold putAt
  by_cases e:p.1=k
  ·rw[if_pos e,if_pos (h1.symm.trans e)];exact⟨h1,h2,ry⟩
  ·rw[if_neg e,if_neg (λz=>e (h1.trans z))];exact⟨h1,h2,h3⟩
theorem KT.put {H:Hp} {kvs:List (List Key×V)} {xs:List (List Key×Addr×Value)} (r:KT H kvs xs) (k:List Key) {b:Addr} {y:V} {u:Value} (hb:H b=some (.tup (k.map kV))) (ry:C9 y u) :
  KT H (U5 kvs k y) (storedH xs k b u):=by
 have e:(kvs.any λkv=>decide (kv.1=k))=(atKey xs k).isSome:=by
  rw[C0d,(r.val k).isSome_eq,Option.isSome_map]
 unfold U5 storedH
 rw[e]
 by_cases q:(atKey xs k).isSome=true
 ·rw[if_pos q,if_pos q];exact r.repl k ry
 ·rw[if_neg q,if_neg q];exact Paired.snoc r ⟨rfl,hb,ry⟩
theorem KT.keeps {H H':Hp} {kvs:List (List Key×V)} {xs:List (List Key×Addr×Value)} (r:KT H kvs xs) (ht:∀b ys,H b=some (.tup ys)->H' b=some (.tup ys)):KT H' kvs xs:=
 Paired.mapP r λ_ _ z=>⟨z.1,ht _ _ z.2.1,z.2.2⟩
section
variable {P:Program} {w:World} {H:Hp} {h:Heap} {a:Addr}
theorem C0g {u:HO} (ok:HOk P w H h) (e:Rd H a u):K2 P w H h a u:=e.ok ok
theorem A47 {kvs:List (Key×V)} (ok:HOk P w H h) (e:Rd H a (.dK kvs)):kvs.length<=sizeLine/\(a == sysModules)=false/\∃vs,KV kvs vs/\h.DictOf (S1 P w) a vs:=
 show K2 P w H h a (.dK kvs) from C0g ok e
theorem B36 {kvs:List (Key×V)} (ok:HOk P w H h) (e:H a=some (.dK kvs)):kvs.length<=sizeLine/\(a == sysModules)=false/\∃vs,KV kvs vs/\h.DictOf (S1 P w) a vs:=A47 ok (.inl e)
theorem A8r {ks:List Key} (ok:HOk P w H h) (e:H a=some (.tup (ks.map kV))):(tupleKind (S1 P w)).is h ks a:=by
 obtain⟨_,its,r,o,h1,h2,n,h3⟩:=(show K2 P w H h a (.tup (ks.map kV)) from ok a _ e)
 exact⟨o,its.toArray,n,h1,h2,h3,by simpa using C0f r⟩
theorem A68 {kvs:List (List Key×V)} (ok:HOk P w H h) (e:Rd H a (.dT kvs)):kvs.length<=sizeLine/\(a == sysModules)=false/\
  ∃xs,KT H kvs xs/\h.DictOfH (tupleKind (S1 P w)) a xs:=by
 obtain⟨z,y,xs,r,o,es,ep,h1,h2,h3,h4,h5⟩:=(show K2 P w H h a (.dT kvs) from C0g ok e)
 refine⟨z,y,xs,r,o,es,ep,h1,h2,h3,h4,λx hx=>?_,h5⟩
 have all:∀{l:List (List Key×V)} {m:List (List Key×Addr×Value)},KT H l m->∀x∈m,(tupleKind (S1 P w)).is h x.1 x.2.1:=by
  intro l m q
  induction q with
  | nil=>intro x hx;exact nomatch hx
  | @cons p q ps qs hq t ih=>
   intro x hx
   rcases J8.mp hx with e | hx
   ·subst e
    exact A8r ok (by rw[<-hq.1];exact hq.2.1)
   ·exact ih x hx
 exact all r x hx
theorem C8y {kvs:List (List Key×V)} (ok:HOk P w H h) (e:H a=some (.dT kvs)):kvs.length<=sizeLine/\(a == sysModules)=false/\
  ∃xs,KT H kvs xs/\h.DictOfH (tupleKind (S1 P w)) a xs:=A68 ok (.inl e)
end
def U6 (H:Hp) (a:Addr) (y:V) (r:Option V):Prop:=
 (∃kvs k,Rd H a (.dK kvs)/\y=kV k/\r=Z8 kvs k)\/∃kvs k b,Rd H a (.dT kvs)/\y=.ref b/\H b=some (.tup (k.map kV))/\r=Z8 kvs k
def A48 (H:Hp) (a:Addr) (y v:V) (H':Hp):Prop:=
 (∃kvs k,H a=some (.dK kvs)/\y=kV k/\kvs.length < sizeLine/\H'=upd H a (.dK (U5 kvs k v)))\/
 ∃kvs k b,H a=some (.dT kvs)/\y=.ref b/\H b=some (.tup (k.map kV))/\kvs.length < sizeLine/\H'=upd H a (.dT (U5 kvs k v))
theorem U6.k {H:Hp} {a:Addr} {kvs:List (Key×V)} {k:Key} (e:H a=some (.dK kvs)):U6 H a (kV k) (Z8 kvs k):=.inl ⟨kvs,k,.inl e,rfl,rfl⟩
theorem A48.k {H:Hp} {a:Addr} {kvs:List (Key×V)} {k:Key} {v:V} (e:H a=some (.dK kvs)) (hl:kvs.length < sizeLine):A48 H a (kV k) v (upd H a (.dK (U5 kvs k v))):=.inl ⟨kvs,k,e,rfl,hl,rfl⟩
section
variable {X:Cx} {pins:List (Addr×Obj)} {σ:St} {H:Hp} {s:Shared} {a:Addr} {y v:V} {u r:Value} {o:Option V} {A:Around} {E:Value->Shared->Prop}
theorem Inv.big (I:Inv X pins σ H s):sysModules < s.heap.objs.size:=by
 have h:mainGlobals < s.heap.objs.size:=(I.mod.glob.keeps I.bk).lt
 exact Nat.lt_trans DD h
theorem C8z {Q:Value->Shared->Prop} (hu:A.units + 1 < cLine) (I:Inv X pins σ H s) (g:U6 H a y (some v)) (ry:C9 y u) (h:∀w' s',Inv X pins σ H s'->C9 v w'->Q w' s') :
  wpAny (model X.prog X.w) A (getItem (.ref a) u) Q E s:=by
 rcases g with ⟨kvs,k,e,ey,l⟩ | ⟨kvs,k,b,e,ey,eb,l⟩
 ·subst ey
  obtain⟨z,hd,vs,rel,dd⟩:=A47 I.hok e
  obtain⟨w',hw,rw'⟩:=U9.some_of (v:=v) (o:=valueAt vs k) (by rw[l];exact rel.val k)
  exact wpAny_getItem_of (A67 ry) dd.mapOf hw (h w' _ (I.tok _) rw')
 ·subst ey
  cases (show u=Value.ref b from ry)
  obtain⟨z,hd,xs,rel,dd⟩:=A68 I.hok e
  obtain⟨w',hw,rw'⟩:=U9.some_of (v:=v) (o:=(atKey xs k).map (·.2)) (by rw[l];exact rel.val k)
  obtain⟨p,hp,hp2⟩:=A55.mp hw
  refine wpAny_getItem_heap (tupleKind_room_in1 hu) (A8r I.hok eb) dd hp ?_
  rw[hp2]
  exact h w' _ (I.tok _) rw'
theorem C80 {Q:Value->Shared->Prop} (hu:A.units + 1 < cLine) (I:Inv X pins σ H s) (g:U6 H a y o) (ry:C9 y u) (h:∀s',Inv X pins σ H s'->Q (.bool o.isSome) s') :
  wpAny (model X.prog X.w) A (compareOp .In u (.ref a)) Q E s:=by
 rcases g with ⟨kvs,k,e,ey,l⟩ | ⟨kvs,k,b,e,ey,eb,l⟩
 ·subst ey
  obtain⟨z,hd,vs,rel,dd⟩:=A47 I.hok e
  refine wpAny_in_of (A67 ry) hd dd.mapOf ?_
  rw[<-(rel.val k).isSome_eq,<-l]
  exact h _ (I.tok _)
 ·subst ey
  cases (show u=Value.ref b from ry)
  obtain⟨z,hd,xs,rel,dd⟩:=A68 I.hok e
  refine wpAny_in_heap (tupleKind_room_in1 hu) (A8r I.hok eb) hd dd ?_
  have q:=(rel.val k).isSome_eq
  rw[Option.isSome_map] at q
  rw[<-q,<-l]
  exact h _ (I.tok _)
theorem C81 {Q:Value->Shared->Prop} (hu:A.units + 1 < cLine) (I:Inv X pins σ H s) (g:U6 H a y o) (ry:C9 y u) (h:∀s',Inv X pins σ H s'->Q (.bool (!o.isSome)) s') :
  wpAny (model X.prog X.w) A (compareOp .NotIn u (.ref a)) Q E s:=by
 rcases g with ⟨kvs,k,e,ey,l⟩ | ⟨kvs,k,b,e,ey,eb,l⟩
 ·subst ey
  obtain⟨z,hd,vs,rel,dd⟩:=A47 I.hok e
  refine wpAny_notIn_of (A67 ry) hd dd.mapOf ?_
  rw[<-(rel.val k).isSome_eq,<-l]
  exact h _ (I.tok _)
 ·subst ey
  cases (show u=Value.ref b from ry)
  obtain⟨z,hd,xs,rel,dd⟩:=A68 I.hok e
  refine wpAny_notIn_heap (tupleKind_room_in1 hu) (A8r I.hok eb) hd dd ?_
  have q:=(rel.val k).isSome_eq
  rw[Option.isSome_map] at q
  rw[<-q,<-l]
  exact h _ (I.tok _)
theorem B37 {h':Heap} {t':Nat} {ob:HO} (I:Inv X pins σ H s) (mu:Mut (H a)) (hs:Heap.SameBut a s.heap h') (he:∃q,h'.get? a=some q) (new:K2 X.prog X.w (upd H a ob) h' a ob) :
  Inv X pins σ (upd H a ob) { s with heap:=h',toks:=t' }:=
 I.write (x:=a) (e:=a) mu (.inl rfl) (λb q hb z=>(hs.2 b hb).trans z) he new
theorem C0h {P:Program} {w:World} {H':Hp} {h':Heap} {kvs:List (Key×V)} {vs:List (Key×Value)} (z:kvs.length<=sizeLine) (hd:(a == sysModules)=false) (rel:KV kvs vs) (dd:h'.DictOf (S1 P w) a vs) :
  K2 P w H' h' a (.dK kvs):=⟨z,hd,vs,rel,dd⟩
theorem C82 {H':Hp} {Q:Unit->Shared->Prop} (hu:A.units + 1 < cLine) (I:Inv X pins σ H s) (g:A48 H a y v H') (ry:C9 y u) (rv:C9 v r) (h:∀s',Inv X pins σ H' s'->Q () s') :
  wpAny (model X.prog X.w) A (setItem (.ref a) u r) Q E s:=by
 rcases g with ⟨kvs,k,e,ey,l,eH⟩ | ⟨kvs,k,b,e,ey,eb,l,eH⟩
 ·subst ey eH
  obtain⟨z,hd,vs,rel,dd⟩:=B36 I.hok e
  have hz:vs.length<=sizeLine:=by rw[<-rel.length];exact z
  have hl:(U5 kvs k v).length<=sizeLine:=by have:=C0e kvs k v;lia
  refine wpAny_setItem_pairs (hsz:=hz) (A67 ry) dd λh' dd' hs=>h _ ?_
  have he:∃q,h'.get? a=some q:=let ⟨q,_,_,hq,_⟩:=dd';⟨q,hq⟩
  exact B37 I (by rw[e];exact True.intro) hs he (C0h hl hd (rel.put k rv) dd')
 ·subst ey eH
  cases (show u=Value.ref b from ry)
  obtain⟨z,hd,xs,rel,dd⟩:=C8y I.hok e
  have hz:xs.length<=sizeLine:=by rw[<-Paired.length rel];exact z
  have hl:(U5 kvs k v).length<=sizeLine:=by have:=C0e kvs k v;lia
  refine wpAny_setItem_heap (hsz:=hz) (tupleKind_room_in1 hu) (A8r I.hok eb) dd λh' dd' hs=>h _ ?_
  obtain⟨q,es,ep,hq,h2,h3,h4,_,h5⟩:=dd'
  refine B37 I (by rw[e];exact True.intro) hs ⟨q,hq⟩ ⟨hl,hd,_,(rel.put k eb rv).keeps λc ys ec=>?_,q,es,ep,hq,h2,h3,h4,h5⟩
  rw[B1 (B69 ec e (λz=>nomatch z))]
  exact ec
end
section
variable {X:Cx} {pins:List (Addr×Obj)} {σ:St} {H:Hp} {s:Shared} {a:Addr} {kvs:List (Key×V)} {k:Key} {u:Value} {A:Around} {E:Value->Shared->Prop}
theorem C83 {v:V} {more:List Value} {Q:Value->Shared->Prop} (I:Inv X pins σ H s) (e:H a=some (.dK kvs)) (ry:C9 (kV k) u) (l:Z8 kvs k=some v) (hm:more=[]\/∃x,more=[x])
  (h:∀w' s',Inv X pins σ (upd H a (.dK (A18 kvs k))) s'->C9 v w'->Q w' s'):wpAny (model X.prog X.w) A (call (.builtin "dict.pop") (.ref a::u::more)) Q E s:=by
 obtain⟨z,hd,vs,rel,dd⟩:=B36 I.hok e
 obtain⟨w',hw,rw'⟩:=U9.some_of (v:=v) (o:=valueAt vs k) (by rw[<-l];exact rel.val k)
 have hp:(keyPart u).isSome=true:=by
  cases k with
  | inl i=>obtain⟨t,q⟩:=(show ∃t,u=Value.int i t from ry);subst q;rfl
  | inr x=>obtain⟨t,q⟩:=(show ∃t,u=Value.str x t from ry);subst q;rfl
 have ha:argsOk "dict.pop" ⟨.ref a::u::more,[]⟩:=by
  rcases hm with q | ⟨x,q⟩
  ·subst q;exact PySem.F.args_dict_pop_2 _ _
  ·subst q;exact PySem.F.args_dict_pop_3 _ _ _
 refine call_meetsIn PySem.F.slot_dict_pop dd.typeIs PySem.F.entry_dict_pop ha (meets_dict_pop_there (S1 X.prog X.w) a (A67 ry) more hm hp)
  ⟨vs,w',dd,by rw[<-rel.length];exact z,hw,λh' dd' hs=>h w' _ ?_ rw'⟩
 have he:∃q,h'.get? a=some q:=let ⟨q,_,_,hq,_⟩:=dd';⟨q,hq⟩
 exact B37 I (by rw[e];exact True.intro) hs he (C0h (X0 (C8x kvs k) z) hd (rel.drop k) dd')
theorem C84 {Q:Value->Shared->Prop} (I:Inv X pins σ H s) (e:Rd H a (.dK kvs)) (h:∀t s',Inv X pins σ H s'->Q (.int kvs.length t) s'):wpAny (model X.prog X.w) A (call (.builtin "len") [.ref a]) Q E s:=by
 obtain⟨z,hd,vs,rel,dd⟩:=A47 I.hok e
 refine call_len_dict hd dd (by rw[<-rel.length];rw[sizeLine_eq] at z;lia) ?_
 rw[<-rel.length]
 exact h _ _ (I.tok _)
end
def C0i (i:Expr):Prop:=∀ov iv,subscripted i false ov iv=operate [ov,iv] (getItem ov iv)
theorem C85 {prog:Program} {w:World} {A:Around} {E:Value->Shared->Prop} {s:Shared} {env:Env} {value slice:Expr} {pos:Pos} {T id:String} {Q:Value->Shared->Prop}
  (hl:typeLookup (.type T) "__getitem__" = pure (some (.builtin id))) (hs:C0i slice)
  (h:wpAny (model prog w) A (eval value env) (λo s₁=>wpAny (model prog w) A (eval slice env) (λi s₂=>s₂.TypeIs o T/\wpAny (model prog w) A (getItem o i) Q E s₂) E s₁) E s) :
  wpAny (model prog w) A (eval (.Subscript value slice pos) env) Q E s:=by
 refine Subscript_ (wpAny_mono h (λo s₁ h₁=>wpAny_mono h₁ (λi s₂ h₂=>?_) λ_ _ x=>x) λ_ _ x=>x)
 obtain⟨hT,h₂⟩:=h₂
 unfold subscriptTail
 refine wpAny_bind ?_
 rw[getitemInPython_of_ne hT.not_modules]
 refine wpAny_bind (wpAny_specialOf hT hl ?_)
 have fin:wpAny (model prog w) A (subscripted slice false o i) (λr s₃=>wpAny (model prog w) A (letTemporaryGo value o r >>= λ_=>pure r) Q E s₃) E s₂:=by
  rw[hs o i]
  exact wpAny_operating (wpAny_mono h₂ (λr s₃ h₃=>wpAny_bind (wpAny_letTemporaryGo (wpAny_pure h₃))) λ_ _ x=>x)
 first
  | exact wpAny_pure (wpAny_bind fin)
  | exact wpAny_bind (wpAny_pure (wpAny_bind fin))
  | exact wpAny_bind fin
theorem C86 {X:Cx} {pins:List (Addr×Obj)} {σ:St} {H:Hp} {s:Shared} {a:Addr} {y:V} {o:Option V} (I:Inv X pins σ H s) (g:U6 H a y o):s.TypeIs (.ref a) "dict" :=by
 rcases g with ⟨kvs,k,e,_,_⟩ | ⟨kvs,k,b,e,_,_,_⟩
 ·obtain⟨_,_,vs,_,dd⟩:=A47 I.hok e
  exact dd.typeIs
 ·obtain⟨_,_,xs,_,dd⟩:=A68 I.hok e
  exact dd.typeIs
def C87 (td ty:TE):TE:=fun σ H Q=>td σ H λx H1=>ty σ H1 λy H2=>∃a v,x=.ref a/\U6 H2 a y (some v)/\Q v H2
def C88 (ty td:TE):TE:=fun σ H Q=>ty σ H λy H1=>td σ H1 λx H2=>∃a o,x=.ref a/\U6 H2 a y o/\Q (.bl o.isSome) H2
def C89 (ty td:TE):TE:=fun σ H Q=>ty σ H λy H1=>td σ H1 λx H2=>∃a o,x=.ref a/\U6 H2 a y o/\Q (.bl (!o.isSome)) H2
def C9a (td ty tv:TE):TS:=λD σ H=>tv σ H λv H1=>td σ H1 λx H2=>ty σ H2 λy H3=>∃a H4,x=.ref a/\A48 H3 a y v H4/\D.nx σ H4
section
variable {X:Cx} {o i e value:Expr} {pos pos' tpos:Pos} {td ty tv:TE}
theorem A19 (hu:X.A.units + 1 < cLine) (ho:PE X o td) (hi:PE X i ty) (hs:C0i i):PE X (.Subscript o i pos) (C87 td ty):=by
 intro pins s σ H Q I h
 refine C85 PySem.F.slot_dict_getitem.lookup hs (thn (ho pins s σ H _ I h) λu s1 ⟨x,H1,I1,rx,q1⟩=>thn (hi pins s1 σ H1 _ I1 q1) λiv s2 ⟨y,H2,I2,ry,a,v,ex,g,q2⟩=>?_)
 subst ex
 obtain rfl:u=Value.ref a:=rx
 exact⟨C86 I2 g,C8z hu I2 g ry λw' s3 I3 rw'=>⟨v,H2,I3,rw',q2⟩⟩
theorem C0j (hu:X.A.units + 1 < cLine) (hi:PE X i ty) (ho:PE X o td):PC X .In i o (C88 ty td):=by
 intro pins s σ H Q I h
 refine thn (hi pins s σ H _ I h) λiv s1 ⟨y,H1,I1,ry,q1⟩=>thn (ho pins s1 σ H1 _ I1 q1) λu s2 ⟨x,H2,I2,rx,a,ov,ex,g,q2⟩=>?_
 subst ex
 obtain rfl:u=Value.ref a:=rx
 exact C80 hu I2 g ry λs3 I3=>⟨.bl ov.isSome,H2,I3,rfl,q2⟩
theorem C0k (hu:X.A.units + 1 < cLine) (hi:PE X i ty) (ho:PE X o td):PC X .NotIn i o (C89 ty td):=by
 intro pins s σ H Q I h
 refine thn (hi pins s σ H _ I h) λiv s1 ⟨y,H1,I1,ry,q1⟩=>thn (ho pins s1 σ H1 _ I1 q1) λu s2 ⟨x,H2,I2,rx,a,ov,ex,g,q2⟩=>?_
 subst ex
 obtain rfl:u=Value.ref a:=rx
 exact C81 hu I2 g ry λs3 I3=>⟨.bl (!ov.isSome),H2,I3,rfl,q2⟩
theorem A8s (hu:X.A.units + 1 < cLine) (ho:PE X o td) (hi:PE X i ty) (hv:PE X value tv) (hs:swapsWith value (some (.Subscript o i pos')) pos.line X.env=pure false) :
  PS X (.Assign [.Subscript o i pos'] value pos) (C9a td ty tv):=by
 intro pins s σ H D I h
 refine wpAny_Assign_Subscript (thn (hv pins s σ H _ I h) λr s1 ⟨v,H1,I1,rv,q1⟩=>thn (ho pins s1 σ H1 _ I1 q1) λu s2 ⟨x,H2,I2,rx,q2⟩=>thn (hi pins s2 σ H2 _ I2 q2) λiv s3 ⟨y,H3,I3,ry,a,H4,ex,g,q3⟩=>?_) hs
 subst ex
 obtain rfl:u=Value.ref a:=rx
 exact C82 hu I3 g ry rv λs4 I4=>⟨σ,H4,I4,q3⟩
end
theorem C9b {P:Program} {w:World} {H:Hp} (h:Heap) (hb:sysModules < h.objs.size):K2 P w H (h.push { cls:=.type "dict",data:=.dict #[] }) h.objs.size (.dK []):=
 ⟨P0 _,beq_eq_false_iff_ne.mpr (Ne.symm (N5 hb)),[],.nil,Heap.DictOf.new h⟩
theorem C9c {P:Program} {w:World} {H:Hp} (h:Heap) (hb:sysModules < h.objs.size):K2 P w H (h.push { cls:=.type "dict",data:=.dict #[] }) h.objs.size (.dT []):=
 ⟨P0 _,beq_eq_false_iff_ne.mpr (Ne.symm (N5 hb)),[],.nil,_,#[],0,V8 _ rfl,⟨rfl,rfl,rfl⟩,rfl,rfl,B61⟩
def C9d:TE:=λ_ H Q=>∀p,H p=none->Q (.ref p) (upd H p (.dK []))
def C9e:TE:=λ_ H Q=>∀p,H p=none->Q (.ref p) (upd H p (.dT []))
section
variable {X:Cx} {pos:Pos}
theorem C0l:PE X (.Dict [] [] pos) C9d:=λpins s σ H Q I h=>
 wpAny_Dict_empty ⟨.ref s.heap.objs.size,_,I.laid (a:=s.heap.objs.size) (o:=.dK []) (t':=s.toks) (λ_ _ q=>L6 _ q) (F7 _) (C9b s.heap I.big),rfl,h _ (I.hok.fresh (F7 _))⟩
theorem C9f:PE X (.Dict [] [] pos) C9e:=λpins s σ H Q I h=>
 wpAny_Dict_empty ⟨.ref s.heap.objs.size,_,I.laid (a:=s.heap.objs.size) (o:=.dT []) (t':=s.toks) (λ_ _ q=>L6 _ q) (F7 _) (C9c s.heap I.big),rfl,h _ (I.hok.fresh (F7 _))⟩
end
structure M1 (X:Cx) (o:Expr) (m:Str) (apos:Pos) (e:Expr) (cpos:Pos):Prop where
 base:attributeBase o m X.env (eval o X.env)=eval o X.env
 few:((backTo cpos (starEach [e] X.env)).all (λx=>!x.1)&&(backToKw cpos (keywordEach [] X.env)).all (λx=>x.1.isSome)
  &&decide (([e]:List Expr).length + ([]:List Keyword).length + (if ([]:List Keyword).isEmpty then 0 else 1) < 30))=true
 line:(apos.endLine == cpos.line)=true
 trees:backTo cpos (starEach [e] X.env)=[(false,eval e X.env)]
structure M2 (X:Cx) (o:Expr) (m:Str) (apos:Pos) (e f:Expr) (cpos:Pos):Prop where
 base:attributeBase o m X.env (eval o X.env)=eval o X.env
 few:((backTo cpos (starEach [e,f] X.env)).all (λx=>!x.1)&&(backToKw cpos (keywordEach [] X.env)).all (λx=>x.1.isSome)
  &&decide (([e,f]:List Expr).length + ([]:List Keyword).length + (if ([]:List Keyword).isEmpty then 0 else 1) < 30))=true
 line:(apos.endLine == cpos.line)=true
 trees:backTo cpos (starEach [e,f] X.env)=[(false,eval e X.env),(false,eval f X.env)]
def IsD (H:Hp) (a:Addr):Prop:=(∃kvs,Rd H a (.dK kvs))\/∃kvs,Rd H a (.dT kvs)
theorem C9g {X:Cx} {pins:List (Addr×Obj)} {σ:St} {H:Hp} {s:Shared} {a:Addr} (I:Inv X pins σ H s) (d:IsD H a) :
  s.TypeIs (.ref a) "dict" /\(∀b,Value.ref a=.ref b->∃ob,s.heap.get? b=some ob/\ob.dict=none)/\(a == sysModules)=false:=by
 rcases d with ⟨kvs,e⟩ | ⟨kvs,e⟩
 ·obtain⟨_,hd,vs,_,dd⟩:=A47 I.hok e
  refine⟨dd.typeIs,λb q=>?_,hd⟩
  cases q
  obtain⟨ob,_,_,h1,h2,_⟩:=dd
  exact⟨ob,h1,h2.2.1⟩
 ·obtain⟨_,hd,xs,_,dd⟩:=A68 I.hok e
  refine⟨dd.typeIs,λb q=>?_,hd⟩
  cases q
  obtain⟨ob,_,_,h1,h2,_⟩:=dd
  exact⟨ob,h1,h2.2.1⟩
section
variable {X:Cx} {pins:List (Addr×Obj)} {σ:St} {H:Hp} {s:Shared} {a:Addr} {y d:V} {u r:Value} {o:Option V} {A:Around} {E:Value->Shared->Prop}
end
def C9h (td ty:TE):TE:=fun σ H Q=>td σ H λx H1=>∃a,x=.ref a/\IsD H1 a/\ty σ H1 λy H2=>∃kvs k v,H2 a=some (.dK kvs)/\y=kV k/\Z8 kvs k=some v/\Q v (upd H2 a (.dK (A18 kvs k)))
section
variable {X:Cx} {o e f:Expr} {apos cpos:Pos} {td ty tx:TE}
theorem C0m (ho:PE X o td) (he:PE X e ty) (m:M1 X o "pop" apos e cpos):PE X (.Call (.Attribute o "pop" apos) [e] [] cpos) (C9h td ty):=by
 intro pins s σ H Q I h
 refine wpAny_Call_method m.base m.few m.line PySem.F.plainAttrs_dict PySem.F.slot_dict_pop PySem.F.type_dict_pop (thn (ho pins s σ H _ I h) λu s1 ⟨x,H1,I1,rx,a,ex,d,q1⟩=>?_)
 subst ex
 obtain rfl:u=Value.ref a:=rx
 obtain⟨t1,t2,_⟩:=C9g I1 d
 refine⟨t1,t2,?_⟩
 rw[m.trees]
 refine Calls.callWith_builtin rfl (Calls.evalArgs_plain (Calls.spliced_cons (thn (he pins s1 σ H1 _ I1 q1) λiv s2 ⟨y,H2,I2,ry,kvs,k,v,ea,ey,l,q2⟩=>Calls.spliced_nil ?_)))
 subst ey
 exact C83 I2 ea ry l (.inl rfl) λw' s3 I3 rw'=>⟨v,_,I3,rw',q2⟩
end
section
variable {X:Cx} {pins:List (Addr×Obj)} {σ:St} {H:Hp} {s:Shared} {a:Addr} {kvs:List (Key×V)} {A:Around} {E:Value->Shared->Prop}
end
section
variable {X:Cx} {pins:List (Addr×Obj)} {σ:St} {H:Hp} {s:Shared} {a:Addr} {y:V} {u:Value} {A:Around} {E:Value->Shared->Prop}
end
section
variable {prog:Program} {w:World} {A:Around} {E:Value->Shared->Prop} {s:Shared}
end
end L2
namespace My
open PySem L2
theorem u1 {n:Nat} (h:n + 64 < cLine):n + 1 < cLine:=by lia
section
variable {C:DC} {col:Addr->Nat} {ρ:List Sl} {σ:St} {P:List Pe} {H H':Hp} {p:Addr}
end
open PySem.Spec PyProof.Rows
section
variable {P:Program} {w:World} {K:A4} {mg:Str->Option Value} {base:Heap}
open Classical in
end
section
variable {X:Cx} {C:DC} {st:Stmt} {e a b:Expr} {te tk:DE} {u:DA} {pos:Pos}
end
end My
namespace My
open PySem L2
mutual
def C9i:PyData->List (List PyData)
 | .list ds=>ds::B38 ds
 | .tuple ds=>B38 ds
 | _=>[]
def B38:List PyData->List (List PyData)
 | []=>[]
 | d::ds=>C9i d++B38 ds
end
mutual
def szD:PyData->Nat
 | .list ds=>szL ds + 1
 | .tuple ds=>szL ds + 1
 | _=>1
def szL:List PyData->Nat
 | []=>0
 | d::ds=>szD d + szL ds
end
section
variable {X:Cx} {C:DC} {st:Stmt} {u:DA}
variable {a b:Expr} {tb:DE} {pos:Pos}
variable {a b:Expr} {tb:DE} {pos:Pos}
end
end My
namespace L2
open PySem PySem.Spec PyProof.Rows
end L2
namespace My
open PySem L2
open PySem.Spec PyProof.Rows
section
variable {C:DC} {col:Addr->Nat} {ρ:List Sl} {σ:L2.St} {P:List Pe} {H H':Hp} {p:Addr}
end
section
variable {X:Cx} {C:DC} {st:Stmt} {e:Expr} {te:DE} {u:DA} {pos:Pos}
def A49 (ρ:List Sl) (Q:PyData->List Sl->Prop):Prop:=Q (.dict []) ρ
theorem C9j:PE X (.Dict [] [] pos) (eOf C A49):=PE.wk C9f fun σ H Q z=>el3 z fun ρ P Qd R ht k=>R.elim λcol r=>λp hp=>k _ _ _ _ ⟨col,(r.lay hp).push (.dic (r.fresh p hp) B2 .t)⟩ ht
end
end My
namespace My
open PySem L2
section
variable {X:Cx} {C:DC} {st:Stmt} {e:Expr} {ta:DE}
abbrev C9k (K:A4):List V->Hp->VK->Prop:=λxs H Q=>∃p ys,xs=[.ref p]/\((SqL K H p ys/\∀l,H l=none->Q (.ref l) (upd H l (.tup ys)))\/(SqT K H p ys/\Q (.ref p) H))
def A5a (i:Nat)  (ρ:List Sl) (Q:PyData->List Sl->Prop):Prop:=bnd (T8 ρ i) λa=>bnd (R7 a) λds=>Q (.tuple ds) ρ
theorem C9l {i:Nat} {K:A4} (h:PE X e (tCB (C9k K) (D9 (G0 i) G7))):PE X e (eOf C (A5a i)):=PE.wk h λ_ _ _ zz16=>el3 zz16 fun ρ P _ zz17 ht k=>zz17.elim λcol r=>by
 obtain⟨a,ha,ht⟩:=N3 ht
 obtain⟨ds,hn,q⟩:=N3 ht
 obtain⟨v,ev,t⟩:=r.slot ha
 have:=A25 hn
 subst this
 cases t with
 | th t=>
  cases t with
  | lst za e t=>exact⟨_,ev,_,_,rfl,.inl ⟨SqL.of e,λl hl=>k _ _ _ _ ⟨col,r.tup t hl⟩ q⟩⟩
 | ls e t=>exact⟨_,ev,_,_,rfl,.inl ⟨SqL.of e,λl hl=>k _ _ _ _ ⟨col,r.tup t hl⟩ q⟩⟩
end
end My
namespace My
abbrev Ct:=List (List (Option Int))
abbrev Spt:=Nat×Nat
def ca (t:Ct) (s:Spt):Option Int:=gt (t.getD s.1 []) s.2
open PySem L2
end My
namespace L2
open PySem PySem.Spec PyProof.Rows
section
variable {X:Cx}
end
end L2
namespace My
open PySem L2
section
variable {C:DC}
end
end My
namespace L2
open PySem PySem.Spec PyProof.Rows
section
variable {X:Cx} {pins:List (Addr×Obj)} {σ:St} {H:Hp} {s:Shared}
end
section
variable {X:Cx}
end
section
variable {prog:Program} {w:World} {K:Type} [DecidableEq K] {knd:HeapKind prog w K} {A:Around} {E:Value->Shared->Prop} {s:Shared}
end
section
variable {X:Cx} {pins:List (Addr×Obj)} {σ:St} {H:Hp} {s:Shared} {a b:Addr} {kvs:List (List Key×V)} {k:List Key} {A:Around} {E:Value->Shared->Prop}
end
section
variable {prog:Program} {w:World} {A:Around} {E:Value->Shared->Prop} {s:Shared}
end
section
variable {prog:Program} {w:World} {A:Around} {R:Result->Shared->Prop} {I:Addr} {fp wr:List Addr} {n:Nat} {P:Nat->Value->Prop} {St:Nat->Heap->Prop}
end
section
variable {X:Cx}
end
theorem C0n:∀{kvs:List (Key×V)} {vs:List (Key×Value)} {ns:List Int} {its:List Value},KV kvs vs->kvs.map (·.1)=ns.map Sum.inl->its.length=vs.length->(∀(j:Nat) (v:Value),its[j]?=some v->∃k x,vs[j]?=some (k,x)/\∀i,k=Sum.inl i->∃t,v=Value.int i t)->C5 (ns.map V.int) its
 | [],[],[],[],_,_,_,_=>.nil
 | [],[],[],_::_,_,_,hl,_=>nomatch hl
 | [],[],_::_,_,_,h,_,_=>nomatch h
 | [],_::_,_,_,h,_,_,_=>nomatch h
 | _::_,[],_,_,h,_,_,_=>nomatch h
 | _::_,_::_,[],_,_,h,_,_=>nomatch h
 | _::_,_::_,_::_,[],_,_,hl,_=>nomatch hl
 | p::kvs,q::vs,n::ns,u::its,h,hk,hl,hp=>by
  obtain⟨k,x,e,e1⟩:=hp 0 u rfl
  cases e
  have h1:p.1=k/\KV kvs vs:=by
   cases h with
   | cons a b=>exact⟨a.1,b⟩
  rw[P2,P2] at hk
  injection hk with hk1 hk2
  rw[h1.1] at hk1
  exact .cons (e1 n hk1) (C0n h1.2 hk2 (by simpa using hl) λj v hj=>hp (j + 1) v hj)
section
variable {prog:Program} {w:World} {A:Around} {E:Value->Shared->Prop} {s:Shared} {T:String} {r d:Addr} {n:Nat} {P:Nat->Value->Prop} {OK:Heap->Prop}
theorem C9m {R:List Value->Shared->Prop} (src:PySem.W.KdlSrc prog w T r d n P OK) (calm:A.handled=none) (ok:OK s.heap) (few:n<=sizeLine)
  (k:∀(g:Heap) (t:Nat) (xs:Array Value),(∀b o,s.heap.get? b=some o->g.get? b=some o)->s.heap.objs.size<=g.objs.size->ItemsOf P xs n->R xs.toList { s with heap:=g,toks:=t }) :
  wpAny (model prog w) A (collect (.ref r)) R E s:=by
 obtain⟨lt1,lt2⟩:=src.there _ ok
 unfold collect
 refine wpAny_bind (wpAny_runValue (codeAny_builtin entry_proto_collect' ?_));rw[Around.under_plainId PySem.F.plain_proto_collect _]
 show wpAny _ A.in1 (newList [] >>= λq=>again (.builtin "list.__iadd__" ⟨[q,.ref r],[]⟩)) _ _ s
 refine wpAny_bind (wpAny_newObj_type (wpAny_pure ⟨plainId_quiet PySem.F.plain_list_iadd _,codeAny_builtin entry_list_iadd' ?_⟩))
 rw[Around.under_plainId PySem.F.plain_list_iadd _];show wpAny _ A.in1 (Builtin.List.listExtendWith (.ref s.heap.objs.size) (.ref r) (.ref s.heap.objs.size)) _ _ _
 have base:(s.heap.push { cls:=.type "list",data:=.seq ([]:List Value).toArray }).get? s.heap.objs.size=some { cls:=.type "list",data:=.seq #[] }:=V8 _ rfl
 have walk:=PySem.W.kdl_extend (A:=A) (s:={ s with heap:=s.heap.push { cls:=.type "list",data:=.seq ([]:List Value).toArray } })
  (R:=λ(q:Result) (s':Shared)=>∃(g:Heap) (t:Nat) (xs:Array Value) (c:Nat),q=.ok (.ret (.ref s.heap.objs.size))/\s'={ s with heap:=g,toks:=t }/\(∀b o,s.heap.get? b=some o->g.get? b=some o)/\
   g.get? s.heap.objs.size=some { cls:=.type "list",dict:=none,data:=.seq xs c,slots:=#[] }/\ItemsOf P xs n)
  src calm (src.keep _ _ ok λb _ o z=>L6 _ z) s.heap.objs.size (A2i lt1) (A2i lt2) (.ref s.heap.objs.size) 0 base
  (λg t xs c hk hS hx=>⟨g,t,xs,c,rfl,rfl,λb o z=>hk b o (N5 (F9 z)) (L6 _ z),hS,hx⟩) few
 have fin:∀{g:Heap} {t:Nat} {xs:Array Value} {c:Nat},(∀b o,s.heap.get? b=some o->g.get? b=some o)->g.get? s.heap.objs.size=some { cls:=.type "list",dict:=none,data:=.seq xs c,slots:=#[] }->ItemsOf P xs n->R xs.toList { s with heap:=g,toks:=t }:=
  λhk hS hx=>k _ _ _ hk (A7p (F9 hS)) hx
 refine wpAny_mono walk (λf s' x=>?_) λe s' x=>by obtain⟨_,_,_,_,z,_⟩:=x;cases z
 cases f with
 | done f=>
  obtain⟨g,t,xs,c,z,rfl,hk,hS,hx⟩:=x
  cases z
  show wpAny _ A (load s.heap.objs.size >>= _) _ _ _;exact wpAny_bind (wpAny_load hS (wpAny_pure (fin hk hS hx)))
 | again c₁=>
  refine⟨x.1,codeAny_mono x.2 λq s₂ y=>?_⟩
  obtain⟨g,t,xs,c,rfl,rfl,hk,hS,hx⟩:=y
  show wpAny _ A (load s.heap.objs.size >>= _) _ _ _;exact wpAny_bind (wpAny_load hS (wpAny_pure (fin hk hS hx)))
end
section
variable {X:Cx}
theorem A8t (hc:X.calm=true):X9 X (.builtin "sorted") (λxs H Q=>∃(p:Addr) (kvs:List (Key×V)) (ns:List Int),xs=[.ref p]/\H p=some (.dK kvs)/\kvs.map (·.1)=ns.map Sum.inl/\ns.length < 64/\∀(l:Addr) (ms:List Int),H l=none->ms.Perm ns->ms.Pairwise (·<=·)->Q (.ref l) (upd H l (.lst (ms.map V.int)))):=by
 intro pins s σ H xs us Q I r h
 obtain⟨p,kvs,ns,rfl,e,hkeys,hn,q⟩:=h
 obtain⟨u,rfl,rx⟩:=Z2 r
 cases rx
 obtain⟨z,lo,vs,rel,dd⟩:=B36 I.hok e
 obtain⟨ep,hat⟩:=dd.dictAt
 have hh:=I.ok.hd hc
 have ln:kvs.length=ns.length:=by have:=congrArg B18 hkeys;simpa using this
 have lv:vs.length=ns.length:=by rw[<-rel.length,ln]
 refine Calls.call_function_entry kind_sorted plain_sorted entry_sorted (args_sorted1 _) ?_
 unfold Builtin.«sorted»
 refine wpAny_bind (m:=checkCount "sorted" 1 1 _) (wpAny_pure ?_)
 refine wpAny_bind (C9m (A:=X.A.in1) (PySem.W.kdl_dict (knd:=S1 X.prog X.w) (kvs:=vs) (ep:=ep) lo) hh hat (by rw[<-rel.length];exact z) λh' tk acc hk ge hacc=>?_)
 have hl:acc.toList.length=vs.length:=by rw[A5t];exact hacc.1
 have hv:C5 (ns.map V.int) acc.toList:=C0n rel hkeys hl λj v hj=>by
  obtain⟨k,x,e1,e2⟩:=hacc.2 j v (by rw[<-B2b];exact hj)
  refine⟨k,x,e1,λi hi=>?_⟩
  subst hi
  have e2:A2o (Sum.inl i) v=true:=(B68 X.prog X.w (Sum.inl i) v).symm.trans e2
  rcases A03 e2 with ⟨j,t,e3,e4⟩ | ⟨y,t,e3,_⟩
  ·cases e3;exact⟨t,e4⟩
  ·cases e3
 have hi:=B76 hv
 have h64:acc.toList.length < 64:=by rw[hl,lv];exact hn
 refine wpAny_bind (wpAny_newList ?_ (by rw[hl,<-rel.length];exact z))
 have hoL:(h'.push (seqObj "list" acc.toList.toArray 0)).get? h'.objs.size=some (seqObj "list" acc.toList.toArray 0):=V8 _ rfl
 refine wpAny_bind (wpAny_holding (wpAny_call_entry slot_list_sort ⟨_,hoL,rfl⟩ entry_list_sort (list_sort_tree hoL hi h64 λout ms a1 a2 a3=>⟨_,rfl,?_⟩) (args_list_sort _)))
 refine wpAny_pure ⟨_,rfl,?_⟩
 have hk2:∀b o,s.heap.get? b=some o->(sortedHeap (h'.push (seqObj "list" acc.toList.toArray 0)) h'.objs.size acc.toList out).get? b=some o:=λb o z=>by
  have z':=hk b o z
  have lt:=F9 z'
  rw[sortedHeap_old (N5 lt) (by rw[size_push'];exact Nat.lt_succ_of_lt lt)]
  exact L6 _ z'
 obtain⟨en,he⟩:=sortedHeap_at (out:=out) hoL
 have hv2:C5 (ms.map V.int) out.toList:=B27 a1
 refine⟨.ref h'.objs.size,_,I.laid (t':=tk) hk2 ge (show K2 X.prog X.w _ _ _ (.lst (ms.map V.int)) from ⟨?_,out.toList,en,hv2,by simpa [seqObj] using he⟩),rfl,q _ ms (I.hok.fresh ge) a2 a3⟩
 rw[D6,a2.length_eq,sizeLine_eq]
 lia
theorem C0o:X9 X (.builtin "len") (λxs H Q=>∃a kvs,xs=[V.ref a]/\H a=some (.dK kvs)/\Q (.int kvs.length) H):=by
 intro pins s σ H xs us Q I r h
 obtain⟨a,kvs,rfl,ha,q⟩:=h
 obtain⟨u,rfl,ru⟩:=Z2 r
 cases ru
 exact C84 I (.inl ha) λt s' I'=>⟨.int kvs.length,H,I',⟨t,rfl⟩,q⟩
end
end L2
namespace PySem
namespace F
theorem own_plain_dloop:plainId "dict.update.loop" = true:=by decide +kernel
theorem own_entry_dloop:entryFor table "dict.update.loop" = some Builtin.«dict.update.loop»:=entryFor_of_fast (by kernel_rfl)
theorem own_list_keys:typeLookup (.type "list") "keys" = pure none:=am_miss_of_fast (by kernel_rfl)
end F
section
variable {prog:Program} {w:World} {A:Around} {E:Value->Shared->Prop}
set_option maxRecDepth 100000 in
theorem C9n {s:Shared} {a:Addr} {xs:Array Value} {Q:Option Value->Shared->Prop} (hL:PlainL s.heap a xs) (hA:A.handled=none)
  (h:∀h' tk,(∀b ob,s.heap.get? b=some ob->h'.get? b=some ob)->Q none { s with heap:=h',toks:=tk }):wpAny (model prog w) A (getAttr? (.ref a) "keys") Q E s:=by
 obtain⟨⟨c,dct,dat,sl⟩,n,hx,hc,hd,hdat⟩:=hL
 simp only at hc hdat hd
 subst hc hdat hd
 obtain⟨hp,g,d,tk,os⟩:=s
 have hT:∀tk',(⟨hp,g,d,tk',os⟩:Shared).TypeIs (.ref a) "list" :=λ_=>⟨_,hx,rfl⟩
 have f1:=sub_AttributeError
 have f3:=F.slot_list_getattribute.lookup
 have f4:=F.slot_list_getattribute.bind (.ref a)
 have f5:=am_list_getattr_none
 unfold getAttr? getAttrBy? getAttrBy
 repeat (any_goals (first | assumption | exact hT _ | ((with_reducible show wpAny _ _ (call (Value.builtin "list.__getattribute__") _ _) _ _ _);refine call_meets F.slot_list_getattribute (hT _) am_entry_list_getattribute (F.args_list_getattribute_2 _ _) (meets_getattribute_miss_list a xs n sl "keys" _ F.own_list_keys KK (by size_fits)) ⟨hx,hA,λh' tk' e hx'=>?_⟩) | wp_step))
 obtain⟨t',u',he⟩:=hx'.there
 show wpAny _ _ (getattributeRaised _ _ _ _ _ _ _) _ _ _
 unfold getattributeRaised
 repeat (any_goals (first | assumption | wp_step))
 exact h _ _ hx'.keeps
end
end PySem
namespace L2
open PySem PySem.Spec PyProof.Rows
section
variable {prog:Program} {w:World} {A:Around} {E:Value->Shared->Prop}
inductive A0g (h:Heap):List Value->List (Key×Value)->Prop
 | nil:A0g h [] []
 | cons {t:Addr} {k:Int} {u:Tok} {v:Value} {vs:List Value} {kvs:List (Key×Value)}:IsTup h t #[.int k u,v]->A0g h vs kvs->A0g h (.ref t::vs) ((Sum.inl k,v)::kvs)
theorem A0g.len {h:Heap} {vs:List Value} {kvs:List (Key×Value)} (p:A0g h vs kvs):vs.length=kvs.length:=by
 induction p with
 | nil=>rfl
 | cons _ _ ih=>rw[G3,G3,ih]
theorem A0g.keeps {h h':Heap} {vs:List Value} {kvs:List (Key×Value)} (p:A0g h vs kvs) (hk:∀b o,h.get? b=some o->o.cls=.type "tuple" ->h'.get? b=some o):A0g h' vs kvs:=by
 induction p with
 | nil=>exact .nil
 | cons e _ ih=>exact .cons (let ⟨o,e1,e2,e3⟩:=e;⟨o,hk _ _ e1 e2,e2,e3⟩) ih
theorem A0g.at {h:Heap} {vs:List Value} {kvs:List (Key×Value)} (p:A0g h vs kvs):∀{i:Nat} {x:Value},vs[i]?=some x->∃t k u v,x=.ref t/\IsTup h t #[.int k u,v]/\kvs[i]?=some (Sum.inl k,v):=by
 induction p with
 | nil=>intro i x e;cases e
 | cons e _ ih=>
  intro i x z
  cases i with
  | zero=>cases z;exact⟨_,_,_,_,rfl,e,rfl⟩
  | succ i=>exact ih z
theorem C9o {R:Result->Shared->Prop} {D I L:Addr} {its:Array Value} {kvs:List (Key×Value)} (hDI:D≠I) (hLI:L≠I) (hDL:D≠L) (hA:A.handled=none) (hsz:kvs.length<=sizeLine) :
  ∀(k i:Nat) (s:Shared) (t:Tok),its.size - i=k->i<=its.size->s.heap.IsListIter I L i->s.heap.IsList L its->s.heap.DictOf (S1 prog w) D (merged [] (kvs.take i))->A0g s.heap its.toList kvs->
  (∀h' tk,h'.DictOf (S1 prog w) D (merged [] kvs)->(∀b o,b≠D->b≠I->s.heap.get? b=some o->h'.get? b=some o)->R (.ok (.ret .none)) { s with heap:=h',toks:=tk })->
  codeAny (model prog w) A (.builtin "dict.update.loop" ⟨[.ref D,.ref I,.int i t,.none],[]⟩) R s:=by
 intro k
 induction k with
 | zero=>
  intro i s t hk hi hit hl hd hp hR
  have hin:i=its.size:=by lia
  refine codeAny_builtin PySem.F.own_entry_dloop ?_
  rw[Around.under_plainId PySem.F.own_plain_dloop _]
  show wpAny _ A.in1 (pyNext (.ref I) >>= _) _ _ s
  refine wpAny_bind (wpAny_pyNext_list_end (by simp [hA]) hit hl (by rw[hin];simp) λh' hx=>?_)
  have hl2:=hp.len
  rw[A5t] at hl2
  rw[B2f (OO)] at hd
  show wpAny _ _ (Builtin.Dict.addKeywords D [] >>= _) _ _ _
  exact wpAny_bind (wpAny_pure (wpAny_pure (hR h' s.toks (hd.extBut hx hDI) λb o n1 n2 e=>hx b o n2 e)))
 | succ k ih=>
  intro i s t hk hi hit hl hd hp hR
  have hlt:i < its.size:=by lia
  have hx:its[i]?=some its[i]:=by simp [hlt]
  obtain⟨tp,n,u,v,e1,e2,e3⟩:=hp.at (i:=i) (x:=its[i]) (by rw[B2b];exact hx)
  refine codeAny_builtin PySem.F.own_entry_dloop ?_
  rw[Around.under_plainId PySem.F.own_plain_dloop _]
  show wpAny _ A.in1 (pyNext (.ref I) >>= _) _ _ s
  refine wpAny_bind (wpAny_pyNext_list_item hit hl hx λh' hit' hs'=>?_)
  rw[e1]
  obtain⟨o,o1,o2,m,o3⟩:=e2
  have nI:tp≠I:=λz=>by
   obtain⟨oi,i1,i2,_⟩:=hit
   rw[z,i1] at o1;cases o1
   rw[o2] at i2;injection i2 with i2;exact absurd i2 (DD)
  have o1':h'.get? tp=some o:=hs'.extBut _ _ nI o1
  refine wpAny_bind (wpAny_holding ?_)
  refine wpAny_bind (wpAny_tryCatch ?_)
  unfold Builtin.Dict.pairItems
  refine wpAny_bind (wpAny_typeOf (show Shared.TypeIs { s with heap:=h' } (.ref tp) "tuple" from ⟨_,o1',o2⟩) ?_)
  rw[if_pos (DD)]
  refine wpAny_bind (wpAny_seqItems o1' o3 (wpAny_pure ?_))
  show wpAny _ _ (holding [.int n u,v] (dictSet D (.int n u) v)) _ _ _
  have hd':=hd.sameBut hs' hDI
  have hm:(merged [] (kvs.take i)).length<=sizeLine:=by
   have:=merged_length_le [] (kvs.take i)
   rw[Z0] at this
   simp only[A2m] at this
   lia
  refine wpAny_holding (wpAny_dictSet_pairs (k:=(Sum.inl n:Key)) (knd:=S1 prog w) (by rw[B68];show Value.isInt n (.int n u)=true;simp [Value.isInt]) hd' (λh2 hd2 hs2=>?_) hm)
  have nD:∀b o,s.heap.get? b=some o->o.cls=.type "tuple" ->b≠D:=λb o eb cb z=>by
   obtain⟨od,d1,d2⟩:=hd.typeIs
   rw[z,d1] at eb;cases eb
   rw[cb] at d2;injection d2 with d2;exact absurd d2 (DD)
  have nI':∀b o,s.heap.get? b=some o->o.cls=.type "tuple" ->b≠I:=λb o eb cb z=>by
   obtain⟨oi,i1,i2,_⟩:=hit
   rw[z,i1] at eb;cases eb
   rw[cb] at i2;injection i2 with i2;exact absurd i2 (DD)
  refine wpAny_pure ⟨plainId_quiet PySem.F.own_plain_dloop _,ih (i + 1) _ _ OO hlt ?_ ?_ ?_ ?_ ?_⟩
  ·exact hit'.at λo e=>hs2.extBut I o (Ne.symm hDI) e
  ·exact (hl.extBut hs'.extBut hLI).extBut hs2.extBut (Ne.symm hDL)
  ·rw[merged_take_succ _ _ _ _ e3];exact hd2
  ·exact hp.keeps λb o e c=>hs2.extBut b o (nD b o e c) (hs'.extBut b o (nI' b o e c) e)
  ·exact λh3 tk hd3 hk3=>hR h3 tk hd3 λb o n1 n2 e=>hk3 b o n1 n2 (hs2.extBut _ _ n1 (hs'.extBut _ _ n2 e))
end
inductive Z9 (H:Hp):List V->List (Key×V)->Prop
 | nil:Z9 H [] []
 | cons {t:Addr} {k:Int} {v:V} {vs:List V} {kvs:List (Key×V)}:H t=some (.tup [.int k,v])->Z9 H vs kvs->Z9 H (.ref t::vs) ((Sum.inl k,v)::kvs)
theorem Z9.mv {H H':Hp} {vs:List V} {kvs:List (Key×V)} (s:∀b o,H b=some o->H' b=some o) (h:Z9 H vs kvs):Z9 H' vs kvs:=by
 induction h with
 | nil=>exact .nil
 | cons e _ ih=>exact .cons (s _ _ e) ih
theorem Z9.snoc {H:Hp} {vs:List V} {kvs:List (Key×V)} (h:Z9 H vs kvs) {t:Addr} {k:Int} {v:V} (e:H t=some (.tup [.int k,v])):Z9 H (vs++[.ref t]) (kvs++[(Sum.inl k,v)]):=by
 induction h with
 | nil=>exact .cons e .nil
 | cons e' _ ih=>exact .cons e' ih
theorem Z9.len {H:Hp} {vs:List V} {kvs:List (Key×V)} (h:Z9 H vs kvs):vs.length=kvs.length:=by
 induction h with
 | nil=>rfl
 | cons _ _ ih=>rw[G3,G3,ih]
theorem Z9.own {P:Program} {w:World} {H:Hp} {h:Heap} {vs:List V} {kvs:List (Key×V)} (ok:HOk P w H h) (p:Z9 H vs kvs):∀{its:List Value},C5 vs its->∃ks,KV kvs ks/\A0g h its ks:=by
 induction p with
 | nil=>
  intro its r
  cases r
  exact⟨[],.nil,.nil⟩
 | @cons t k v vs kvs e _ ih=>
  intro its r
  cases r with
  | cons a b=>
   cases a
   obtain⟨ks,r1,r2⟩:=ih b
   obtain⟨_,us,ru,tu⟩:=(show K2 P w H h t (.tup [.int k,v]) from ok _ _ e)
   cases ru with
   | cons x1 x2=>
    obtain⟨t1,rfl⟩:=x1
    cases x2 with
    | cons y1 y2=>
     cases y2
     exact⟨_,.cons ⟨rfl,y1⟩ r1,.cons tu r2⟩
theorem KV.keysEq {kvs:List (Key×V)} {ks:List (Key×Value)} (h:KV kvs ks):ks.map (·.1)=kvs.map (·.1):=by
 induction h with
 | nil=>rfl
 | cons a _ ih=>rw[P2,P2,ih,a.1]
section
variable {X:Cx}
theorem C9p (hc:X.calm=true):X9 X (.type "dict") (λxs H Q=>∃(p:Addr) (vs:List V) (kvs:List (Key×V)),xs=[.ref p]/\H p=some (.lst vs)/\Z9 H vs kvs/\(kvs.map (·.1)).Nodup/\kvs.length<=sizeLine/\∀l,H l=none->Q (.ref l) (upd H l (.dK kvs))):=by
 intro pins s σ H xs us Q I r h
 obtain⟨p,vs,kvs,rfl,e,pr,nd,hsz,q⟩:=h
 obtain⟨u,rfl,rx⟩:=Z2 r
 cases rx
 obtain⟨its,rv,pl,hz⟩:=I.list (SqL.of e)
 have hh:=I.ok.hd hc
 obtain⟨ks,rel,op⟩:=pr.own I.hok rv
 refine callType_codes (Q₁:=λobj s₁=>obj=.ref s.heap.objs.size/\s₁={ s with heap:=s.heap.push { cls:=.type "dict",data:=.dict #[] } }) PySem.F.kt_called_dict (PySem.F.kt_typeCall_dict_1 _) PySem.F.entry_dict_init (kt_code_dict_new _ ⟨rfl,rfl⟩) ?_
 rintro obj s₁ ⟨rfl,rfl⟩
 have hnew:(s.heap.push { cls:=.type "dict",data:=.dict #[] }).DictOf (S1 X.prog X.w) s.heap.objs.size []:=Heap.DictOf.new s.heap
 have pl':PlainL (s.heap.push { cls:=.type "dict",data:=.dict #[] }) p its.toArray:=pl.keeps λb o z=>L6 _ z
 refine⟨hnew.typeIs,PySem.F.args_dict_init_2 _ _,?_⟩
 unfold Builtin.«dict.__init__»
 refine wpAny_bind ?_
 unfold Builtin.Dict.selfAndRest
 refine wpAny_bind (wpAny_notOrdered_dict hnew.typeIs ?_)
 show wpAny _ _ (pure (s.heap.objs.size,[Value.ref p])) _ _ _
 refine wpAny_pure ?_
 show wpAny _ _ (Builtin.Dict.updateFrom "dict.__init__" s.heap.objs.size (.ref p) [] .none) _ _ _
 unfold Builtin.Dict.updateFrom
 refine wpAny_bind (wpAny_typeOf (show Shared.TypeIs _ (.ref p) "list" from let ⟨o,_,e1,e2,_⟩:=pl';⟨o,e1,e2⟩) ?_)
 rw[if_pos (DD)]
 refine wpAny_bind (C9n (s:={ s with heap:=s.heap.push { cls:=.type "dict",data:=.dict #[] } }) pl' (by simp [hh]) λh1 tk1 hk1=>?_)
 rw[if_pos (DD)]
 refine wpAny_bind (wpAny_rule ?_)
 have pl1:PlainL h1 p its.toArray:=pl'.keeps hk1
 have il1:h1.IsList p its.toArray:=let ⟨o,n,e1,e2,_,e3⟩:=pl1;⟨o,e1,e2,n,e3⟩
 refine wpAny_bind (wpAny_pyIter_list (s:={ s with heap:=h1,toks:=tk1 }) il1 ?_)
 have hd1:h1.DictOf (S1 X.prog X.w) s.heap.objs.size []:=let ⟨o,es,ep,ho,r⟩:=hnew;⟨o,es,ep,hk1 _ _ ho,r⟩
 have hI:s.heap.objs.size≠h1.objs.size:=by
  obtain⟨o,es,ep,ho,r⟩:=hd1
  exact N5 (F9 ho)
 have hpI:p≠h1.objs.size:=by
  obtain⟨o,n,e1,_⟩:=pl1
  exact N5 (F9 e1)
 have hDp:s.heap.objs.size≠p:=by
  obtain⟨o,n,e1,_⟩:=pl
  exact λz=>absurd (F9 e1) (by rw[z];exact A0k _)
 have hpush:∀b o,h1.get? b=some o->(h1.push { cls:=.type "list_iterator",data:=.fields #[.ref p,.int 0 0] }).get? b=some o:=λb o z=>L6 _ z
 have hks:ks.length<=sizeLine:=by rw[<-rel.length];exact hsz
 have hnd:(ks.map (·.1)).Nodup:=by rw[rel.keysEq];exact nd
 have hk2:∀b o,s.heap.get? b=some o->(h1.push { cls:=.type "list_iterator",data:=.fields #[.ref p,.int 0 0] }).get? b=some o:=λb o z=>hpush _ _ (hk1 _ _ (L6 _ z))
 refine wpAny_pure ⟨plainId_quiet PySem.F.own_plain_dloop _,C9o (its:=its.toArray) (kvs:=ks) hI hpI hDp (by simp [hh]) hks its.toArray.size 0 _ _ rfl (P0 _) ⟨_,V8 _ rfl,rfl,rfl⟩ (il1.push _) (hd1.push _) (op.keeps λb o z _=>hk2 b o z) λh' tk' hd' hk'=>?_⟩
 rw[merged_nil_of_nodup ks hnd] at hd'
 have hk:∀b o,s.heap.get? b=some o->h'.get? b=some o:=λb o z=>hk' b o (N5 (F9 z)) (N5 (F9 (hk1 _ _ (L6 _ z)))) (hk2 _ _ z)
 refine⟨rfl,.ref s.heap.objs.size,_,I.laid (t':=tk') hk (F7 _) (show K2 X.prog X.w _ _ _ (.dK kvs) from ⟨hsz,?_,ks,rel,hd'⟩),rfl,q _ (I.hok.fresh (F7 _))⟩
 exact beq_eq_false_iff_ne.mpr (A2i I.big)
end
end L2
namespace My
open PySem L2
open PySem.Spec PyProof.Rows
mutual
def A5b:PyData->Bool
 | .none=>true
 | .bool _=>true
 | .int _=>true
 | .str _=>true
 | .tuple xs=>C0p xs
 | .list _=>false
 | .dict _=>false
def C0p:List PyData->Bool
 | []=>true
 | d::ds=>A5b d&&C0p ds
end
open Classical in
section
variable {X:Cx} {C:DC} {e a b:Expr} {es:List Expr} {t ta tb te:DE} {u:DA} {pos:Pos} {st:Stmt} {tg:Expr}
end
end My
namespace My
open PySem L2
open Classical in
section
variable {C:DC} {col col2:Addr->Nat} {ρ:List Sl} {σ:L2.St} {P:List Pe} {H H2:Hp} {i:Nat} {d:PyData}
open Classical in
open Classical in
end
section
variable {X:Cx} {C:DC} {e:Expr} {st:Stmt} {t te:DE} {u:DA} {i:Nat}
open Classical in
mutual
def C9q:PyData->PyData
 | .tuple xs=>.tuple (C0q xs)
 | .list _=>.list []
 | .none=>.none
 | .bool b=>.bool b
 | .int i=>.int i
 | .str s=>.str s
 | .dict d=>.dict d
def C0q:List PyData->List PyData
 | []=>[]
 | d::ds=>C9q d::C0q ds
end
open Classical in
open Classical in
end
end My
namespace L2
open PySem PySem.Spec PyProof.Rows
section
variable {X:Cx}
end
end L2
namespace My
open PySem L2
section
variable {X:Cx} {C:DC} {a b:Expr} {te:DE} {pos:Pos} {i:Nat}
end
section
variable {X:Cx} {C:DC} {e a b:Expr} {t:DE} {tt:DT} {i:Nat} {pos:Pos}
end
section
variable {X:Cx} {C:DC} {e:Expr} {u:DA} {i:Nat}
end
section
variable {C:DC} {col:Addr->Nat} {ρ:List Sl} {σ:St} {P:List Pe} {H H':Hp} {p:Addr}
end
section
variable {X:Cx} {C:DC} {st:Stmt} {e a b:Expr} {te tk:DE} {pos:Pos}
theorem B0.lenD {F:Addr->Prop} {H:Hp}:∀{vs:List V} {ds:List PyData},B0 F H vs ds->vs.length=ds.length
 | _,_,.nil=>rfl
 | _,_,.cons _ t=>by rw[G3,G3,B0.lenD t]
end
section
variable {X:Cx} {C:DC} {st:Stmt}
end
section
variable {X:Cx} {C:DC} {st:Stmt} {i j:Nat}
end
section
variable {X:Cx} {C:DC} {e:Expr} {te tp tl:DE} {i:Nat}
open Classical in
end
open PySem.Spec
section
variable {X:Cx} {C:DC} {a st:Expr} {pos:Pos}
end
section
variable {X:Cx} {C:DC}
end
mutual
def okS:PyData->Bool
 | .none=>true
 | .bool _=>true
 | .int _=>true
 | .str _=>true
 | .tuple xs=>X6 xs
 | .list xs=>X6 xs
 | .dict ks=>ks.isEmpty
def X6:List PyData->Bool
 | []=>true
 | d::ds=>okS d&&X6 ds
end
section
variable {X:Cx} {pins:List (Addr×Obj)} {σ:St} {H:Hp} {s:Shared} {F:Addr->Prop}
theorem C0r {prog:Program} {w:World} {a:Addr} (I:Inv X pins σ H s) (e:H a=some (.dT [])):(a == sysModules)=false/\s.heap.DictOf (S1 prog w) a []:=by
 obtain⟨_,hd,xs,rel,o,es,ep,ho,hx,hda,hes,_⟩:=(show K2 X.prog X.w H s.heap a (.dT []) from I.hok a _ e)
 cases rel
 have:es=#[]:=by
  apply Array.toList_inj.mp
  rw[hes];rfl
 subst this
 exact⟨hd,o,#[],ep,ho,hx,hda,λe h=>by simp at h,.nil,B61⟩
theorem RcAt.eqAt {A:Around} {l b:Addr} (h:SeqAt.RcAt A s (.ref l) (.ref b) true):SeqAt.EqAt A s (.ref l) (.ref b) true:=by
 by_cases e:l=b
 ·subst e;exact SeqAt.EqAt.same _
 ·exact SeqAt.EqAt.of_refs e h
theorem B39 (n:Nat):(U8 n).all (λ_=>true)=true:=by
 rw[B2d];exact λ_ _=>rfl
mutual
theorem eqS (I:Inv X pins σ H s):∀{d:PyData} {v1 v2:V} {u1 u2:Value} (A:Around),ThV F H v1 d->ThV F H v2 d->C9 v1 u1->C9 v2 u2->okS d=true->A.units + d.depth + 2 < cLine->SeqAt.EqAt A s u1 u2 true
 | _,_,_,_,_,A,.non,.non,r1,r2,_,_=>by
  obtain rfl:=(show _=Value.none from r1)
  obtain rfl:=(show _=Value.none from r2)
  exact SeqAt.EqAt.same _
 | _,_,_,_,_,A,.bl b,.bl _,r1,r2,_,_=>by
  obtain rfl:=(show _=Value.bool b from r1)
  obtain rfl:=(show _=Value.bool b from r2)
  exact SeqAt.EqAt.same _
 | _,_,_,_,_,A,.int i,.int _,⟨t1,r1⟩,⟨t2,r2⟩,_,_=>by
  subst r1 r2
  have:=SeqAt.EqAt.int_int (A:=A) (s:=s) i t1 i t2
  rwa [beq_self_eq_true] at this
 | _,_,_,_,_,A,.str x,.str _,⟨t1,r1⟩,⟨t2,r2⟩,_,_=>by
  subst r1 r2
  have:=SeqAt.EqAt.str_str (A:=A) (s:=s) x t1 x t2
  rwa [beq_self_eq_true] at this
 | _,_,_,_,_,A,.lst z1 e1 t1,.lst z2 e2 t2,r1,r2,h,hu=>by
  cases r1
  cases r2
  rw[okS] at h
  obtain⟨its1,q1,p1,_⟩:=I.list (SqL.of e1)
  obtain⟨its2,q2,p2,_⟩:=I.list (SqL.of e2)
  have hl:its1.length=its2.length:=by rw[<-q1.length,<-q2.length,t1.len,t2.len]
  have:=SeqAt.RcAt.lists (A:=A) (s:=s) (e:=λ_=>true) p1.isList p2.isList (by simpa using hl) OO (B0x I (A.in1) t1 t2 q1 q2 h (by simp only[PyData.depth] at hu;show A.units + 1 + _ + 2 < cLine;lia))
  rw[B39] at this
  exact RcAt.eqAt this
 | _,_,_,_,_,A,.tup z1 e1 t1,.tup z2 e2 t2,r1,r2,h,hu=>by
  cases r1
  cases r2
  rw[okS] at h
  obtain⟨its1,q1,p1,_⟩:=I.tuple (SqT.of e1)
  obtain⟨its2,q2,p2,_⟩:=I.tuple (SqT.of e2)
  have hl:its1.length=its2.length:=by rw[<-q1.length,<-q2.length,t1.len,t2.len]
  have:=SeqAt.RcAt.tuples (A:=A) (s:=s) (e:=λ_=>true) p1 p2 OO (B0x I (A.in1) t1 t2 q1 q2 h (by simp only[PyData.depth] at hu;show A.units + 1 + _ + 2 < cLine;lia))
  rw[B39,show ((its1.toArray.size == its2.toArray.size)=true) from by simpa using hl] at this
  exact RcAt.eqAt this
 | _,_,_,_,_,A,.dic z1 e1 t1,.dic z2 e2 t2,r1,r2,h,hu=>by
  cases r1
  cases r2
  rw[okS,List.isEmpty_iff] at h
  subst h
  generalize hk:([]:List (PyData×PyData))=ks at t1 t2
  cases t1 with
  | t=>
   cases t2 with
   | t=>
    exact RcAt.eqAt λprog w E Q q=>by
     obtain⟨a1,da⟩:=C0r (prog:=prog) (w:=w) I e1
     obtain⟨b1,db⟩:=C0r (prog:=prog) (w:=w) I e2
     exact PySem.W.keq_eq (r:=true) a1 b1 da db OO (λ_=>.nil) q
  | k i j=>cases hk
  | f o ks=>cases hk
theorem B0x (I:Inv X pins σ H s):∀{ds:List PyData} {vs1 vs2:List V} {us1 us2:List Value} (A:Around),B0 F H vs1 ds->B0 F H vs2 ds->C5 vs1 us1->C5 vs2 us2->X6 ds=true->A.units + PyData.depthAll ds + 2 < cLine->
  ∀(j:Nat) (h1:j < us1.toArray.size) (h2:j < us2.toArray.size),SeqAt.EqAt A s us1.toArray[j] us2.toArray[j] true
 | _,_,_,_,_,A,.nil,.nil,.nil,.nil,_,_,j,h1,h2=>by simp at h1
 | _,_,_,_,_,A,.cons x1 t1,.cons x2 t2,.cons r1 q1,.cons r2 q2,h,hu,0,h1,h2=>by
  rw[X6,r8] at h
  exact eqS I A x1 x2 r1 r2 h.1 (by simp only[PyData.depthAll] at hu;lia)
 | _,_,_,_,_,A,.cons x1 t1,.cons x2 t2,.cons r1 q1,.cons r2 q2,h,hu,j + 1,h1,h2=>by
  rw[X6,r8] at h
  have:=B0x I A t1 t2 q1 q2 h.2 (by simp only[PyData.depthAll] at hu;lia) j (by simpa using h1) (by simpa using h2)
  simpa using this
end
end
section
variable {C:DC}
end
open PyProof.Rows
section
variable {X:Cx} {C:DC} {st:Stmt} {i:Nat}
open Classical in
end
section
variable {X:Cx} {C:DC} {a b:Expr} {tl tb:DE} {pos:Pos}
end
mutual
inductive FpV (F:Addr->Prop) (H:Hp):V->PyData->List Addr->Prop
 | non:FpV F H .non .none []
 | bl (b):FpV F H (.bl b) (.bool b) []
 | int (i):FpV F H (.int i) (.int i) []
 | str (x):FpV F H (.str x) (.str x) []
 | lst {a xs ds fp}:F a->H a=some (.lst xs)->W4 F H xs ds fp->FpV F H (.ref a) (.list ds) (a::fp)
 | tup {a xs ds fp}:F a->H a=some (.tup xs)->W4 F H xs ds fp->FpV F H (.ref a) (.tuple ds) fp
inductive W4 (F:Addr->Prop) (H:Hp):List V->List PyData->List Addr->Prop
 | nil:W4 F H [] [] []
 | cons {x xs d ds fp fps}:FpV F H x d fp->W4 F H xs ds fps->W4 F H (x::xs) (d::ds) (fp++fps)
end
mutual
theorem FpV.th {F:Addr->Prop} {H:Hp}:∀{v:V} {d:PyData} {fp:List Addr},FpV F H v d fp->ThV F H v d
 | _,_,_,.non=>.non
 | _,_,_,.bl b=>.bl b
 | _,_,_,.int i=>.int i
 | _,_,_,.str x=>.str x
 | _,_,_,.lst n e t=>.lst n e (W4.th t)
 | _,_,_,.tup n e t=>.tup n e (W4.th t)
theorem W4.th {F:Addr->Prop} {H:Hp}:∀{vs:List V} {ds:List PyData} {fp:List Addr},W4 F H vs ds fp->B0 F H vs ds
 | _,_,_,.nil=>.nil
 | _,_,_,.cons x t=>.cons (FpV.th x) (W4.th t)
end
mutual
theorem FpV.mvm {F G:Addr->Prop} {H H':Hp}:∀{v:V} {d:PyData} {fp:List Addr},FpV F H v d fp->(∀b o,F b->H b=some o->(b∈fp\/∃xs,o=.tup xs)->G b/\H' b=some o)->FpV G H' v d fp
 | _,_,_,.non,_=>.non
 | _,_,_,.bl b,_=>.bl b
 | _,_,_,.int i,_=>.int i
 | _,_,_,.str x,_=>.str x
 | _,_,_,.lst n e t,f=>
  have q:=f _ _ n e (.inl D4)
  .lst q.1 q.2 (W4.mvm t λb o z e h=>f b o z e (h.imp (C8 _) id))
 | _,_,_,.tup n e t,f=>
  have q:=f _ _ n e (.inr ⟨_,rfl⟩)
  .tup q.1 q.2 (W4.mvm t f)
theorem W4.mvm {F G:Addr->Prop} {H H':Hp}:∀{vs:List V} {ds:List PyData} {fp:List Addr},W4 F H vs ds fp->(∀b o,F b->H b=some o->(b∈fp\/∃xs,o=.tup xs)->G b/\H' b=some o)->W4 G H' vs ds fp
 | _,_,_,.nil,_=>.nil
 | _,_,_,.cons x t,f=>.cons (FpV.mvm x λb o z e h=>f b o z e (h.imp (λh=>A0l.mpr (.inl h)) id)) (W4.mvm t λb o z e h=>f b o z e (h.imp (λh=>A0l.mpr (.inr h)) id))
end
section
variable {C:DC} {col col2:Addr->Nat} {ρ:List Sl} {σ:L2.St} {P:List Pe} {H H2:Hp} {i:Nat} {d:PyData} {R:B3d}
open Classical in
open Classical in
end
section
variable {X:Cx} {C:DC} {e:Expr} {es:List Expr} {st:Stmt} {t te:DE} {tt:DT} {u:DA} {i:Nat}
open Classical in
end
section
variable {X:Cx} {C:DC} {tg e:Expr} {t:DE} {st:Stmt} {i:Nat}
end
section
variable {X:Cx} {C:DC} {st:Stmt} {i j ia ib:Nat}
end
end My
namespace L2
open PySem PySem.Spec PyProof.Rows
def Xo (h:Heap) (a C:Addr) (dd:Option Addr) (tb:Value):Prop:=
 ∃o vs,h.get? a=some o/\o.cls=.ref C/\o.dict=dd/\o.data=.fields vs/\vs[1]?=some tb
def Te (h base:Heap) (a:Addr) (tb:Value):Prop:=
 tb=.none\/∃T o ts,tb=.ref T/\base.get? T=none/\T≠a/\h.get? T=some o/\o.data=.fields ts/\ts[3]?=some .none
structure Fly (base:Heap) (l:List Env) (a C:Addr) (dd:Option Addr) (h:Heap):Prop where
 stay:base.StaysIn h
 new:base.get? a=none
 fr:h.FunFrames base l
 ob:∃tb,Xo h a C dd tb/\Te h base a tb
section
variable {M:Model} {A:Around} {E:Value->Shared->Prop} {s:Shared} {base:Heap} {env:Env} {outer:List Env} {L a C:Addr} {dd:Option Addr}
theorem Obj.dict_mf (o:Obj) (f:Array Value->Array Value):(o.mapFields f).dict=o.dict:=by
 obtain⟨c,d,dt,sl⟩:=o;cases dt <;> rfl
theorem C0s {head:Value} {hn:Bool} {Q:Unit->Shared->Prop} (hfr:A.frames=some (env::outer)) (hf:env.frame=some L)
  (st:base.StaysIn s.heap) (nw:base.get? a=none) (fl:s.heap.FunFrames base (env::outer)) {o:Obj} {vs:Array Value} (he:s.heap.get? a=some o) (hc:o.cls=.ref C) (hdd:o.dict=dd) (hd:o.data=.fields vs) (sz:1 < vs.size)
  (k:∀h',Fly base (env::outer) a C dd h'->s.heap.UpToSlots h'->Q () { s with heap:=h' }) :
  wpAny M A (do let f <-frameOf env;let pl <-entryPlaceOf L hn;let b <-EntryCells.newEntry head f .none (rawInt L) .none pl;setField (.ref a) 1 b) (λ_ s'=>wpAny M A (setFlight (.ref a) none) Q E s') E s:=by
 have na:a∉(env::outer).filterMap (·.frame):=λhm=>by
  obtain⟨_,u,hu,nf⟩:=fl.mem hm
  rw[he] at hu
  exact nf vs (Option.some.inj hu▸hd)
 refine wpAny_bind (wpAny_frameOf_fun hfr fl hf λh1 so=>?_)
 refine wpAny_bind (wpAny_entryPlaceOf λpl hpl=>?_)
 unfold EntryCells.newEntry newFields
 refine wpAny_bind (wpAny_newObj_type ?_ (hpl.sizeOk5 _ _ _ _ _))
 generalize hw:([head,.ref L,.none,rawInt L,.none]++(if pl.isEmpty then E5 6 Value.none else pl)).toArray=ws
 have w3:3 < ws.size:=by rw[<-hw];simp only[O2,Q1,G3,A2m];lia
 generalize hob:({ cls:=.type "traceback",dict:=none,data:=.fields ws }:Obj)=tbo
 have tbd:tbo.data=.fields ws:=by rw[<-hob]
 have tbf:tbo.isFreed=false:=B2i tbd
 have he1:h1.get? a=some o:=(so.2.1 a na).trans he
 have st1:base.StaysIn h1:=λb u hb=>(so.2.1 b λhm=>by rw[(fl.mem hm).1] at hb;cases hb).trans (st b u hb)
 have he2:(h1.push tbo).get? a=some o:=L6 tbo he1
 have nT:h1.objs.size≠a:=A2i (F9 he1)
 refine wpAny_setField he2 hd sz ?_
 have hd3:=B2j hd (·.setIfInBounds 1 (Value.ref h1.objs.size))
 have he3:=A5y (A7y (·.setIfInBounds 1 (Value.ref h1.objs.size))) he2 (B2i hd3)
 have hT:=(p9 (h1.push tbo) (A7y (·.setIfInBounds 1 (Value.ref h1.objs.size))) (Ne.symm nT)).trans (B62 rfl tbf)
 unfold setFlight
 refine wpAny_bind (wpAny_field he3 hd3 (x:=.ref h1.objs.size) (by simp [sz]) ?_)
 rw[if_pos (show (Value.ref h1.objs.size != Value.none)=true from by simp)]
 have keep:∀b u,b≠a->h1.get? b=some u->(((h1.push tbo).update a (A7y (·.setIfInBounds 1 (Value.ref h1.objs.size)))).update h1.objs.size (A7y (·.setIfInBounds 3 ((none:Option Addr).elim Value.none λf=>rawInt f)))).get? b=some u:=λb u nb hb=>by
  rw[p9 _ _ (A2i (F9 hb)),p9 _ _ (Ne.symm nb)]
  exact L6 _ hb
 have nrec:∀b u,s.heap.get? b=some u->(∀vs,u.data≠.fields vs)->b≠a:=λb u hb nf z=>by
  rw[z,he] at hb
  exact nf vs (Option.some.inj hb▸hd)
 have hT4:=A5y (A7y (·.setIfInBounds 3 ((none:Option Addr).elim Value.none λf=>rawInt f))) hT (B2i (B2j tbd _))
 refine wpAny_setField hT tbd w3 (k _ ⟨λb u hb=>keep b u (λz=>by rw[z,nw] at hb;cases hb) (st1 b u hb),nw,fl.of_keeps λb u hb nf=>?_,.ref h1.objs.size,⟨_,_,(p9 _ _ nT).trans he3,?_,?_,hd3,by simp [sz]⟩,.inr ⟨h1.objs.size,_,_,rfl,st1.fresh,nT,hT4,B2j tbd _,by simp [w3]⟩⟩ λb u hb nf=>?_)
 ·obtain⟨sl,hs⟩:=so.2.2 b u hb
  exact⟨_,keep b _ (nrec b u hb nf) hs,rfl⟩
 ·exact (Obj.cls_mapFields _ _).trans hc
 ·exact (Obj.dict_mf _ _).trans hdd
 ·obtain⟨sl,hs⟩:=so.2.2 b u hb
  exact⟨sl,keep b _ (nrec b u hb nf) hs⟩
theorem C0t {Q:Unit->Shared->Prop} (hfr:A.frames=some (env::outer)) (hf:env.frame=some L) (F:Fly base (env::outer) a C dd s.heap)
  (k:∀h',Fly base (env::outer) a C dd h'->s.heap.UpToSlots h'->Q () { s with heap:=h' }) :
  wpAny M A (noteFrame (.ref a) env) (λ_ s'=>wpAny M A (setFlight (.ref a) none) Q E s') E s:=by
 obtain⟨st,nw,fl,tb,⟨o,vs,he,hc,hdd,hd,h1⟩,ht⟩:=F
 have sz:1 < vs.size:=(C31.mp h1).1
 unfold noteFrame
 simp only[hf]
 refine wpAny_bind (wpAny_field he hd h1 ?_)
 rcases ht with rfl | ⟨T,oT,ts,rfl,hb,nT,hT,hdT,h3⟩
 ·rw[if_neg (DD)]
  exact C0s hfr hf st nw fl he hc hdd hd sz k
 ·rw[if_pos (show (Value.ref T != Value.none)=true from by simp)]
  refine wpAny_bind (wpAny_field hT hdT h3 ?_)
  rw[if_neg (show ¬ ((Value.none == rawInt L)=true) from by simp [rawInt])]
  refine wpAny_bind (wpAny_setField hT hdT (C31.mp h3).1 ?_)
  have other:∀b,b≠T->(s.heap.update T (A7y (·.setIfInBounds 3 Value.none))).get? b=s.heap.get? b:=λb nb=>p9 _ _ (Ne.symm nb)
  have nrec:∀b u,s.heap.get? b=some u->(∀vs,u.data≠.fields vs)->b≠T:=λb u q nf z=>by
   rw[z,hT] at q
   exact nf ts (Option.some.inj q▸hdT)
  refine C0s hfr hf (λb u q=>(other b λz=>by rw[z,hb] at q;cases q).trans (st b u q)) nw (fl.of_keeps λb u q nf=>⟨u,(other b (nrec b u q nf)).trans q,rfl⟩) ((other a (Ne.symm nT)).trans he) hc hdd hd sz λh' F' U=>?_
  exact k h' F' λb u q nf=>U b u ((other b (nrec b u q nf)).trans q) nf
theorem C9r {Q:Unit->Shared->Prop} (hfr:A.frames=some (env::outer)) (hf:env.frame=some L) (F:Fly base (env::outer) a C dd s.heap)
  (k:∀h',Fly base outer a C dd h'->s.heap.UpToSlots h'->Q () { s with heap:=h' }):wpAny M A (leaving env (.ref a)) Q E s:=by
 unfold leaving
 exact wpAny_bind (C0t hfr hf F λh' F' U=>k h' ⟨F'.stay,F'.new,F'.fr.2.2,F'.ob⟩ U)
theorem C9s {l:List Env} {Q:Unit->Shared->Prop} (F:Fly base l a C dd s.heap)
  (k:∀h',Fly base l a C dd h'->s.heap.UpToSlots h'->Q () { s with heap:=h' }):wpAny M A (setFlight (.ref a) none) Q E s:=by
 obtain⟨st,nw,fl,tb,⟨o,vs,he,hc,hdd,hd,h1⟩,ht⟩:=F
 unfold setFlight
 refine wpAny_bind (wpAny_field he hd h1 ?_)
 rcases ht with rfl | ⟨T,oT,ts,rfl,hb,nT,hT,hdT,h3⟩
 ·rw[if_neg (DD)]
  exact wpAny_pure (k _ ⟨st,nw,fl,.none,⟨o,vs,he,hc,hdd,hd,h1⟩,.inl rfl⟩ (Heap.UpToSlots.refl _))
 ·rw[if_pos (show (Value.ref T != Value.none)=true from by simp)]
  have h3s:=(C31.mp h3).1
  have other:∀b,b≠T->(s.heap.update T (A7y (·.setIfInBounds 3 ((none:Option Addr).elim Value.none λf=>rawInt f)))).get? b=s.heap.get? b:=λb nb=>p9 _ _ (Ne.symm nb)
  have nrec:∀b u,s.heap.get? b=some u->(∀vs,u.data≠.fields vs)->b≠T:=λb u q nf z=>by
   rw[z,hT] at q
   exact nf ts (Option.some.inj q▸hdT)
  refine wpAny_setField hT hdT h3s (k _ ⟨λb u q=>(other b λz=>by rw[z,hb] at q;cases q).trans (st b u q),nw,fl.of_keeps λb u q nf=>⟨u,(other b (nrec b u q nf)).trans q,rfl⟩,.ref T,⟨o,vs,(other a (Ne.symm nT)).trans he,hc,hdd,hd,h1⟩,
   .inr ⟨T,_,_,rfl,hb,nT,A5y _ hT (B2i (B2j hdT _)),B2j hdT _,by simp [h3s]⟩⟩ λb u q nf=>⟨u.slots,(other b (nrec b u q nf)).trans q⟩)
end
abbrev VE:List Value:=[.type "ValueError",.type "Exception",.type "BaseException",.type "object"]
structure Xc (h:Heap) (C:Addr):Prop where
 ob:∃(nm q:Str) (N TE:Addr) (bs:List Value) (sn:List Str) (sub:List Value) (ab:Bool) (col:Option Bool) (dd:Option Addr) (k0 k1 k2 k3 k5:Option Value) (mN:Str->Option Value),
  h.get? C=some (excClassObj nm q C N bs (.ref TE::VE) true sn sub ab col dd k0 k1 k2 k3 k5 "ValueError.__new__")/\h.Ns N mN/\OwnTail h VE (.ref TE::VE)
structure XcK (K:A4) (C:Addr):Prop where
 ob:∃(nm q:Str) (N TE:Addr) (bs:List Value) (sn:List Str) (sub:List Value) (ab:Bool) (col:Option Bool) (dd:Option Addr) (k0 k1 k2 k3 k5:Option Value),
  K.lookup C=some (excClassObj nm q C N bs (.ref TE::VE) true sn sub ab col dd k0 k1 k2 k3 k5 "ValueError.__new__")/\B2k K N=true/\A7z K VE (.ref TE::VE)=true
theorem XcK.xc {K:A4} {h:Heap} {C:Addr} (x:XcK K C) (X:K.In h):Xc h C:=by
 obtain⟨nm,q,N,TE,bs,sn,sub,ab,col,dd,k0,k1,k2,k3,k5,l,hn,ht⟩:=x.ob
 exact⟨nm,q,N,TE,bs,sn,sub,ab,col,dd,k0,k1,k2,k3,k5,_,X _ _ l,.of_isNs (PySem.W.isNs_of_in X hn),PySem.W.tail_of_in X ht⟩
section
variable {prog:Program} {w:World} {A:Around} {E:Value->Shared->Prop} {h:Heap} {g:Array GenState} {d:Drawn} {t:Nat} {os:OsState} {C f:Addr} {L9:List Value}
theorem C9t {Q:Fin->Shared->Prop} (x:Xc h C) (hi:A2n (model prog w) h (typeLookup (.ref C) "__init__") (some (.ref f))) (hb:∀self,A2n (model prog w) h (bindSpecial (.ref f) self) (.ref f,[self]))
  (hq:∀h' e,h.objs.size<=e->Heap.MadeExcOf h h' e (.ref C) L9->wpAny (model prog w) A (call (.ref f) (.ref e::L9)) (λr s'=>r=.none/\Q (.done (.ret (.ref e))) s') E ⟨h',g,d,t,os⟩) (hl:L9.length<=sizeLine) :
  wpAny (model prog w) A (Builtin.«type.__call__» ⟨.ref C::L9,[]⟩) Q E ⟨h,g,d,t,os⟩:=by
 obtain⟨nm,q,N,TE,bs,sn,sub,ab,col,dd,k0,k1,k2,k3,k5,mN,hC,hn,T⟩:=x.ob
 have F:=PySem.F.excBase_ValueError
 repeat (first | with_reducible refine wpAny_loadPart_at hC ?_ | with_reducible refine wpAny_madeBy_exc hC ?_ | wp_step)
 refine codeAny_call_builtin_code (Code.quiet_builtin _ F.quiet) (wpAny_check_new_subT F T hC (codeAny_exc_new_subT F T hC ?_ hl))
 show wpAny _ _ _ _ _ _
 generalize ho1:({ cls:=.type "tuple",data:=.seq L9.toArray }:Obj)=o1
 generalize ho2:({ cls:=.ref C,data:=.fields #[.ref h.objs.size,.none,.none,.none,.bool false,.none] }:Obj)=o2
 have kk:∀b o,h.get? b=some o->((h.push o1).push o2).get? b=some o:=λb o e=>L6 _ (L6 _ e)
 have hg:((h.push o1).push o2).get? (h.objs.size + 1)=some o2:=B62 (by simp only[B13]) (by rw[<-ho2];rfl)
 have hg1:((h.push o1).push o2).get? h.objs.size=some o1:=L6 _ (B62 rfl (by rw[<-ho1];rfl))
 have hc2:o2.cls=.ref C:=by rw[<-ho2]
 have hcC:(Value.ref C::Value.ref TE::VE).contains (.ref C)=true:=by simp
 unfold isInstance
 repeat (first | (with_reducible refine wpAny_loadPart_at hg ?_;rw[hc2]) | (with_reducible refine wpAny_isSubtype_exc (kk _ _ hC) ?_;rw[hcC]) | wp_step)
 show wpAny _ _ (typeLookup (.ref C) _) _ _ _
 refine (hi.keeps kk).at ?_
 refine wpAny_holding (wpAny_bind (((hb _).keeps kk).at ?_))
 refine wpAny_bind (wpAny_mono (hq _ (h.objs.size + 1) (A2k _) ⟨kk,B6r (A2k _),h.objs.size,by rw[ho2];exact hg,B6r (F7 _),by rw[ho1];exact hg1⟩) (λr s' hr=>?_) λ_ _ y=>y)
 obtain⟨rfl,hQ⟩:=hr
 wp_walk
 exact hQ
theorem C9u {Q:Value->Shared->Prop} (x:Xc h C) (hi:A2n (model prog w) h (typeLookup (.ref C) "__init__") (some (.ref f))) (hb:∀self,A2n (model prog w) h (bindSpecial (.ref f) self) (.ref f,[self]))
  (hq:∀h' e,h.objs.size<=e->Heap.MadeExcOf h h' e (.ref C) L9->wpAny (model prog w) (A.under (.builtin "type.__call__" ⟨.ref C::L9,[]⟩)) (call (.ref f) (.ref e::L9)) (λr s'=>r=.none/\Q (.ref e) s') E ⟨h',g,d,t,os⟩) (hl:L9.length<=sizeLine) :
  wpAny (model prog w) A (call (.ref C) L9) Q E ⟨h,g,d,t,os⟩:=by
 obtain⟨nm,q,N,TE,bs,sn,sub,ab,col,dd,k0,k1,k2,k3,k5,mN,hC,hn,T⟩:=id x.ob
 have f1:=tc_lookup
 have f2:=tc_bind (.ref C)
 have hT:(⟨h,g,d,t,os⟩:Shared).TypeIs (.ref C) "type" :=⟨_,hC,rfl⟩
 refine wpAny_call (codeAny_of_tree ?_)
 show wpAny _ _ (callAny (.ref C) _) _ _ _
 repeat (any_goals (first | assumption | with_reducible refine wpAny_loadPart_at hC ?_ | wp_step))
 refine⟨rfl,?_⟩
 exact codeAny_call_builtin_at (Code.quiet_builtin _ KK) entry_typeCall (wpAny_check_type_call_sub hC (C9t x hi hb (λh' e hz hm=>hq h' e hz hm) hl))
section
variable {nm q:Str} {N TE x:Addr} {bs bmB:List Value} {sn:List Str} {sub:List Value} {ab:Bool} {col:Option Bool} {dd:Option Addr} {k0 k1 k2 k3 k5:Option Value} {B newId sa owner:String} {o:Obj} {name:Str} {v:Value}
theorem C9v {M:Model} {nv:Value} {Q:Unit->Shared->Prop} (SF:StoreFacts B bmB sa owner) (hC:h.get? C=some (excClassObj nm q C N bs (.ref TE::bmB) true sn sub ab col dd k0 k1 k2 k3 k5 newId))
  (hx:h.get? x=some o) (hc:o.cls=.ref C) (hq:Q () ⟨h,g,d,t,os⟩):wpAny M A (checkBuiltinCall sa ⟨[.ref x,nv,v],[]⟩) Q E ⟨h,g,d,t,os⟩:=by
 have hcO:(Value.ref C::Value.ref TE::bmB).contains (.type owner)=true:=by
  rw[A53,A53,SF.hasOwner,Bool.or_true,Bool.or_true]
 have ha:=SF.args (.ref x) nv v
 simp only[checkBuiltinCall,SF.kind,SF.split]
 refine wpAny_bind ?_
 unfold isInstance
 repeat (first | (with_reducible refine wpAny_loadPart_at hx ?_;rw[hc]) | (with_reducible refine wpAny_isSubtype_exc hC ?_;rw[hcO]) | wp_step)
 cases hsig:Manifest.signature? sa with
 | none=>exact wpAny_pure hq
 | some sig=>
  simp only[argsOk,hsig] at ha
  have h2:Bind.checkArgs sa sig ⟨[.ref x,nv,v],[]⟩=pure ():=ha
  show wpAny M A (Bind.checkArgs sa sig ⟨[.ref x,nv,v],[]⟩) Q E _
  rw[h2];exact wpAny_pure hq
theorem C9w {tk:Tok} {vs:Array Value} {Q:Fin->Shared->Prop} (SF:StoreFacts B bmB sa owner) (hC:h.get? C=some (excClassObj nm q C N bs (.ref TE::bmB) true sn sub ab col dd k0 k1 k2 k3 k5 newId))
  (hx:h.get? x=some o) (hc:o.cls=.ref C) (hd:o.dict=none) (hv:o.data=.fields vs) (h2:A2n (model prog w) h (typeLookup (.ref C) name) none)
  (hq:∀h' tk' dx,h.get? dx=none->dx≠x->h'.get? x=some { o with dict:=some dx }->h'.Ns1 dx (λy=>if y=name then some v else none)->(∀b u,b≠x->h.get? b=some u->h'.get? b=some u)->Q (.done (.ret .none)) ⟨h',g,d,tk',os⟩) :
  wpAny (model prog w) A (Builtin.«object.__setattr__» ⟨[.ref x,.str name tk,v],[]⟩) Q E ⟨h,g,d,t,os⟩:=by
 have pas:=SF.passes (.ref x)
 unfold Builtin.«object.__setattr__»
 repeat (first | rw[refuse_eq] | (rw[refuseLoop_ref,refuseLoop_ref,pas]) | (with_reducible refine wpAny_loadPart_at hx ?_;rw[hc]) | with_reducible refine wpAny_mroOf_exc hC ?_ | with_reducible refine h2.at ?_ | wp_step)
 rw[hd,hv,if_neg (by simp [typeHasDict])]
 dsimp only
 generalize hod:({ cls:=.type "dict",data:=.dict #[] }:Obj)=od
 have odf:od.isFreed=false:=by rw[<-hod];rfl
 have ne:x≠h.objs.size:=N5 (F9 hx)
 have hx1:(h.push od).get? x=some o:=L6 _ hx
 have of:o.isFreed=false:=B2i hv
 refine wpAny_bind (wpAny_alloc' (wpAny_bind (wpAny_update' hx1 ?_)))
 refine wpAny_pure ?_
 generalize hh1:((h.push od).update x λo=>{ cls:=o.cls,dict:=some h.objs.size,data:=o.data,slots:=o.slots })=h1
 have g1:h1.get? h.objs.size=some od:=by rw[<-hh1];exact (Heap.get?_update_ne _ _ _ _ ne.symm).trans (B62 rfl odf)
 have g2:h1.get? x=some { o with dict:=some h.objs.size }:=by
  rw[<-hh1]
  refine A5y _ hx1 ?_
  obtain⟨oc,odd,odt,osl⟩:=o
  cases odt <;> first | rfl | exact of
 have nsd:h1.Ns h.objs.size (λ_=>none):=⟨od,#[],_,g1,by rw[<-hod],λe he=>absurd he (by simp),λ_=>rfl⟩
 show wpAny _ _ (Builtin.ObjectAttr.storeInDict h.objs.size (.str name tk) name v) _ _ _
 unfold Builtin.ObjectAttr.storeInDict Builtin.ObjectAttr.newKeyGuard
 refine wpAny_bind (wpAny_pure (wpAny_bind (wpAny_nsSet1 (Heap.Ns1.of_empty nsd) λh' hn' hs=>?_)))
 obtain⟨oD,esD,epD,hoD,hdD,hcD⟩:=hn'.count (Within.cons name v Within.nil)
 refine wpAny_bind (wpAny_lookBehind hoD (by rw[hdD];exact pastItsLine_dict (X0 hcD (by rw[G3,A2m,sizeLine_eq];lia))) ?_)
 wp_walk
 refine hq h' _ h.objs.size (B6r (F7 _)) ne.symm ((hs.2 x ne).trans g2) ?_ λb u nb hb=>?_
 ·exact hn'
 ·refine (hs.2 b (N5 (F9 hb))).trans ?_
  rw[<-hh1]
  exact (Heap.get?_update_ne _ _ _ _ nb).trans (L6 _ hb)
theorem C9x {vs:Array Value} {Q:Unit->Shared->Prop} (SF:StoreFacts B bmB sa owner) (hC:h.get? C=some (excClassObj nm q C N bs (.ref TE::bmB) true sn sub ab col dd k0 k1 k2 k3 k5 newId))
  (hx:h.get? x=some o) (hc:o.cls=.ref C) (hd:o.dict=none) (hv:o.data=.fields vs) (h1:A2n (model prog w) h (typeLookup (.ref C) "__setattr__") (some (.builtin sa))) (h2:A2n (model prog w) h (typeLookup (.ref C) name) none)
  (hq:∀h' tk' dx,h.get? dx=none->dx≠x->h'.get? x=some { o with dict:=some dx }->h'.Ns1 dx (λy=>if y=name then some v else none)->(∀b u,b≠x->h.get? b=some u->h'.get? b=some u)->Q () ⟨h',g,d,tk',os⟩) :
  wpAny (model prog w) A (setAttr (.ref x) name v) Q E ⟨h,g,d,t,os⟩:=by
 have f3:=SF.slot.bind (.ref x)
 unfold setAttr callSpecial? specialOf
 repeat (any_goals (first | assumption | (with_reducible refine wpAny_loadPart_at hx ?_;rw[hc]) | with_reducible refine h1.at ?_ | wp_step))
 refine codeAny_call_builtin SF.slot.plain SF.entry (C9v SF hC hx hc (C9w SF hC hx hc hd hv h2 λh' tk' dx e1 e2 e3 e4 e5=>?_))
 repeat (any_goals (first | assumption | wp_step))
 exact hq h' tk' dx e1 e2 e3 e4 e5
end
theorem C9y {x:Addr} {o:Obj} {vs:Array Value} {name:Str} {v:Value} {Q:Unit->Shared->Prop} (X:Xc h C) (hx:h.get? x=some o) (hc:o.cls=.ref C) (hd:o.dict=none) (hv:o.data=.fields vs)
  (h1:A2n (model prog w) h (typeLookup (.ref C) "__setattr__") (some (.builtin "object.__setattr__"))) (h2:A2n (model prog w) h (typeLookup (.ref C) name) none)
  (hq:∀h' tk' dx,h.get? dx=none->dx≠x->h'.get? x=some { o with dict:=some dx }->h'.Ns1 dx (λy=>if y=name then some v else none)->(∀b u,b≠x->h.get? b=some u->h'.get? b=some u)->Q () ⟨h',g,d,tk',os⟩) :
  wpAny (model prog w) A (setAttr (.ref x) name v) Q E ⟨h,g,d,t,os⟩:=by
 obtain⟨nm,q,N,TE,bs,sn,sub,ab,col,dd,k0,k1,k2,k3,k5,mN,hC,hn,T⟩:=X.ob
 exact C9x PySem.F.store_ValueError hC hx hc hd hv h1 h2 hq
end
abbrev A0h (C:Addr) (dd:Option Addr) (t:Addr):Obj:={ cls:=.ref C,dict:=dd,data:=.fields #[.ref t,.none,.none,.none,.bool false,.none] }
section
variable {M:Model} {A:Around} {E:Value->Shared->Prop} {env:Env}
variable {nm q:Str} {C N:Addr} {bs bm:List Value} {hdct:Bool} {sn:List Str} {sub:List Value} {ab:Bool} {col:Option Bool} {dd:Option Addr} {k0 k1 k2 k3 k5:Option Value} {newId:String}
theorem C0u {s:Shared} {x:Sem Value} {Q:Flow->Shared->Prop} (hb:bm.contains (.type "BaseException")=true) (hh:A.handled=none)
  (hw:wpAny M A x (λv s1=>∃e t dx,v=.ref e/\s1.heap.get? C=some (excClassObj nm q C N bs bm hdct sn sub ab col dd k0 k1 k2 k3 k5 newId)/\s1.heap.get? e=some (A0h C dx t)/\E (.ref e) s1) E s) :
  wpAny M A (raiseStmt env (some x) none) Q E s:=by
 have hcB:(Value.ref C::bm).contains (.type "BaseException")=true:=by rw[A53,hb,Bool.or_true]
 unfold raiseStmt
 refine wpAny_bind (wpAny_mono hw (λv s1 h1=>?_) λ_ _ y=>y)
 obtain⟨e,t,dx,rfl,hC,he,hE⟩:=h1
 obtain⟨hp,g,d,tk,os⟩:=s1
 repeat (first | with_reducible refine wpAny_loadPart_at he ?_ | with_reducible refine wpAny_loadPart_at hC ?_ | (with_reducible refine wpAny_isSubtype_exc hC ?_;rw[hcB]) | wp_step)
 exact wpAny_raiseNew_none hh hE
end
theorem C9z {P:Program} {w:World} {K:A4} {mg:Str->Option Value} {base:Heap} {k:Nat} {f:Addr} {name qual:Str} {params:Arguments} {scope:Scope} {dV kV doc pm cdv ct oc:Value} {an od:Option Addr} {osl:Array (Option Value)}
  {me par fld:Str} {p1 p2 p3 p4:Pos} {C e t:Addr} {A:Around} {outer:List Env} {s:Shared} {H:Hp} {args:Args} {u:Value} {v:V}
  (lk:K.lookup f=some ⟨oc,od,.func (A0n name qual params [.Assign [.Attribute (.Name me p1) fld p2] (.Name par p3) p4] scope dV kV doc pm an cdv ct),osl⟩) (hcd:A9i K cdv qual=true) (S:D3 [me,par] [me,par] scope)
  (d1:(me == ("__debug__" : Str))=false) (d2:(me == ("__classdict__" : Str))=false) (d3:(par == ("__debug__" : Str))=false) (d4:(par == ("__classdict__" : Str))=false)
  (sw:∀env,swapsWith (.Name par p3) (some (.Attribute (.Name me p1) fld p2)) p4.line env=pure false)
  (f1:J7 K (.ref C) "__setattr__" = some (some (.builtin "object.__setattr__"))) (f2:J7 K (.ref C) fld=some none)
  (hr:N6 (k + 1) A) (e0:A1w P w K mg base A outer s H) (hb:BindsTo s (A0n name qual params [.Assign [.Attribute (.Name me p1) fld p2] (.Name par p3) p4] scope dV kV doc pm an cdv ct) args [(me,.ref e),(par,u)]) (r:C9 v u)
  (hx:XcK K C) (he:s.heap.get? e=some (A0h C none t)) (hn:H e=none) (hf:e∉frs outer) :
  codeAny (model P w) A (.call (.ref f) args) (λr s'=>r=.ok (.ret .none)/\s'.os=s.os/\AllBare s'.gens/\Un (frs outer) [e] H H s.heap s'.heap/\HOk P w H s'.heap/\
   ∃dx u',s.heap.get? dx=none/\dx≠e/\s'.heap.get? e=some (A0h C (some dx) t)/\s'.heap.Ns1 dx (λy=>if y=fld then some u' else none)/\C9 v u') s:=by
 have KX:K.In s.heap:=e0.mod.kin.keeps λb o e=>(e0.bs b o e).1
 have lim:s.heap.NoLimit:=e0.mod.nolimit.keeps λb o e=>(e0.bs b o e).1
 have hkind:∀y∈[(me,Value.ref e),(par,u)],scope.names.lookup y.1=some .local\/(scope.names.lookup y.1=some .cell/\((cellsFrom (s.heap.objs.size + 1) scope.names []).lookup y.1).isSome=true):=λ⟨n,x⟩ hy=>by
  have hm:n∈[me,par]:=by
   rcases J8.mp hy with z | z
   ·cases z;exact D4
   ·cases j5.mp z;exact C8 _ D4
  rcases S.par n hm with q | q
  ·exact .inl q
  ·exact .inr ⟨q,C3u _ _ _ (.inl q)⟩
 refine codeAny_call_function hr.depth (KX _ _ lk) rfl S.co S.gen rfl (PySem.W.codeRec_of KX hcd) (hb _ _ _ _ ?_)
 refine wpAny_newFunctionEnv_cells S.kind hkind λenv hv s1 x=>?_
 subst hv
 refine⟨lim.keeps x.toInCall.keep,codeAny_func ?_⟩
 have I:Inv (O6 (λ_ _ _ _ _ _=>False) P w K mg base [me,par] qual scope f cdv A outer s H λ_ _ _=>True) [] (start [me,par] [V.ref e,v]) H s1:=B74 (vs:=[V.ref e,v]) (us:=[Value.ref e,u]) S hr.hd e0 rfl (.cons rfl (.cons r .nil)) x
 generalize hX:(O6 (λ_ _ _ _ _ _=>False) P w K mg base [me,par] qual scope f cdv A outer s H λ_ _ _=>True)=X at I
 have J:=I.wish λ_ _=>False
 have N0:X.N[0]?=some me:=by rw[<-hX];rfl
 have N1:X.N[1]?=some par:=by rw[<-hX];rfl
 have vis:∀n∈[me,par],Vis X.env.scope n:=λn hn=>by
  rw[<-hX]
  exact (S.par n hn).elim (λq=>.inl q) λq=>.inr (.inl q)
 have pv:=B2l (X:=X.nox) (pos:=p3) N1 (vis par (C8 _ D4)) d3 d4
 have pm:=B2l (X:=X.nox) (pos:=p1) N0 (vis me D4) d1 d2
 have hp:X.prog=P:=by rw[<-hX];rfl
 have hw:X.w=w:=by rw[<-hX];rfl
 have main:wpAny (model X.prog X.w) X.A (execs [.Assign [.Attribute (.Name me p1) fld p2] (.Name par p3) p4] X.env) (λfl s'=>fl=.next/\s'.os=s.os/\AllBare s'.gens/\Un (frs outer) [e] H H s.heap s'.heap/\HOk P w H s'.heap/\
   ∃dx u',s.heap.get? dx=none/\dx≠e/\s'.heap.get? e=some (A0h C (some dx) t)/\s'.heap.Ns1 dx (λy=>if y=fld then some u' else none)/\C9 v u') (λ_ _=>False) s1:=by
  refine wpAny_execs_cons (plainObj_wpAny_Assign_Attribute (thn (pv [] s1 _ H (λx H'=>x=v/\H'=H) J ⟨v,rfl,rfl,rfl⟩) λu2 s2 zz=>el5 zz λx2 H2 I2 r2 q2=>?_) (sw _))
  obtain⟨rfl,rfl⟩:=q2
  refine thn (pm [] s2 _ H2 (λx H'=>x=.ref e/\H'=H2) I2 ⟨.ref e,rfl,rfl,rfl⟩) λov s3 zz=>el5 zz λx3 H3 I3 r3 q3=>?_
  obtain⟨rfl,rfl⟩:=q3
  obtain rfl:ov=Value.ref e:=r3
  have b3:Un (frs outer) [] H3 H3 s.heap s3.heap:=by have:=I3.base;rw[<-hX] at this;exact this
  have he3:s3.heap.get? e=some (A0h C none t):=b3.keep e _ he hn hf (by intro z;cases z)
  have K3:K.In s3.heap:=by have:=I3.kIn;rw[<-hX] at this;exact this
  have bk3:∀b o,base.get? b=some o->s3.heap.get? b=some o:=by have:=I3.bk;rw[<-hX] at this;exact this
  have hk3:HOk P w H3 s3.heap:=by have:=I3.hok;rw[<-hX] at this;exact this
  have os3':s3.os=s.os:=by have:=I3.os;rw[<-hX] at this;exact this
  have ba3:=I3.bare
  obtain⟨h3,g3,dr3,t3,os3⟩:=s3
  refine C9y (hx.xc K3) he3 rfl rfl rfl (A9h K3 f1) (A9h K3 f2) λh' tk' dx n1 n2 n3 n4 n5=>?_
  refine wpAny_execs_nil ⟨rfl,os3',ba3,?_,?_,dx,u2,?_,n2,n3,n4,r2⟩
  ·have u2:Un (frs outer) [e] H3 H3 h3 h':=⟨λb o q _ _ nx=>n5 b o (λz=>nx (by rw[z];exact D4)) q,λb o q _ _ nx=>⟨o.slots,n5 b o (λz=>nx (by rw[z];exact D4)) q⟩,λ_ _ _ n _=>n,
    λb o q nx=>⟨o,n5 b o (λz=>nx (by rw[z];exact D4)) q⟩,λ_ _ q=>q,λ_ _ _ q=>q,λ_ ps q=>⟨#[],by rw[q];simp⟩⟩
   exact (b3.mono (λ_ z=>z) λ_ z=>absurd z (by simp)).trans u2
  ·refine λb o q=>(hk3 b o q).stay (λc u' hc z=>n5 c u' (λy=>?_) z) (λ_ q=>q) λ_ _ q=>q
   subst y
   rcases hc with y | y
   ·rw[y] at hn;rw[hn] at q;cases q
   ·rw[hn] at y;cases y
  ·cases z:s.heap.get? dx with
   | none=>rfl
   | some o=>
    obtain⟨o',q⟩:=b3.there dx o z (by simp)
    rw[n1] at q;cases q
 have main':wpAny (model P w) (A.deeper (envOfC qual scope s.heap.objs.size f cdv)) (execs [.Assign [.Attribute (.Name me p1) fld p2] (.Name par p3) p4] (envOfC qual scope s.heap.objs.size f cdv)) (λfl s'=>fl=.next/\s'.os=s.os/\AllBare s'.gens/\Un (frs outer) [e] H H s.heap s'.heap/\HOk P w H s'.heap/\
   ∃dx u',s.heap.get? dx=none/\dx≠e/\s'.heap.get? e=some (A0h C (some dx) t)/\s'.heap.Ns1 dx (λy=>if y=fld then some u' else none)/\C9 v u') (λ_ _=>False) s1:=by
  rw[<-hX] at main;exact main
 refine wpAny_mono main' (λfl s' hs=>?_) λ_ _ z=>z.elim
 obtain⟨rfl,hs⟩:=hs
 exact⟨rfl,hs⟩
def A5c (P:Program) (w:World) (K:A4) (mg:Str->Option Value) (base:Heap) (k:Nat) (f C:Addr) (fld:Str):Prop:=
 ∀(A:Around) (outer:List Env) (s:Shared) (H:Hp) (u:Value) (v:V) (e t:Addr),N6 k A->A1w P w K mg base A outer s H->C9 v u->s.heap.get? e=some (A0h C none t)->H e=none->e∉frs outer->
  codeAny (model P w) A (.call (.ref f) ⟨[.ref e,u],[]⟩) (λr s'=>r=.ok (.ret .none)/\s'.os=s.os/\AllBare s'.gens/\Un (frs outer) [e] H H s.heap s'.heap/\HOk P w H s'.heap/\
   ∃dx u',s.heap.get? dx=none/\dx≠e/\s'.heap.get? e=some (A0h C (some dx) t)/\s'.heap.Ns1 dx (λy=>if y=fld then some u' else none)/\C9 v u') s
theorem C90 {P:Program} {w:World} {K:A4} {mg:Str->Option Value} {base:Heap} {k:Nat} {f:Addr} {name qual:Str} {params:Arguments} {scope:Scope} {dV kV doc pm cdv ct oc:Value} {an od:Option Addr} {osl:Array (Option Value)}
  {me par fld:Str} {p1 p2 p3 p4:Pos} {C:Addr}
  (lk:K.lookup f=some ⟨oc,od,.func (A0n name qual params [.Assign [.Attribute (.Name me p1) fld p2] (.Name par p3) p4] scope dV kV doc pm an cdv ct),osl⟩) (hcd:A9i K cdv qual=true) (S:D3 [me,par] [me,par] scope)
  (d1:(me == ("__debug__" : Str))=false) (d2:(me == ("__classdict__" : Str))=false) (d3:(par == ("__debug__" : Str))=false) (d4:(par == ("__classdict__" : Str))=false)
  (sw:∀env,swapsWith (.Name par p3) (some (.Attribute (.Name me p1) fld p2)) p4.line env=pure false)
  (f1:J7 K (.ref C) "__setattr__" = some (some (.builtin "object.__setattr__"))) (f2:J7 K (.ref C) fld=some none) (hx:XcK K C)
  (hb:Y0 K (A0n name qual params [.Assign [.Attribute (.Name me p1) fld p2] (.Name par p3) p4] scope dV kV doc pm an cdv ct) [me,par] []):A5c P w K mg base (k + 1) f C fld:=
 λA outer s H u v e t hr e0 r he hn hf=>C9z lk hcd S d1 d2 d3 d4 sw f1 f2 hr e0 (hb s [.ref e,u] (e0.mod.kin.keeps λb o q=>(e0.bs b o q).1) rfl) r hx he hn hf
section
variable {X:Cx} {pins:List (Addr×Obj)} {σ:St} {H:Hp} {s:Shared} {C f:Addr} {fld:Str} {k:Nat}
theorem K2.there {P:Program} {w:World} {H:Hp} {h:Heap} {a:Addr} {o:HO} (x:K2 P w H h a o):∃u,h.get? a=some u:=by
 cases o with
 | lst xs=>exact x.2.elim λ_ y=>y.elim λ_ z=>⟨_,z.2⟩
 | tup xs=>exact x.2.elim λ_ z=>z.2.elim λ_ y=>⟨_,y.1⟩
 | dK kvs=>exact x.2.2.elim λ_ z=>z.2.elim λ_ y=>y.elim λ_ y=>y.elim λ_ y=>⟨_,y.1⟩
 | dT kvs=>exact x.2.2.elim λ_ z=>z.2.elim λ_ y=>y.elim λ_ y=>y.elim λ_ y=>⟨_,y.1⟩
 | set S n=>exact x.elim λ_ y=>y.elim λ_ y=>y.elim λ_ y=>y.elim λ_ y=>⟨_,y.1⟩
 | ins C dx fs=>exact⟨_,x.2.2.2.1⟩
 | own y=>exact x
 | xd fs=>exact x.elim λ_ z=>z.1.elim λ_ y=>y.elim λ_ y=>y.elim λ_ y=>⟨_,y.1⟩
 | rng lo hi=>exact x.elim λ_ y=>y.elim λ_ y=>y.elim λ_ y=>⟨_,y⟩
 | frz ob u=>exact⟨_,x.1⟩
 | tbl ps=>exact⟨_,x⟩
 | met f y=>exact⟨_,x⟩
 | ext φ=>exact x.2.1
theorem HOk.gone {P:Program} {w:World} {H:Hp} {h:Heap} (x:HOk P w H h) {a:Addr} (e:h.get? a=none):H a=none:=by
 cases q:H a with
 | none=>rfl
 | some o=>
  obtain⟨u,z⟩:=(x a o q).there
  rw[e] at z;cases z
theorem C91 {u:Value} {v:V} {Q:Value->Shared->Prop} (I:Inv X pins σ H s) (hr:N6 (k + 1) X.A) (hx:XcK X.K C) (F:A5c X.prog X.w X.K X.mg X.base k f C fld)
  (fi:J7 X.K (.ref C) "__init__" = some (some (.ref f))) (fn:A5v X.K (.ref f)=some (.type "function")) (r:C9 v u)
  (hq:∀a dx t s',Inv X pins σ (upd H dx (.xd [(fld,v)])) s'->s.heap.get? a=none->s.heap.get? dx=none->H dx=none->H a=none->dx≠a->s'.heap.get? a=some (A0h C (some dx) t)->Q (.ref a) s'):wpAny (model X.prog X.w) X.A (call (.ref C) [u]) Q X.xe s:=by
 have KX:=I.kIn
 obtain⟨h,g,d,t,os⟩:=s
 refine C9u (hx.xc KX) (A9h KX fi) (λself=>PySem.W.bind_fn KX self fn) (λh' e hz hm=>?_) (by show 1<=sizeLine;decide)
 have I1:Inv X pins σ H ⟨h',g,d,t,os⟩:=I.kept (h':=h') (t':=t) hm.keeps
 obtain⟨t0,he,ht0,htu⟩:=hm.there
 have nfs:e∉frs X.stack:=λz=>by
  rcases J8.mp (I.stkSub e z) with q | q
  ·exact absurd (q▸I.lt) (A7v.mpr hz)
  ·exact I.nofs hz q
 refine wpAny_call (codeAny_mono (F _ X.stack ⟨h',g,d,t,os⟩ H u v e t0 (hr.make C [u] []) (I1.env0.make C [u] []) r he (I.hok.fresh hz) nfs) λrr s' hh=>?_)
 obtain⟨rfl,hos,hba,hun,hok,dx,u',n1,n2,n3,n4,n5⟩:=hh
 have hd0:h.get? dx=none:=by
  cases z:h.get? dx with
  | none=>rfl
  | some o=>have:=hm.keeps dx o z;rw[n1] at this;cases this
 have hH:H dx=none:=HOk.gone I.hok hd0
 have un2:Un (frs X.stack) [e] H (upd H dx (.xd [(fld,v)])) h' s'.heap:=⟨hun.keep,hun.slot,λb o q n nx=>by rw[B1 (λz=>by rw[z,n1] at q;cases q)];exact hun.free b o q n nx,hun.there,
  λb xs q=>by rw[B1 (P6 q hH)];exact hun.tups b xs q,λb o u q=>by rw[B1 (P6 q hH)];exact hun.frzs b o u q,λb ps q=>by rw[B1 (P6 q hH)];exact hun.tbls b ps q⟩
 have hok2:HOk X.prog X.w (upd H dx (.xd [(fld,v)])) s'.heap:=λb o q=>by
  by_cases hb:b=dx
  ·subst hb
   rw[B2] at q
   cases q
   refine⟨_,n4,λy=>?_⟩
   by_cases hy:y=fld
   ·subst hy;simp [U9,n5]
   ·have:(y == fld)=false:=beq_eq_false_iff_ne.mpr hy
    simp [U9,A3m,this,hy]
  ·rw[B1 hb] at q
   refine (hok b o q).stay (λ_ _ _ z=>z) (λc z=>?_) λc xs z=>?_
   ·rw[B1 (P6 z hH)];exact z
   ·rw[B1 (P6 z hH)];exact z
 refine⟨rfl,hq e dx t0 s' (I1.call' hos un2 hok2 hba λb hb=>?_) hm.new hd0 hH (I.hok.fresh hz) n2 n3⟩
 obtain rfl:b=e:=by simpa using hb
 refine⟨.inr (X0 I.sz hz),λq=>absurd (q▸I.lt) (A7v.mpr hz),λx c q z=>?_,λp hp z=>?_⟩
 ·obtain⟨cv,hcv⟩:=I.cell x c q
  exact absurd (z▸hcv.lt) (A7v.mpr hz)
 ·exact absurd (z▸F9 (I.pin p hp).1) (A7v.mpr hz)
end
structure Xs (h:Heap) (a C:Addr) (dd tb:Option Addr):Prop where
 ob:Xo h a C dd (match tb with | none=>.none | some T=>.ref T)
 en:∀T,tb=some T->T≠a/\∃o ts,h.get? T=some o/\o.data=.fields ts/\ts[3]?=some .none
def CXe (P:Program) (w:World):CXT:=λouter H s E e s'=>∃a C dd tb H',e=.ref a/\s'.os=s.os/\AllBare s'.gens/\Un (frs outer) [] H H' s.heap s'.heap/\HOk P w H' s'.heap/\
 s.heap.get? a=none/\(∀T,tb=some T->s.heap.get? T=none/\H' T=none)/\H' a=none/\Xs s'.heap a C dd tb/\E (.ref C) dd H'
section
variable {M:Model} {X:Cx} {pins:List (Addr×Obj)} {σ:St} {H:Hp} {s:Shared} {a C:Addr} {dd tb:Option Addr}
abbrev A69 (X:Cx) (h:Heap) (a:Addr) (tb:Option Addr):Heap:=PySem.W.hideAll h (frs X.stack++a::tb.toList)
theorem Xs.fly (I:Inv X pins σ H s) (x:Xs s.heap a C dd tb):Fly (A69 X s.heap a tb) X.stack a C dd s.heap where
 stay:=λ_ _ e=>PySem.W.of_hideAll _ e
 new:=C3s _ (p8 _ D4)
 fr:=PySem.W.funFrames_hide I.stack λenv he b hb=>A9g _ (B6t.mpr ⟨env,he,hb⟩)
 ob:=by
  refine⟨_,x.ob,?_⟩
  cases tb with
  | none=>exact .inl rfl
  | some T=>
   obtain⟨n,o,ts,h1,h2,h3⟩:=x.en T rfl
   exact .inr ⟨T,o,ts,rfl,C3s _ (p8 _ (C8 _ (by simp))),n,h1,h2,h3⟩
theorem A7a {h':Heap} (F:(A69 X s.heap a tb).StaysIn h') {b:Addr} {o:Obj} (e:s.heap.get? b=some o) (n1:b∉frs X.stack) (n2:b≠a) (n3:tb≠some b):h'.get? b=some o:=
 F b o (C3r _ e λz=>by
  rcases A0l.mp z with z | z
  ·exact n1 z
  ·rcases J8.mp z with z | z
   ·exact n2 z
   ·cases tb with
    | none=>cases z
    | some T=>exact n3 (by rw[j5.mp z]))
theorem C0v {h':Heap} (I:Inv X pins σ H s) (F:(A69 X s.heap a tb).StaysIn h') (ha:H a=none) (ht:∀T,tb=some T->H T=none):HOk X.prog X.w H h':=λb o q=>
 (I.hok b o q).stay (λc u hc e=>by
  have hs:∃y,H c=some y:=by
   rcases hc with z | z
   ·exact⟨o,z▸q⟩
   ·exact⟨_,z⟩
  obtain⟨y,hy⟩:=hs
  refine A7a F e (λz=>?_) (λz=>?_) λz=>?_
  ·rw[I.stkFree c z] at hy;cases hy
  ·rw[z,ha] at hy;cases hy
  ·rw[ht c z] at hy;cases hy) (λ_ z=>z) λ_ _ z=>z
theorem Xs.of_fly {l:List Env} {h':Heap} (I:Inv X pins σ H s) (F:Fly (A69 X s.heap a tb) l a C dd h') (U:s.heap.UpToSlots h') (nt:∀T,tb=some T->X.s₀.heap.get? T=none/\H T=none) :
  ∃tb',Xs h' a C dd tb'/\(∀T,tb'=some T->X.ex=[]->X.s₀.heap.get? T=none/\H T=none)/\∀T,tb'=some T->tb=some T\/s.heap.get? T=none:=by
 obtain⟨v,ob,te⟩:=F.ob
 rcases te with rfl | ⟨T,o,ts,rfl,hb,n,h1,h2,h3⟩
 ·exact⟨none,⟨ob,λT z=>nomatch z⟩,(λT z=>nomatch z),λT z=>nomatch z⟩
 ·have key:tb=some T\/s.heap.get? T=none:=by
   cases hs:s.heap.get? T with
   | none=>exact .inr rfl
   | some u=>
    by_cases ht:tb=some T
    ·exact .inl ht
    ·exfalso
     by_cases hf:T∈frs X.stack
     ·obtain⟨_,u',hu,nf⟩:=I.stack.mem hf
      obtain⟨sl,z⟩:=U T u' hu nf
      rw[h1] at z
      cases z
      exact nf ts h2
     ·have z:(A69 X s.heap a tb).get? T=some u:=C3r _ hs λz=>by
       rcases A0l.mp z with z | z
       ·exact hf z
       ·rcases J8.mp z with z | z
        ·exact n z
        ·cases tb with
         | none=>cases z
         | some T'=>exact ht (by rw[j5.mp z])
      rw[hb] at z;cases z
  refine⟨some T,⟨ob,λT' z=>?_⟩,λT' z hex=>?_,λT' z=>?_⟩
  ·cases z;exact⟨n,o,ts,h1,h2,h3⟩
  ·cases z
   rcases key with ht | hs
   ·exact nt T ht
   ·refine⟨?_,HOk.gone I.hok hs⟩
    cases z:X.s₀.heap.get? T with
    | none=>rfl
    | some u=>
     obtain⟨u',y⟩:=I.base.there T u z (by rw[hex];simp)
     rw[hs] at y;cases y
  ·cases z;exact key
theorem C92 {E:XK} {E':Value->Shared->Prop} (I:Inv X pins σ H s) (hst:X.stack=X.env::X.outer) (hfr:X.env.frame=some X.env.locals) (hex:X.ex=[])
  (x:Xs s.heap a C dd tb) (na:X.s₀.heap.get? a=none) (nt:∀T,tb=some T->X.s₀.heap.get? T=none/\H T=none) (ha:H a=none) (q:E (.ref C) dd H) :
  wpAny (model X.prog X.w) X.A (leaving X.env (.ref a)) (λ_ s''=>CXe X.prog X.w X.outer X.H₀ X.s₀ E (.ref a) s'') E' s:=by
 have F:=x.fly I
 rw[hst] at F
 refine C9r (by rw[<-hst];exact I.ok.frames) hfr F λh' F' U=>?_
 obtain⟨tb',x',nt',_⟩:=Xs.of_fly I F' U nt
 have nl:∀b o,X.s₀.heap.get? b=some o->b∉X.fs->b∉frs X.stack:=λb o e nb z=>by
  rw[hst] at z
  unfold frs at z
  rw[B6q,hfr] at z
  rcases J8.mp z with z | z
  ·exact absurd (z▸F9 e) (A7v.mpr I.ok.above)
  ·exact nb z
 have nb:∀b o,X.s₀.heap.get? b=some o->b≠a/\tb≠some b:=λb o e=>⟨λz=>(by rw[z,na] at e;cases e),λz=>(by rw[(nt b z).1] at e;cases e)⟩
 have nex:∀b,b∉X.ex:=λb z=>by rw[hex] at z;cases z
 refine⟨a,C,dd,tb',H,rfl,I.os,I.bare,⟨λb o e n nf _=>?_,λb o e n hf _=>?_,λb o e n _=>I.base.free b o e n (nex b),λb o e _=>?_,I.base.tups,I.base.frzs,I.base.tbls⟩,C0v I F'.stay ha λT z=>(nt T z).2,na,λT z=>nt' T z hex,ha,x',q⟩
 ·exact A7a F'.stay (I.base.keep b o e n nf (nex b)) (nl b o e nf) (nb b o e).1 (nb b o e).2
 ·obtain⟨sl,e1⟩:=I.base.slot b o e n hf (nex b)
  obtain⟨_,u,hu,nf⟩:=I.ok.funs.mem hf
  rw[e] at hu
  cases hu
  obtain⟨sl',e2⟩:=U b _ e1 nf
  exact⟨sl',e2⟩
 ·obtain⟨u,e1⟩:=I.base.there b o e (nex b)
  by_cases hf:b∈frs X.stack
  ·obtain⟨_,u',hu,nf⟩:=I.stack.mem hf
   obtain⟨sl,z⟩:=U b u' hu nf
   exact⟨_,z⟩
  ·exact⟨u,A7a F'.stay e1 hf (nb b o e).1 (nb b o e).2⟩
end
def Rzs (X:Cx) (E:XK):Prop:=∀(pins:List (Addr×Obj)) (σ:St) (H:Hp) (s:Shared) (a C:Addr) (dd tb:Option Addr),Inv X pins σ H s->Xs s.heap a C dd tb->X.s₀.heap.get? a=none->(∀T,tb=some T->X.s₀.heap.get? T=none/\H T=none)->H a=none->
 (∀p∈X.pn++pins,p.1≠a/\tb≠some p.1)->E (.ref C) dd H->X.xe (.ref a) s
theorem A1g {P:Program} {w:World} {K:A4} {mg:Str->Option Value} {base:Heap} {N:List Str} {qual:Str} {scope:Scope} {f:Addr} {cd:Value} {A:Around} {outer:List Env} {s:Shared} {H:Hp} {E:XK} :
  Rzs (O6 (CXe P w) P w K mg base N qual scope f cd A outer s H E) E:=λpins σ H' s' a C dd tb I x na nt ha _ q=>C92 (X:=O6 (CXe P w) P w K mg base N qual scope f cd A outer s H E) I rfl rfl rfl x na nt ha q
section
variable {X:Cx} {E:XK}
theorem A5d (hex:X.ex=[]) (R:Rzs X E):A2w (CXe X.prog X.w) X E:=λpins σ H s e s' I h=>by
 obtain⟨a,C,dd,tb,H',rfl,os,ba,un,hok,na,nt,ha,x,q⟩:=h
 have old:∀b,s.heap.get? b=none->X.s₀.heap.get? b=none:=λb e=>by
  cases z:X.s₀.heap.get? b with
  | none=>rfl
  | some o=>
   obtain⟨u,y⟩:=I.base.there b o z (by rw[hex];simp)
   rw[e] at y;cases y
 exact R pins σ H' s' a C dd tb (I.call' os un hok ba λb hb=>absurd hb (by simp)) x (old a na) (λT z=>⟨old T (nt T z).1,(nt T z).2⟩) ha (λp hp=>⟨λz=>(by have:=(I.pin p hp).1;rw[z,na] at this;cases this),λz=>(by have:=(I.pin p hp).1;rw[(nt _ z).1] at this;cases this)⟩) q
variable {x fld:Str} {p cp pos:Pos} {e:Expr} {t:TA} {C f:Addr} {k:Nat}
def tRz (C:Addr) (fld:Str) (E:XK) (t:TA):TS:=λ_ σ H=>t σ H λvs H1=>∃v,vs=[v]/\∀dx,H1 dx=none->E (.ref C) (some dx) (upd H1 dx (.xd [(fld,v)]))
theorem B4a (R:Rzs X E) (hex:X.ex=[]) (hcalm:X.calm=true) (hr:N6 (k + 1) X.A) (hg:Gl X x) (hm:X.mg x=some (.ref C)) (kp:j4 X.K (.ref C)=true) (hx:XcK X.K C) (F:A5c X.prog X.w X.K X.mg X.base k f C fld)
  (fi:J7 X.K (.ref C) "__init__" = some (some (.ref f))) (fn:A5v X.K (.ref f)=some (.type "function")) (ha:PA X [e] t)
  (hdb:(x == ("__debug__" : Str))=false:=by decide) (he:starEach [e] X.env=(false,eval e X.env)::starEach [] X.env:=by rfl) (hpl:(backTo cp (starEach [] X.env)).any (·.1)=false:=by rfl) :
  PS X (.Raise (some (.Call (.Name x p) [e] [] cp)) none pos) (tRz C fld E t):=by
 intro pins s σ H D I h
 have hh:X.A.handled=none:=I.ok.hd hcalm
 obtain⟨nm,q,N,TE,bs,sn,sub,ab,col,dd,k0,k1,k2,k3,k5,hC,hn,T⟩:=hx.ob
 rw[arm_exec_Raise]
 refine wpAny_bind (wpAny_standAt (C0u (C:=C) (nm:=nm) (q:=q) (N:=N) (bs:=bs) (bm:=.ref TE::VE) (hdct:=true) (sn:=sn) (sub:=sub) (ab:=ab) (col:=col) (dd:=dd) (k0:=k0) (k1:=k1) (k2:=k2) (k3:=k3) (k5:=k5) (newId:= "ValueError.__new__") (by rw[A53];rfl) hh ?_))
 refine wpAny_bind (wpAny_mono (Q:=λv s1=>∃e t dx,v=.ref e/\s1.heap.get? C=some _/\s1.heap.get? e=some (A0h C dx t)/\X.xe (.ref e) s1) ?_ (λv s3 h3=>wpAny_bind (wpAny_standAt (wpAny_pure h3))) λ_ _ y=>y)
 refine wpAny_Call_Name_kw (A59 I hg hm ?_ hdb)
 refine B16 (h₀:=X.base) I.ok.mod.kin kp (thn (ha cp pins s σ H _ I h) λus s1 zz=>el5 zz λvs H1 I1 r q=>⟨I1.kIn,?_⟩) he hpl
 obtain⟨v,rfl,q⟩:=q
 cases r with
 | cons r r'=>
  cases r'
  have old:∀b,s1.heap.get? b=none->X.s₀.heap.get? b=none:=λb e=>by
   cases z:X.s₀.heap.get? b with
   | none=>rfl
   | some o=>
    obtain⟨u,y⟩:=I1.base.there b o z (by rw[hex];simp)
    rw[e] at y;cases y
  refine C91 I1 hr hx F fi fn r λa dx t s' I' na nd hd hA ne ob=>⟨a,t,some dx,rfl,I'.kIn _ _ hC,ob,?_⟩
  refine R pins σ _ s' a C (some dx) none I' ⟨⟨_,_,ob,rfl,rfl,rfl,rfl⟩,λT z=>nomatch z⟩ (old a na) (λT z=>nomatch z) ?_ (λp hp=>⟨λz=>(by have:=(I1.pin p hp).1;rw[z,na] at this;cases this),λz=>nomatch z⟩) (q dx hd)
  rw[B1 (Ne.symm ne)];exact hA
end
structure Xc0 (K:A4) (C:Addr):Prop where
 ob:∃(nm q:Str) (N TE:Addr) (bs:List Value) (sn:List Str) (sub:List Value) (ab:Bool) (col:Option Bool) (dd:Option Addr) (k0 k1 k2 k3 k5:Option Value),
  K.lookup C=some (excClassObj nm q C N bs (.ref TE::VE) true sn sub ab col dd k0 k1 k2 k3 k5 "ValueError.__new__")/\B2k K N=true/\T5 K N "__init__" = some none/\A7z K VE (.ref TE::VE)=true
section
variable {X:Cx} {pins:List (Addr×Obj)} {σ:St} {H:Hp} {s:Shared} {C f:Addr} {E:XK}
theorem C93 {u:Value} {Q:Value->Shared->Prop} (I:Inv X pins σ H s) (hx:Xc0 X.K C)
  (hq:∀a t s',Inv X pins σ H s'->s.heap.get? a=none->H a=none->s'.heap.get? a=some (A0h C none t)->Q (.ref a) s'):wpAny (model X.prog X.w) X.A (call (.ref C) [u]) Q X.xe s:=by
 obtain⟨nm,q,N,TE,bs,sn,sub,ab,col,dd,k0,k1,k2,k3,k5,hC,hn,hi,T⟩:=hx.ob
 obtain⟨h,g,d,t,os⟩:=s
 refine wpAny_call_exc_subT PySem.F.excBase_ValueError (PySem.W.tail_of_in I.kIn T) (I.kIn _ _ hC) (.of_isNs (PySem.W.isNs_of_in I.kIn hn)) (PySem.W.nsMap_none_of_in I.kIn hn hi) (λh' e hm=>?_) (by show 1<=sizeLine;decide)
 obtain⟨t0,he,ht0,htu⟩:=hm.there
 exact hq e t0 _ (I.kept (h':=h') (t':=t) hm.keeps) hm.new (HOk.gone I.hok hm.new) he
variable {x:Str} {p cp pos:Pos} {e:Expr} {t:TA}
def C94 (C:Addr) (E:XK) (t:TA):TS:=λ_ σ H=>t σ H λvs H1=>(∃v,vs=[v])/\E (.ref C) none H1
theorem A8u (R:Rzs X E) (hex:X.ex=[]) (hcalm:X.calm=true) (hg:Gl X x) (hm:X.mg x=some (.ref C)) (kp:j4 X.K (.ref C)=true) (hx:Xc0 X.K C) (ha:PA X [e] t)
  (hdb:(x == ("__debug__" : Str))=false:=by decide) (he:starEach [e] X.env=(false,eval e X.env)::starEach [] X.env:=by rfl) (hpl:(backTo cp (starEach [] X.env)).any (·.1)=false:=by rfl) :
  PS X (.Raise (some (.Call (.Name x p) [e] [] cp)) none pos) (C94 C E t):=by
 intro pins s σ H D I h
 have hh:X.A.handled=none:=I.ok.hd hcalm
 obtain⟨nm,q,N,TE,bs,sn,sub,ab,col,dd,k0,k1,k2,k3,k5,hC,hn,hi,T⟩:=hx.ob
 rw[arm_exec_Raise]
 refine wpAny_bind (wpAny_standAt (C0u (C:=C) (nm:=nm) (q:=q) (N:=N) (bs:=bs) (bm:=.ref TE::VE) (hdct:=true) (sn:=sn) (sub:=sub) (ab:=ab) (col:=col) (dd:=dd) (k0:=k0) (k1:=k1) (k2:=k2) (k3:=k3) (k5:=k5) (newId:= "ValueError.__new__") (by rw[A53];rfl) hh ?_))
 refine wpAny_bind (wpAny_mono (Q:=λv s1=>∃e t dx,v=.ref e/\s1.heap.get? C=some _/\s1.heap.get? e=some (A0h C dx t)/\X.xe (.ref e) s1) ?_ (λv s3 h3=>wpAny_bind (wpAny_standAt (wpAny_pure h3))) λ_ _ y=>y)
 refine wpAny_Call_Name_kw (A59 I hg hm ?_ hdb)
 refine B16 (h₀:=X.base) I.ok.mod.kin kp (thn (ha cp pins s σ H _ I h) λus s1 zz=>el5 zz λvs H1 I1 r q=>⟨I1.kIn,?_⟩) he hpl
 obtain⟨⟨v,rfl⟩,q⟩:=q
 cases r with
 | cons r r'=>
  cases r'
  refine C93 I1 hx λa t s' I' na hA ob=>⟨a,t,none,rfl,I'.kIn _ _ hC,ob,?_⟩
  refine R pins σ _ s' a C none none I' ⟨⟨_,_,ob,rfl,rfl,rfl,rfl⟩,λT z=>nomatch z⟩ ?_ (λT z=>nomatch z) hA (λp hp=>⟨λz=>(by have:=(I1.pin p hp).1;rw[z,na] at this;cases this),λz=>nomatch z⟩) q
  cases z:X.s₀.heap.get? a with
  | none=>rfl
  | some o=>
   obtain⟨u,y⟩:=I1.base.there a o z (by rw[hex];simp)
   rw[na] at y;cases y
end
abbrev XO (a C:Addr) (dd:Option Addr):HO:=.ext λh=>∃o vs,h.get? a=some o/\o.cls=.ref C/\o.dict=dd/\o.data=.fields vs
theorem C95 {P:Program} {w:World} {H:Hp} {h:Heap} {a C:Addr} {dd tb:Option Addr} (x:Xs h a C dd tb):K2 P w H h a (XO a C dd):=by
 obtain⟨o,vs,h1,h2,h3,h4,_⟩:=x.ob
 exact⟨⟨o,vs,h1,h2,h3,h4⟩,⟨o,h1⟩,λg1 g2 ⟨o,vs,e1,e2,e3,e4⟩ k=>⟨o,vs,k o e1,e2,e3,e4⟩⟩
abbrev Cx.han (X:Cx) (a:Addr):Cx:={ X with A:=X.A.mark (some (.ref a)),calm:=false,xe:=λ_ _=>False }
section
variable {X:Cx} {pins:List (Addr×Obj)} {σ:St} {H:Hp} {s:Shared} {a C:Addr} {dd tb:Option Addr}
theorem Inv.han (I:Inv X pins σ H s) (a:Addr):Inv (X.han a) pins σ H s:=
 ⟨⟨I.ok.mod,I.ok.kind,I.ok.glob,I.ok.blt,I.ok.above,I.ok.inj,I.ok.has,I.ok.cab,(λz=>nomatch z),I.ok.frames,I.ok.stk,I.ok.exf,I.ok.bs,I.ok.bsz,I.ok.noex,I.ok.exfs,I.ok.funs,I.ok.frf⟩,I.os,I.bare,I.base,I.loc,I.cell,I.free,I.freeC,I.pin,I.hok,I.len⟩
theorem Inv.unhan (I:Inv (X.han a) pins σ H s) (hd:X.calm=true->X.A.handled=none):Inv X pins σ H s:=
 ⟨⟨I.ok.mod,I.ok.kind,I.ok.glob,I.ok.blt,I.ok.above,I.ok.inj,I.ok.has,I.ok.cab,hd,I.ok.frames,I.ok.stk,I.ok.exf,I.ok.bs,I.ok.bsz,I.ok.noex,I.ok.exfs,I.ok.funs,I.ok.frf⟩,I.os,I.bare,I.base,I.loc,I.cell,I.free,I.freeC,I.pin,I.hok,I.len⟩
theorem Inv.forget (I:Inv X pins σ H s):Inv X pins (E5 X.N.length none) H s:=by
 obtain⟨m,hn,_⟩:=I.loc
 refine⟨I.ok,I.os,I.bare,I.base,⟨m,hn,λi x v _ e _=>?_⟩,I.cell,I.free,I.freeC,I.pin,I.hok,A1o⟩
 rw[A7r] at e
 split at e <;> cases e
theorem Inv.flown {l:List Env} {h':Heap} (I:Inv X pins σ H s) (x:Xs s.heap a C dd tb) (F:Fly (A69 X s.heap a tb) l a C dd h') (U:s.heap.UpToSlots h') (hex:X.ex=[]) (na:X.s₀.heap.get? a=none)
  (nt:∀T,tb=some T->X.s₀.heap.get? T=none/\H T=none) (ha:H a=none) (np:∀p∈X.pn++pins,p.1≠a/\tb≠some p.1):Inv X pins σ H { s with heap:=h' }:=by
 have nex:∀b,b∉X.ex:=λb z=>by rw[hex] at z;cases z
 have nb:∀b o,X.s₀.heap.get? b=some o->b≠a/\tb≠some b:=λb o e=>⟨λz=>(by rw[z,na] at e;cases e),λz=>(by rw[(nt b z).1] at e;cases e)⟩
 have nl:∀b,b≠X.env.locals->b∉X.fs->b∉frs X.stack:=λb h1 h2 z=>by
  rcases J8.mp (I.stkSub b z) with z | z
  ·exact h1 z
  ·exact h2 z
 have nrec:∀b o,s.heap.get? b=some o->(∀vs,o.data≠.fields vs)->b≠a/\tb≠some b:=λb o e nf=>by
  obtain⟨oa,va,h1,_,_,h4,_⟩:=x.ob
  refine⟨λz=>?_,λz=>?_⟩
  ·rw[z,h1] at e
   exact nf va (Option.some.inj e▸h4)
  ·obtain⟨_,oT,ts,g1,g2,_⟩:=x.en b z
   rw[g1] at e
   exact nf ts (Option.some.inj e▸g2)
 have neL:∀b o,X.s₀.heap.get? b=some o->b≠X.env.locals:=λb o e=>N5 (V7 (F9 e) I.ok.above)
 obtain⟨m,hn,hl⟩:=I.loc
 have cellK:∀y c v,X.env.cells.lookup y=some c->s.heap.IsCell c v->h'.IsCell c v:=λy c v q hc=>by
  obtain⟨o,e,hd⟩:=hc
  obtain⟨sl,e'⟩:=U c o e λvs z=>by rw[hd] at z;cases z
  exact⟨_,e',hd⟩
 refine⟨I.ok,I.os,I.bare,⟨λb o e n nf _=>?_,λb o e n hf _=>?_,I.base.free,λb o e _=>?_,I.base.tups,I.base.frzs,I.base.tbls⟩,⟨m,U.ns hn,λi y v e1 e2 e3=>?_⟩,λy c q=>?_,I.free,I.freeC,λp hp=>?_,C0v I F.stay ha λT z=>(nt T z).2,I.len⟩
 ·exact A7a F.stay (I.base.keep b o e n nf (nex b)) (nl b (neL b o e) nf) (nb b o e).1 (nb b o e).2
 ·obtain⟨sl,e1⟩:=I.base.slot b o e n hf (nex b)
  obtain⟨_,u,hu,nf⟩:=I.ok.funs.mem hf
  rw[e] at hu
  cases hu
  obtain⟨sl',e2⟩:=U b _ e1 nf
  exact⟨sl',e2⟩
 ·obtain⟨u,e1⟩:=I.base.there b o e (nex b)
  by_cases hf:b∈frs X.stack
  ·obtain⟨_,u',hu,nf⟩:=I.stack.mem hf
   obtain⟨sl,z⟩:=U b u' hu nf
   exact⟨_,z⟩
  ·exact⟨u,A7a F.stay e1 hf (nb b o e).1 (nb b o e).2⟩
 ·obtain⟨u,r,lk⟩:=hl i y v e1 e2 e3
  refine⟨u,r,?_⟩
  rcases lk with z | ⟨z,c,q,hc⟩
  ·exact .inl z
  ·exact .inr ⟨z,c,q,cellK y c _ q hc⟩
 ·obtain⟨v,hc⟩:=I.cell y c q
  exact⟨v,cellK y c v q hc⟩
 ·obtain⟨p1,p2,p3,p4,p5⟩:=I.pin p hp
  exact⟨A7a F.stay p1 (nl _ p3 p4) (np p hp).1 (np p hp).2,p2,p3,p4,p5⟩
theorem Inv.goes {M:Model} {A:Around} {E:Value->Shared->Prop} {n:Str} {pos:Pos} {Q:Unit->Shared->Prop} (I:Inv X pins σ H s) (hl:X.env.scope.names.lookup n=some .local)
  (h:∀s',Inv X pins (E5 X.N.length none) H s'->Q () s'):wpAny M A (do bindName X.env n .none;unbindBehindTheSuite X.env n pos) Q E s:=by
 obtain⟨m,hn,_⟩:=id I.loc
 have hcls:(X.env.scope.kind == .class||(X.env.scope.kind == .module&&X.env.locals != X.env.globals))=false:=by rw[I.ok.kind];rfl
 refine wpAny_nameGoes (n:=n) hl hn hcls λh' m' hn' hs=>h _ ?_
 obtain⟨oL,_,_,hoL,_⟩:=id hn
 have neL:∀b o,X.s₀.heap.get? b=some o->b≠X.env.locals:=λb o e=>N5 (V7 (F9 e) I.ok.above)
 refine⟨I.ok,I.os,I.bare,⟨λb o e n hb hx=>(hs.2 b (neL b o e)).trans (I.base.keep b o e n hb hx),λb o e n hb hx=>?_,I.base.free,λb o e hx=>?_,I.base.tups,I.base.frzs,I.base.tbls⟩,⟨m',hn',λi x v _ e _=>?_⟩,λy c q=>?_,I.free,I.freeC,λp hp=>?_,λb ob e=>?_,A1o⟩
 ·obtain⟨sl,e1⟩:=I.base.slot b o e n hb hx
  exact⟨sl,(hs.2 b (neL b o e)).trans e1⟩
 ·obtain⟨o',e1⟩:=I.base.there b o e hx
  exact⟨o',(hs.2 b (neL b o e)).trans e1⟩
 ·rw[A7r] at e
  split at e <;> cases e
 ·obtain⟨v,o,e,hd⟩:=I.cell y c q
  exact⟨v,o,(hs.2 c (I.cne y c q)).trans e,hd⟩
 ·obtain⟨p1,p2,p3,p4,p5⟩:=I.pin p hp
  exact⟨(hs.2 p.1 p3).trans p1,p2,p3,p4,p5⟩
 ·refine (I.hok b ob e).stay (λc w' hc q=>(hs.2 c ?_).trans q) (λ_ q=>q) λ_ _ q=>q
  intro z
  rw[z] at hc
  rcases hc with y | y
  ·rw[<-y,I.free] at e;cases e
  ·rw[I.free] at y;cases y
abbrev Cx.pinned (X:Cx) (pn:List (Addr×Obj)) (E:Value->Shared->Prop):Cx:={ X with pn:=pn,xe:=E }
theorem Cx.Ok.pinned (ok:X.Ok) (pn:List (Addr×Obj)) (E:Value->Shared->Prop):(X.pinned pn E).Ok:=
 ⟨ok.mod,ok.kind,ok.glob,ok.blt,ok.above,ok.inj,ok.has,ok.cab,ok.hd,ok.frames,ok.stk,ok.exf,ok.bs,ok.bsz,ok.noex,ok.exfs,ok.funs,ok.frf⟩
theorem Cx.Ok.unpinned {pn:List (Addr×Obj)} {E:Value->Shared->Prop} (ok:(X.pinned pn E).Ok):X.Ok:=
 ⟨ok.mod,ok.kind,ok.glob,ok.blt,ok.above,ok.inj,ok.has,ok.cab,ok.hd,ok.frames,ok.stk,ok.exf,ok.bs,ok.bsz,ok.noex,ok.exfs,ok.funs,ok.frf⟩
theorem Inv.pinX (I:Inv X pins σ H s) (E:Value->Shared->Prop):Inv (X.pinned (X.pn++pins) E) [] σ H s:=
 ⟨I.ok.pinned _ E,I.os,I.bare,I.base,I.loc,I.cell,I.free,I.freeC,λp hp=>I.pin p (by rwa [A2j] at hp),I.hok,I.len⟩
theorem Inv.unpinX {ps:List (Addr×Obj)} {E:Value->Shared->Prop} (I:Inv (X.pinned (X.pn++pins) E) ps σ H s):Inv X pins σ H s:=
 ⟨I.ok.unpinned,I.os,I.bare,I.base,I.loc,I.cell,I.free,I.freeC,λp hp=>I.pin p (A9g _ hp),I.hok,I.len⟩
theorem Inv.trackX (I:Inv X pins σ H s) (x:Xs s.heap a C dd tb) (hex:X.ex=[]) (na:X.s₀.heap.get? a=none) (ha:H a=none) (np:∀p∈X.pn++pins,p.1≠a):Inv X pins σ (upd H a (XO a C dd)) s:=by
 obtain⟨oa,va,h1,_,_,h4,_⟩:=x.ob
 have nrec:∀b o,s.heap.get? b=some o->(∀vs,o.data≠.fields vs)->b≠a:=λb o e nf z=>by
  rw[z,h1] at e
  exact nf va (Option.some.inj e▸h4)
 obtain⟨m,hn,hl⟩:=id I.loc
 have nL:X.env.locals≠a:=by
  obtain⟨o,es,ep,e,hd,_⟩:=id hn
  exact nrec _ o e λvs z=>by rw[hd] at z;cases z
 refine⟨I.ok,I.os,I.bare,⟨I.base.keep,I.base.slot,λb o e n nx=>?_,I.base.there,λb xs q=>?_,λb o u q=>?_,λb ps q=>?_⟩,I.loc,I.cell,?_,λy c q=>?_,λp hp=>?_,λb o q=>?_,I.len⟩
 ·rw[B1 (λz=>by rw[z,na] at e;cases e)];exact I.base.free b o e n nx
 ·have:=I.base.tups b xs q
  rw[B1 (P6 this ha)];exact this
 ·have:=I.base.frzs b o u q
  rw[B1 (P6 this ha)];exact this
 ·obtain⟨more,this⟩:=I.base.tbls b ps q
  exact⟨more,by rw[B1 (P6 this ha)];exact this⟩
 ·rw[B1 nL];exact I.free
 ·obtain⟨v,o,e,hd⟩:=I.cell y c q
  rw[B1 (nrec c o e λvs z=>by rw[hd] at z;cases z)];exact I.freeC y c q
 ·obtain⟨p1,p2,p3,p4,p5⟩:=I.pin p hp
  exact⟨p1,by rw[B1 (np p hp)];exact p2,p3,p4,p5⟩
 ·by_cases hb:b=a
  ·subst hb;rw[B2] at q;cases q;exact C95 x
  ·rw[B1 hb] at q
   refine (I.hok b o q).stay (λ_ _ _ z=>z) (λc z=>?_) λc xs z=>?_
   ·rw[B1 (P6 z ha)];exact z
   ·rw[B1 (P6 z ha)];exact z
def C96 (K:A4) (TE:Addr) (len i:Nat) (E:XK) (tb:TS) (th:Addr->TS):TS:=λD σ H=>tb D σ H/\
 ∀(C:Addr) (dd:Option Addr) (H':Hp) (a:Addr),E (.ref C) dd H'->H' a=none->A70 K (.ref C) (.ref TE)=some true/\th a { nx:=λ_ _=>False,rt:=D.rt } ((E5 len none).set i (some (.ref a))) (upd H' a (XO a C dd))
theorem C97 {E:XK} {body suite:List Stmt} {b₀:Stmt} {tn n:Str} {tp hp pos:Pos} {tb:TS} {th:Addr->TS} {i:Nat} {TE:Addr} (hN:X.N.Nodup) (hi:X.N[i]?=some n) (hl:X.env.scope.names.lookup n=some .local) (hex:X.ex=[])
  (hst:X.stack=X.env::X.outer) (hfr:X.env.frame=some X.env.locals) (hg:Gl X tn) (hm:X.mg tn=some (.ref TE)) (hb:∀pn Eh,Rzs (X.pinned pn Eh) E->PSs (X.pinned pn Eh) body tb) (hs:∀a,PSs (X.han a) (b₀::suite) (th a))
  (hdb:(tn == ("__debug__" : Str))=false:=by decide) :
  PS X (.Try body [.ExceptHandler (some (.Name tn tp)) (some n) (b₀::suite) hp] [] [] pos) (C96 X.K TE X.N.length i E tb th):=by
 intro pins s σ H D I h
 obtain⟨h1,h2⟩:=h
 refine wpAny_Try_except ?_
 refine wpAny_mono (hb (X.pn++pins) _ (λpins' σ' H' s' a C dd tb I' x na nt ha np q=>?_) [] s σ H D (I.pinX _) h1) (λf s1 q=>?_) λ_ _ z=>z
 ·have J:Inv X pins σ' H' s':=I'.unpinX
  have np':∀p∈X.pn++pins,p.1≠a/\tb≠some p.1:=λp hp=>np p (A9g _ hp)
  have F:=x.fly J
  have F':=F
  rw[hst] at F'
  refine C0t (by rw[<-hst];exact J.ok.frames) hfr F' λg1 F1 U1=>?_
  have J1:=J.flown x F1 U1 hex na nt ha np'
  obtain⟨tb1,x1,nt1,nw1⟩:=Xs.of_fly J F1 U1 nt
  have np1:∀p∈X.pn++pins,p.1≠a/\tb1≠some p.1:=λp hp=>⟨(np' p hp).1,λz=>by
   rcases nw1 _ z with y | y
   ·exact (np' p hp).2 y
   ·have:=(J.pin p hp).1
    rw[y] at this;cases this⟩
  obtain⟨oa,va,e1,e2,e3,e4,_⟩:=x1.ob
  obtain⟨em,hth⟩:=h2 C dd H' a q ha
  refine wpAny_handleBy_cons (codeAny_handlers_test ?_) (by intro z;cases z)
  refine A59 (J1.han a) hg hm ?_ hdb
  have LT:A2n (model X.prog X.w) g1 (typeOf (.ref a)) (.ref C):=e2▸(A2n.ld e1).andThen .now
  refine (PySem.W.exm_one J1.kIn LT em).here ?_
  refine codeAny_handlers_suite_as ?_
  have F2:=x1.fly J1
  refine C9s F2 λg2 F2' U2=>?_
  have J2:=J1.flown x1 F2' U2 hex na (λT z=>nt1 T z hex) ha np1
  obtain⟨tb2,x2,nt2,nw2⟩:=Xs.of_fly J1 F2' U2 (λT z=>nt1 T z hex)
  have J3:=(J2.trackX x2 hex na ha λp hp=>(np1 p hp).1).forget
  refine A9v J3 hN hi (.inl hl) (show C9 (.ref a) (.ref a) from rfl) (λs4 J4=>?_) (.inr hl)
  refine wpAny_mono (hs a pins s4 _ _ _ (J4.han a) hth) (λf s5 q5=>?_) λ_ _ z=>z.elim
  cases f with
  | next=>exact (q5.elim λ_ y=>y.elim λ_ y=>y.2).elim
  | brk=>exact (q5.elim λ_ y=>y.elim λ_ y=>y.2).elim
  | cont=>exact (q5.elim λ_ y=>y.elim λ_ y=>y.2).elim
  | ret u=>
   obtain⟨v,σ5,H5,J5,r5,d5⟩:=q5
   exact (J5.unhan I.ok.hd).goes hl λs6 J6=>⟨v,_,H5,J6,r5,d5⟩
 ·cases f with
  | next=>
   obtain⟨σ',H',J,d⟩:=q
   exact wpAny_execs_nil ⟨σ',H',J.unpinX,d⟩
  | brk=>obtain⟨σ',H',J,d⟩:=q;exact⟨σ',H',J.unpinX,d⟩
  | cont=>obtain⟨σ',H',J,d⟩:=q;exact⟨σ',H',J.unpinX,d⟩
  | ret u=>obtain⟨v,σ',H',J,r,d⟩:=q;exact⟨v,σ',H',J.unpinX,r,d⟩
end
section
variable {prog:Program} {w:World} {A:Around} {E:Value->Shared->Prop} {h:Heap} {g:Array GenState} {d:Drawn} {t:Nat} {os:OsState} {C x:Addr} {ox:Obj} {od:Option Obj} {K:A4}
variable {nm q:Str} {N TE:Addr} {bs bmB:List Value} {sn:List Str} {sub:List Value} {ab:Bool} {col:Option Bool} {dd:Option Addr} {k0 k1 k2 k3 k5:Option Value} {newId:String} {name:Str} {tk:Tok}
def XcO (K:A4) (C:Addr):Prop:=∃(nm q:Str) (N TE:Addr) (bs:List Value) (sn:List Str) (sub:List Value) (ab:Bool) (col:Option Bool) (dd:Option Addr) (k0 k1 k2 k3 k5:Option Value) (newId:String),K.lookup C=some (excClassObj nm q C N bs (.ref TE::VE) true sn sub ab col dd k0 k1 k2 k3 k5 newId)
theorem C98:builtinKind "BaseException.__getattribute__" = some Manifest.AttrKind.slot:=by decide +kernel
theorem C99:splitId "BaseException.__getattribute__" = some ("BaseException", "__getattribute__"):=by decide +kernel
theorem C0w:plainId "BaseException.__getattribute__" = true:=by decide +kernel
theorem C0x {M:Model} {nv:Value} {Q:Unit->Shared->Prop} (hC:h.get? C=some (excClassObj nm q C N bs (.ref TE::VE) true sn sub ab col dd k0 k1 k2 k3 k5 newId))
  (hx:h.get? x=some ox) (hc:ox.cls=.ref C) (hq:Q () ⟨h,g,d,t,os⟩):wpAny M A (checkBuiltinCall "BaseException.__getattribute__" ⟨[.ref x,nv],[]⟩) Q E ⟨h,g,d,t,os⟩:=by
 have hcO:(Value.ref C::Value.ref TE::VE).contains (.type "BaseException")=true:=by
  rw[A53,A53];simp
 have ha:=PySem.F.args_bexc_ga (.ref x) nv
 simp only[checkBuiltinCall,C98,C99]
 refine wpAny_bind ?_
 unfold isInstance
 repeat (first | (with_reducible refine wpAny_loadPart_at hx ?_;rw[hc]) | (with_reducible refine wpAny_isSubtype_exc hC ?_;rw[hcO]) | wp_step)
 exact hq
theorem D0a {v:Value} {Q:PySem.Fin->Shared->Prop} (X:K.In h) (I:A3k h x ox C od) (fo:A9l K C od name=some (.value v)) (hq:Q (.done (.ret v)) ⟨h,g,d,t,os⟩) :
  wpAny (model prog w) A (Builtin.«object.__getattribute__» ⟨[.ref x,.str name tk],[]⟩) Q E ⟨h,g,d,t,os⟩:=by
 have hx:=I.at_
 have hc:=I.cls
 unfold Builtin.«object.__getattribute__» slotArgs
 repeat (first | (with_reducible refine wpAny_loadPart_at hx ?_;rw[hc]) | with_reducible refine (PySem.W.looks_find X I fo).at ?_ | wp_step)
 exact hq
theorem D0b {Q:PySem.Fin->Shared->Prop} (X:K.In h) (I:A3k h x ox C od) (fo:A9l K C od name=some (.bind (.builtin "getset_descriptor.__get__") (.builtin "object.__class__"))) (mo:Q7 K C (.type "object")=some true) (hq:Q (.done (.ret (.ref C))) ⟨h,g,d,t,os⟩) :
  wpAny (model prog w) A (Builtin.«object.__getattribute__» ⟨[.ref x,.str name tk],[]⟩) Q E ⟨h,g,d,t,os⟩:=by
 have hx:=I.at_
 have hc:=I.cls
 unfold Builtin.«object.__getattribute__» slotArgs
 repeat (first | (with_reducible refine wpAny_loadPart_at hx ?_;rw[hc]) | with_reducible refine (PySem.W.looks_find X I fo).at ?_ | wp_step)
 refine PySem.W.class_get (s:=⟨h,g,d,t,os⟩) (ox:=ox) (od:=od) X I mo ?_
 exact wpAny_pure hq
theorem C0y {v:Value} {fill expr:Bool} {Q:Value->Shared->Prop} (X:K.In h) (I:A3k h x ox C od) (g1:J7 K (.ref C) "__getattribute__" = some (some (.builtin "BaseException.__getattribute__"))) (g2:J7 K (.ref C) "__getattr__" = some none)
  (hcall:∀(A:Around) (R:Result->Shared->Prop),R (.ok (.ret v)) ⟨h,g,d,t,os⟩->codeAny (model prog w) A (.call (.builtin "BaseException.__getattribute__") ⟨[.ref x,.str name tk],[]⟩) R ⟨h,g,d,t,os⟩) (hv:PySem.W.handedIn v=true) (hq:Q v ⟨h,g,d,t,os⟩) :
  wpAny (model prog w) A (getAttrBy (.ref x) (.str name tk) fill expr) Q E ⟨h,g,d,t,os⟩:=by
 have hx:=I.at_
 have hc:=I.cls
 have f3:=(PySem.F.excAttr_ValueError).ga.bind (.ref x)
 unfold getAttrBy getAttrByItsOwn hookBefore callGetattribute boundAndCalled
 repeat (first | assumption | (with_reducible refine wpAny_loadPart_at hx ?_;rw[hc]) | with_reducible refine (A9h X g1).at ?_ | with_reducible refine (A9h X g2).at ?_ | wp_step)
 rw[if_neg (by rw[show onTheHeap (Value.builtin "BaseException.__getattribute__")=false from rfl,Bool.and_false];exact R9),f3]
 repeat (first | wp_step)
 refine hcall _ _ ?_
 exact PySem.W.handed_on hv hq
theorem D0c {v:Value} {A:Around} {R:Result->Shared->Prop} (hC:h.get? C=some (excClassObj nm q C N bs (.ref TE::VE) true sn sub ab col dd k0 k1 k2 k3 k5 newId)) (X:K.In h) (I:A3k h x ox C od) (fo:A9l K C od name=some (.value v))
  (hq:R (.ok (.ret v)) ⟨h,g,d,t,os⟩):codeAny (model prog w) A (.call (.builtin "BaseException.__getattribute__") ⟨[.ref x,.str name tk],[]⟩) R ⟨h,g,d,t,os⟩:=
 codeAny_call_builtin C0w PySem.F.entry_bexc_ga (C0x hC I.at_ I.cls (D0a X I fo hq))
theorem D0d {A:Around} {R:Result->Shared->Prop} (hC:h.get? C=some (excClassObj nm q C N bs (.ref TE::VE) true sn sub ab col dd k0 k1 k2 k3 k5 newId)) (X:K.In h) (I:A3k h x ox C od) (fo:A9l K C od name=some (.bind (.builtin "getset_descriptor.__get__") (.builtin "object.__class__"))) (mo:Q7 K C (.type "object")=some true)
  (hq:R (.ok (.ret (.ref C))) ⟨h,g,d,t,os⟩):codeAny (model prog w) A (.call (.builtin "BaseException.__getattribute__") ⟨[.ref x,.str name tk],[]⟩) R ⟨h,g,d,t,os⟩:=
 codeAny_call_builtin C0w PySem.F.entry_bexc_ga (C0x hC I.at_ I.cls (D0b X I fo mo hq))
end
structure XCl (K:A4) (C:Addr):Prop where
 g1:J7 K (.ref C) "__getattribute__" = some (some (.builtin "BaseException.__getattribute__"))
 g2:J7 K (.ref C) "__getattr__" = some none
 ob:XcO K C
 hd:A5u K C=true
 ha:J7 K (.ref C) "__class__" = some (some (.builtin "object.__class__"))
 hn:B14 K (.builtin "object.__class__") "__get__" = some (some (.builtin "getset_descriptor.__get__"))
 tk:B15 K (.builtin "object.__class__")=some true
 hm:Q7 K C (.type "object")=some true
theorem D0e {K:A4} {C a:Addr} (x:XCl K C):PySem.W.KitX K (.ref a) (.ref C) (λh=>∃ox od,A3k h a ox C od) where
 ty:=λ_ _ _ I=>I.elim λ_ I=>I.elim λ_ I=>I.type
 it:=λ_ _ X _=>by
  obtain⟨cd,hc,_⟩:=B6x x.hd
  unfold B63 at hc
  split at hc
  ·rename_i ho
   intro A' Q' E' s' k q
   unfold isType loadHead
   exact wpAny_bind (wpAny_loadPart (k _ _ (X _ _ ho)) (wpAny_pure q))
  ·cases hc
 ne:=λh tp dd its n sl X htp=>by
  obtain⟨cd,hc,_⟩:=B6x x.hd
  refine Bool.eq_false_iff.mpr λq=>?_
  cases Value.ref.inj (beq_iff_eq.mp q)
  unfold B63 at hc
  split at hc
  ·rename_i ho
   have z:=(X _ _ ho).symm.trans htp
   cases z
  ·cases hc
 ca:=λ{prog w A E Q s} X I k=>by
  obtain⟨ox,od,I⟩:=I
  have hf:A9l K C od "__class__" = some (.bind (.builtin "getset_descriptor.__get__") (.builtin "object.__class__")):=by
   obtain⟨cd,hc,_⟩:=B6x x.hd
   unfold A9l
   rw[hc,A3q,x.ha,A3q]
   simp only[x.hn,A3q,x.tk]
  obtain⟨nm,q,N,TE,bs,sn,sub,ab,col,dd,k0,k1,k2,k3,k5,nid,hC⟩:=x.ob
  obtain⟨hp,g,d,t,os⟩:=s
  unfold getAttr? getAttrBy?
  refine wpAny_bind (wpAny_mkText ?_)
  refine wpAny_bind (wpAny_attempt ?_)
  refine C0y X I x.g1 x.g2 (λA R hR=>D0d (X _ _ hC) X I hf x.hm hR) rfl (wpAny_pure k)
section
variable {X:Cx} {pins:List (Addr×Obj)} {σ:St} {H:Hp} {s:Shared} {a C:Addr} {dd:Option Addr}
theorem D0f (I:Inv X pins σ H s) (e:H a=some (XO a C dd)) (hd:∀dx,dd=some dx->∃o,H dx=some o):∃ox od,A3k s.heap a ox C od:=by
 obtain⟨⟨o,vs,h1,h2,h3,h4⟩,_,_⟩:=(show K2 X.prog X.w H s.heap a (XO a C dd) from I.hok a _ e)
 have nc:B64 o=true:=by unfold B64;rw[h4]
 cases dd with
 | none=>exact⟨o,none,h1,h2,nc,by rw[h3];trivial⟩
 | some dx=>
  obtain⟨u,hu⟩:=hd dx rfl
  obtain⟨od,z⟩:=(I.hok dx u hu).there
  exact⟨o,some od,h1,h2,nc,by rw[h3];exact z⟩
abbrev Y6 (K:A4):List V->Hp->VK->Prop:=λxs H Q=>∃a C dd c T b,xs=[.ref a,c]/\(c=.ref T/\K5 K (.ref C) (.ref T)=some b)/\H a=some (XO a C dd)/\(∀dx,dd=some dx->∃o,H dx=some o)/\XCl K C/\Q (.bl b) H
theorem A5e:X9 X (.builtin "isinstance") (Y6 X.K):=by
 intro pins s σ H xs us Q I r h
 obtain⟨a,C,dd,c,T,b,rfl,⟨rfl,k⟩,e,hd,xc,q⟩:=h
 obtain⟨u,w',rfl,r1,r2⟩:=A93 r
 obtain rfl:u=Value.ref a:=r1
 obtain rfl:w'=Value.ref T:=r2
 exact A0m (D0e xc) I.kIn (D0f I e hd) k (λz=>nomatch z) λtk=>⟨.bl b,H,I.tok tk,rfl,q⟩
def tXf (K:A4) (ta:TE) (f:Str):TE:=fun σ H Q=>ta σ H λx H1=>∃a C dx v,x=.ref a/\H1 a=some (XO a C (some dx))/\H1 dx=some (.xd [(f,v)])/\XCl K C/\d7 K C f/\Q v H1
theorem C0z {e:Expr} {f:Str} {pos:Pos} {ta:TE} (he:PE X e ta) (hb:attributeBase e f X.env (eval e X.env)=eval e X.env):PE X (.Attribute e f pos) (tXf X.K ta f):=by
 intro pins s σ H Q I h
 refine B7x hb (thn (he pins s σ H _ I h) λu s1 zz=>el5 zz λx H1 I1 rx q=>?_)
 obtain⟨a,C,dx,v,rfl,e1,e2,xc,nf,q⟩:=q
 obtain rfl:u=Value.ref a:=rx
 obtain⟨⟨o,vs,h1,h2,h3,h4⟩,_,_⟩:=(show K2 X.prog X.w H1 s1.heap a (XO a C (some dx)) from I1.hok a _ e1)
 obtain⟨mA,hn,hr⟩:=(show K2 X.prog X.w H1 s1.heap dx (.xd [(f,v)]) from I1.hok dx _ e2)
 obtain⟨od,ho,hl⟩:=B7s hn
 have nc:B64 o=true:=by unfold B64;rw[h4]
 have J:A3k s1.heap a o C (some od):=⟨h1,h2,nc,by rw[h3];exact ho⟩
 obtain⟨u,hu,ru⟩:=U9.some_of (v:=v) (o:=mA f) (by have:=hr f;simpa [A3m] using this)
 obtain⟨nm,q',N,TE,bs,sn,sub,ab,col,dd,k0,k1,k2,k3,k5,nid,hC⟩:=xc.ob
 have KX:=I1.kIn
 have I2:=I1.tok (s1.toks + 1)
 obtain⟨hp,g,d,t,os⟩:=s1
 unfold getAttr
 refine wpAny_bind (wpAny_mkText ?_)
 exact C0y KX J xc.g1 xc.g2 (λA R hR=>D0c (KX _ _ hC) KX J (PySem.W.findObj_own xc.hd nf rfl (by rw[hl,hu])) hR) (B7v ru) ⟨v,H1,I2,ru,q⟩
end
abbrev SpN:=List V->Hp->VK->Prop
section
variable {X:Cx} {k:Nat} {f:Addr} {fd:FuncData} {ps:List Str} {sp:SpN} {x:Str} {p pos:Pos} {e:Expr} {es:List Expr} {t:TA}
end
end L2
namespace My
open PySem L2
open PySem.Spec
abbrev C00:=List PyData->(PyData->Prop)->(Addr->Int->Prop)->Prop
section
variable {P:Program} {w:World} {K:A4} {mg:Str->Option Value} {base:Heap}
open Classical in
end
section
variable {X:Cx} {C:DC} {st:Stmt} {e:Expr} {te:DE} {u:DA} {E:XK} {Ex:Addr->Int->Prop} {fld:Str} {ms:List Md} {sp:C00} {Cl:Addr}
end
section
variable {X:Cx} {C:DC} {u:DA} {fld:Str} {ms:List Md} {sp:C00} {Cl0:Addr}
end
end My
namespace L2
open PySem PySem.Spec PyProof.Rows
section
variable {K:A4} {C T N TE:Addr} {oc:Value} {od dd:Option Addr} {sl:Array (Option Value)} {cd:ClassData} {b:Bool}
theorem B0y {es:Array DictEntry} {ep:Nat} (h:K.lookup N=some ⟨oc,od,.dict es ep,sl⟩) (ha:(es.toList.all λe=>match e.key with | .str _ _=>true | _=>false)=true):B2k K N=true:=by
 unfold B2k
 rw[h]
 rw[Array.all_toList] at ha
 exact ha
theorem C01 (h:K.lookup TE=some ⟨oc,dd,.cls cd,sl⟩) (h1:B2k K cd.ns=true) (h2:T5 K cd.ns "__init__" = some none):A7z K VE (.ref TE::VE)=true:=by
 have e:A7z K VE VE=true:=by
  show A7z K VE (.type "ValueError" ::[.type "Exception",.type "BaseException",.type "object"])=true
  rw[A7z]
  ·rw[beq_self_eq_true];rfl
  ·intro A z;cases z
 rw[A7z.eq_2,h]
 dsimp only
 rw[h1,e]
 have:(T5 K cd.ns (Str.ofString "__init__") == some none)=true:=by rw[h2];rfl
 rw[this];simp
theorem D0g:K5 K (.ref C) (.ref C)=some true:=by
 unfold K5
 rw[if_pos (beq_self_eq_true _)]
theorem C02 (h:K.lookup T=some ⟨.type "type",dd,.cls cd,sl⟩) (m:Q7 K C (.ref T)=some b):A7t K (.ref C) (.ref T)=some b:=by
 have e1:B63 K T=some cd:=by unfold B63;rw[h]
 have e2:A5v K (.ref T)=some (.type "type"):=by unfold A5v;dsimp only;rw[h];rfl
 unfold A7t
 dsimp only
 rw[e1,e2,if_pos (by rw[beq_self_eq_true];rfl)]
 exact m
theorem D0h (h:K.lookup T=some ⟨.type "type",dd,.cls cd,sl⟩) (m:Q7 K C (.ref T)=some b) (ne:(Value.ref C == Value.ref T)=false):K5 K (.ref C) (.ref T)=some b:=by
 unfold K5
 rw[if_neg (by rw[ne];exact R9)]
 exact C02 h m
theorem C03 (m:Q7 K C (.type "ValueError")=some b):K5 K (.ref C) (.type "ValueError")=some b:=by
 unfold K5
 rw[if_neg (by simp)]
 unfold A7t
 dsimp only
 rw[if_pos (KK)]
 exact m
theorem C04 (h:K.lookup T=some ⟨.type "type",dd,.cls cd,sl⟩) (m:Q7 K C (.ref T)=some b) (mb:Q7 K T (.type "BaseException")=some true):A70 K (.ref C) (.ref T)=some b:=by
 unfold A70
 rw[if_pos (by unfold PySem.W.subIn;dsimp only;rw[mb];rfl)]
 exact C02 h m
structure XcI (K:A4) (C TE xi:Addr) (fld:Str):Prop where
 xc:XcK K C
 kp:j4 K (.ref C)=true
 fi:J7 K (.ref C) "__init__" = some (some (.ref xi))
 fn:A5v K (.ref xi)=some (.type "function")
 f1:J7 K (.ref C) "__setattr__" = some (some (.builtin "object.__setattr__"))
 f2:J7 K (.ref C) fld=some none
 cl:XCl K C
 em:A70 K (.ref C) (.ref TE)=some true
 ve:K5 K (.ref C) (.type "ValueError")=some true
theorem XcI.of {xi TN:Addr} {fld:Str} {nm q:Str} {bs:List Value} {sn:List Str} {sub:List Value} {ab:Bool} {col:Option Bool} {k0 k1 k2 k3 k5:Option Value} {oc1 oc2:Value} {od1 od2:Option Addr} {es1 es2:Array DictEntry} {ep1 ep2:Nat} {sl1 sl2:Array (Option Value)} {dT:Option Addr} {cdT:ClassData} {slT:Array (Option Value)}
  (e2:K.lookup C=some (excClassObj nm q C N bs (.ref TE::VE) true sn sub ab col dd k0 k1 k2 k3 k5 "ValueError.__new__"))
  (e3:K.lookup N=some ⟨oc1,od1,.dict es1 ep1,sl1⟩) (a3:(es1.toList.all λe=>match e.key with | .str _ _=>true | _=>false)=true)
  (e4:K.lookup TE=some ⟨.type "type",dT,.cls cdT,slT⟩) (n4:cdT.ns=TN) (e5:K.lookup TN=some ⟨oc2,od2,.dict es2 ep2,sl2⟩) (a5:(es2.toList.all λe=>match e.key with | .str _ _=>true | _=>false)=true) (e6:T5 K TN "__init__" = some none)
  (kp:j4 K (.ref C)=true) (fi:J7 K (.ref C) "__init__" = some (some (.ref xi))) (fn:A5v K (.ref xi)=some (.type "function"))
  (f1:J7 K (.ref C) "__setattr__" = some (some (.builtin "object.__setattr__"))) (f2:J7 K (.ref C) fld=some none)
  (g1:J7 K (.ref C) "__getattribute__" = some (some (.builtin "BaseException.__getattribute__"))) (g2:J7 K (.ref C) "__getattr__" = some none)
  (hd:A5u K C=true) (ha:J7 K (.ref C) "__class__" = some (some (.builtin "object.__class__")))
  (hn:B14 K (.builtin "object.__class__") "__get__" = some (some (.builtin "getset_descriptor.__get__"))) (tk:B15 K (.builtin "object.__class__")=some true)
  (m1:Q7 K C (.type "object")=some true) (m2:Q7 K C (.type "ValueError")=some true) (m3:Q7 K C (.ref TE)=some true) (m4:Q7 K TE (.type "BaseException")=some true):XcI K C TE xi fld:=
 ⟨⟨nm,q,N,TE,bs,sn,sub,ab,col,dd,k0,k1,k2,k3,k5,e2,B0y e3 a3,C01 e4 (n4▸B0y e5 a5) (n4▸e6)⟩,kp,fi,fn,f1,f2,
  ⟨g1,g2,⟨nm,q,N,TE,bs,sn,sub,ab,col,dd,k0,k1,k2,k3,k5, "ValueError.__new__",e2⟩,hd,ha,hn,tk,m1⟩,C04 e4 m3 m4,C03 m2⟩
theorem XcI.init {P:Program} {w:World} {mg:Str->Option Value} {base:Heap} {k:Nat} {f:Addr} {fld qual me par:Str} {st:Stmt} {fd:FuncData} {p1 p2 p3 p4:Pos} (X:XcI K C TE f fld) (F:Fun K "__init__" qual st f fd)
  (hbody:A0r st=[.Assign [.Attribute (.Name me p1) fld p2] (.Name par p3) p4]) (S:D3 [me,par] [me,par] (B8 st))
  (hb:Y0 K fd [me,par] []) (d1:(me == ("__debug__" : Str))=false:=by decide) (d2:(me == ("__classdict__" : Str))=false:=by decide) (d3:(par == ("__debug__" : Str))=false:=by decide) (d4:(par == ("__classdict__" : Str))=false:=by decide)
  (sw:∀env,swapsWith (.Name par p3) (some (.Attribute (.Name me p1) fld p2)) p4.line env=pure false:=by intro _;rfl):A5c P w K mg base (k + 1) f C fld:=by
 obtain⟨oc,od,kV,doc,pm,an,cdv,ct,osl,rfl,lk,hcd⟩:=F.ex
 rw[hbody] at lk hb
 exact C90 lk hcd S d1 d2 d3 d4 sw X.f1 X.f2 X.xc hb
end
end L2
namespace My
open PySem L2
open PySem.Spec
section
variable {P:Program} {w:World} {K:A4} {mg:Str->Option Value} {base:Heap}
end
end My
namespace L2
open PySem PySem.Spec PyProof.Rows
def B4b (i:Nat):Stmt->Stmt
 | .ClassDef _ _ _ body _ _ _ _ _ _ _=>body.getD i (.Pass ⟨0,0,0,0⟩)
 | s=>s
section
variable {P:Program} {w:World} {K:A4} {mg:Str->Option Value} {base:Heap}
end
end L2
namespace My
open PySem L2
end My
namespace L2
open PySem PySem.Spec PyProof.Rows
section
variable {K:A4} {i:Nat} {a C T dx:Addr} {b:Bool} {σ:St} {H:Hp} {o:HO} {k:Int} {fld:Str}
end
section
variable {K:A4} {C T N TE:Addr} {dd:Option Addr}
structure XcN (K:A4) (C TE:Addr):Prop where
 xc:Xc0 K C
 kp:j4 K (.ref C)=true
 cl:XCl K C
 em:A70 K (.ref C) (.ref TE)=some true
 ve:K5 K (.ref C) (.type "ValueError")=some true
theorem XcN.of {TN:Addr} {nm q:Str} {bs:List Value} {sn:List Str} {sub:List Value} {ab:Bool} {col:Option Bool} {k0 k1 k2 k3 k5:Option Value} {oc1 oc2:Value} {od1 od2:Option Addr} {es1 es2:Array DictEntry} {ep1 ep2:Nat} {sl1 sl2:Array (Option Value)} {dT:Option Addr} {cdT:ClassData} {slT:Array (Option Value)}
  (e2:K.lookup C=some (excClassObj nm q C N bs (.ref TE::VE) true sn sub ab col dd k0 k1 k2 k3 k5 "ValueError.__new__"))
  (e3:K.lookup N=some ⟨oc1,od1,.dict es1 ep1,sl1⟩) (a3:(es1.toList.all λe=>match e.key with | .str _ _=>true | _=>false)=true) (i3:T5 K N "__init__" = some none)
  (e4:K.lookup TE=some ⟨.type "type",dT,.cls cdT,slT⟩) (n4:cdT.ns=TN) (e5:K.lookup TN=some ⟨oc2,od2,.dict es2 ep2,sl2⟩) (a5:(es2.toList.all λe=>match e.key with | .str _ _=>true | _=>false)=true) (e6:T5 K TN "__init__" = some none)
  (kp:j4 K (.ref C)=true)
  (g1:J7 K (.ref C) "__getattribute__" = some (some (.builtin "BaseException.__getattribute__"))) (g2:J7 K (.ref C) "__getattr__" = some none)
  (hd:A5u K C=true) (ha:J7 K (.ref C) "__class__" = some (some (.builtin "object.__class__")))
  (hn:B14 K (.builtin "object.__class__") "__get__" = some (some (.builtin "getset_descriptor.__get__"))) (tk:B15 K (.builtin "object.__class__")=some true)
  (m1:Q7 K C (.type "object")=some true) (m2:Q7 K C (.type "ValueError")=some true) (m3:Q7 K C (.ref TE)=some true) (m4:Q7 K TE (.type "BaseException")=some true):XcN K C TE:=
 ⟨⟨nm,q,N,TE,bs,sn,sub,ab,col,dd,k0,k1,k2,k3,k5,e2,B0y e3 a3,i3,C01 e4 (n4▸B0y e5 a5) (n4▸e6)⟩,kp,
  ⟨g1,g2,⟨nm,q,N,TE,bs,sn,sub,ab,col,dd,k0,k1,k2,k3,k5, "ValueError.__new__",e2⟩,hd,ha,hn,tk,m1⟩,C04 e4 m3 m4,C03 m2⟩
end
section
variable {P:Program} {w:World} {K:A4} {mg:Str->Option Value} {base:Heap}
theorem Fun.okX {x qual:Str} {st:Stmt} {f:Addr} {fd:FuncData} {N ps:List Str} {k:Nat} {sp:Sp} (F:Fun K x qual st f fd) (S:D3 N ps (B8 st)) (len:∀vs H Q E,sp vs H Q E->vs.length=ps.length)
  (hbody:∀(cdv:Value) (A:Around) (outer:List Env) (s:Shared) (H:Hp) (vs:List V) (Q:VK) (E:XK),N6 k (A.deeper (envOfC qual (B8 st) s.heap.objs.size f cdv))->sp vs H Q E->
   ∃t,PSs (O6 (CXe P w) P w K mg base N qual (B8 st) f cdv A outer s H E) (A0r st) t/\t { nx:=λ_ H'=>Q .non H',rt:=Q } (start N vs) H):B9 P w K mg base (CXe P w) (k + 1) f fd ps sp:=by
 obtain⟨oc,od,kV,doc,pm,an,cdv,ct,osl,rfl,lk,hcd⟩:=F.ex
 exact B75 lk hcd S len λA outer s H vs Q E hr hsp=>hbody cdv A outer s H vs Q E hr hsp
end
section
variable {K:A4} {i:Nat} {a C T:Addr} {dd:Option Addr} {b:Bool} {σ:St} {H:Hp}
structure Xat (K:A4) (H:Hp) (a C:Addr) (dd:Option Addr):Prop where
 h1:H a=some (XO a C dd)
 hd:∀dx,dd=some dx->∃o,H dx=some o
 cl:XCl K C
theorem Xat.keep {H':Hp} (h:Xat K H a C dd) (k:∀b o,H b=some o->H' b=some o):Xat K H' a C dd:=⟨k _ _ h.h1,λdx e=>(h.hd dx e).elim λo z=>⟨o,k _ _ z⟩,h.cl⟩
theorem Xat.isx {Q:VK} (h:Xat K H a C dd) (h3:σ[i]?=some (some (.ref a))) (kk:K5 K (.ref C) (.ref T)=some b) (q:Q (.bl b) H):tCB (Y6 K) (D9 (G0 i) (D9 (tC (.ref T)) G7)) σ H Q:=
 ⟨_,h3,a,C,dd,_,T,b,rfl,⟨rfl,kk⟩,h.h1,h.hd,h.cl,q⟩
end
end L2
namespace My
open PySem L2
theorem M0 {us:List Value} {n:Nat} (h:us.length=n + 1):∃a r,us=a::r/\r.length=n:=by
 cases us with
 | nil=>cases h
 | cons a r=>exact⟨a,r,rfl,Nat.succ.inj h⟩
theorem C05 {us:List Value} (h:us.length=0):us=[]:=by
 cases A3r h
 exact rfl
theorem B4c {us:List Value} (h:us.length=1):∃a0,us=[a0]:=by
 obtain⟨a0,u0,rfl,h0⟩:=M0 h
 cases A3r h0
 exact⟨a0,rfl⟩
theorem C06 {us:List Value} (h:us.length=2):∃a0 a1,us=[a0,a1]:=by
 obtain⟨a0,u0,rfl,h0⟩:=M0 h
 obtain⟨a1,u1,rfl,h1⟩:=M0 h0
 cases A3r h1
 exact⟨a0,a1,rfl⟩
theorem C07 {us:List Value} (h:us.length=3):∃a0 a1 a2,us=[a0,a1,a2]:=by
 obtain⟨a0,u0,rfl,h0⟩:=M0 h
 obtain⟨a1,u1,rfl,h1⟩:=M0 h0
 obtain⟨a2,u2,rfl,h2⟩:=M0 h1
 cases A3r h2
 exact⟨a0,a1,a2,rfl⟩
theorem C08 {us:List Value} (h:us.length=4):∃a0 a1 a2 a3,us=[a0,a1,a2,a3]:=by
 obtain⟨a0,u0,rfl,h0⟩:=M0 h
 obtain⟨a1,u1,rfl,h1⟩:=M0 h0
 obtain⟨a2,u2,rfl,h2⟩:=M0 h1
 obtain⟨a3,u3,rfl,h3⟩:=M0 h2
 cases A3r h3
 exact⟨a0,a1,a2,a3,rfl⟩
theorem C09 {us:List Value} (h:us.length=5):∃a0 a1 a2 a3 a4,us=[a0,a1,a2,a3,a4]:=by
 obtain⟨a0,u0,rfl,h0⟩:=M0 h
 obtain⟨a1,u1,rfl,h1⟩:=M0 h0
 obtain⟨a2,u2,rfl,h2⟩:=M0 h1
 obtain⟨a3,u3,rfl,h3⟩:=M0 h2
 obtain⟨a4,u4,rfl,h4⟩:=M0 h3
 cases A3r h4
 exact⟨a0,a1,a2,a3,a4,rfl⟩
theorem C1a {us:List Value} (h:us.length=6):∃a0 a1 a2 a3 a4 a5,us=[a0,a1,a2,a3,a4,a5]:=by
 obtain⟨a0,u0,rfl,h0⟩:=M0 h
 obtain⟨a1,u1,rfl,h1⟩:=M0 h0
 obtain⟨a2,u2,rfl,h2⟩:=M0 h1
 obtain⟨a3,u3,rfl,h3⟩:=M0 h2
 obtain⟨a4,u4,rfl,h4⟩:=M0 h3
 obtain⟨a5,u5,rfl,h5⟩:=M0 h4
 cases A3r h5
 exact⟨a0,a1,a2,a3,a4,a5,rfl⟩
theorem D7d {us:List Value} (h:us.length=7):∃a0 a1 a2 a3 a4 a5 a6,us=[a0,a1,a2,a3,a4,a5,a6]:=by
 obtain⟨a0,u0,rfl,h0⟩:=M0 h
 obtain⟨a1,u1,rfl,h1⟩:=M0 h0
 obtain⟨a2,u2,rfl,h2⟩:=M0 h1
 obtain⟨a3,u3,rfl,h3⟩:=M0 h2
 obtain⟨a4,u4,rfl,h4⟩:=M0 h3
 obtain⟨a5,u5,rfl,h5⟩:=M0 h4
 obtain⟨a6,u6,rfl,h6⟩:=M0 h5
 cases A3r h6
 exact⟨a0,a1,a2,a3,a4,a5,a6,rfl⟩
theorem D7e {us:List Value} (h:us.length=8):∃a0 a1 a2 a3 a4 a5 a6 a7,us=[a0,a1,a2,a3,a4,a5,a6,a7]:=by
 obtain⟨a0,u0,rfl,h0⟩:=M0 h
 obtain⟨a1,u1,rfl,h1⟩:=M0 h0
 obtain⟨a2,u2,rfl,h2⟩:=M0 h1
 obtain⟨a3,u3,rfl,h3⟩:=M0 h2
 obtain⟨a4,u4,rfl,h4⟩:=M0 h3
 obtain⟨a5,u5,rfl,h5⟩:=M0 h4
 obtain⟨a6,u6,rfl,h6⟩:=M0 h5
 obtain⟨a7,u7,rfl,h7⟩:=M0 h6
 cases A3r h7
 exact⟨a0,a1,a2,a3,a4,a5,a6,a7,rfl⟩
def top (i:Nat):Stmt:=PySem.Challenge.pw_trudge_k94_refused_at_every_door.main.body.getD i (.Pass ⟨0,0,0,0⟩)
abbrev B4d:Stmt:=B4b 0 (top 5)
abbrev B4e:Stmt:=B4b 0 (top 7)
abbrev B4f:Stmt:=B4b 0 (top 8)
abbrev B4g:Stmt:=top 12
abbrev B4h:Stmt:=top 13
abbrev B4i:Stmt:=top 14
abbrev B4j:Stmt:=top 15
abbrev B4k:Stmt:=top 16
abbrev B4l:Stmt:=top 24
abbrev B4m:Stmt:=top 25
abbrev B4n:Stmt:=top 26
abbrev B0z:Stmt:=top 27
abbrev B00:Stmt:=top 28
abbrev B01:Stmt:=top 30
abbrev B4o:Stmt:=top 31
abbrev B4p:Stmt:=top 32
abbrev B4q:Stmt:=top 34
abbrev B4r:Stmt:=top 39
abbrev B4s:Stmt:=top 40
abbrev B4t:Stmt:=top 41
abbrev B4u:Stmt:=top 42
abbrev B4v:Stmt:=top 43
abbrev B4w:Stmt:=top 49
abbrev B4x:Stmt:=top 50
abbrev B4y:Stmt:=top 51
abbrev B4z:Stmt:=top 55
abbrev B40:Stmt:=top 56
abbrev B41:Stmt:=top 57
abbrev B42:Stmt:=top 59
abbrev B43:Stmt:=top 60
abbrev B02:Stmt:=top 61
abbrev B03:Stmt:=top 62
abbrev B44:Stmt:=top 63
abbrev B45:Stmt:=top 64
abbrev B04:Stmt:=top 65
abbrev B46:Stmt:=top 66
abbrev B05:Stmt:=top 69
abbrev B47:Stmt:=top 70
abbrev B48:Stmt:=top 73
abbrev B06:Stmt:=top 74
abbrev B07:Stmt:=f9 (top 75) 0
abbrev B49:Stmt:=f9 (top 75) 1
abbrev B5a:Stmt:=f9 (top 75) 2
abbrev B5b:Stmt:=f9 (top 75) 3
abbrev B5c:Stmt:=f9 (top 75) 4
abbrev B5d:Stmt:=f9 (top 75) 5
abbrev B5e:Stmt:=f9 (top 75) 6
abbrev B5f:Stmt:=f9 (top 75) 7
abbrev B5g:Stmt:=f9 (top 75) 8
abbrev B5h:Stmt:=f9 (top 75) 9
abbrev B5i:Stmt:=f9 (top 75) 10
abbrev B08:Stmt:=f9 (top 75) 11
abbrev B5j:Stmt:=f9 (top 75) 12
abbrev B5k:Stmt:=f9 (top 75) 14
abbrev B5l:Stmt:=top 77
abbrev B5m:Stmt:=top 78
abbrev B5n:Stmt:=top 79
abbrev B5o:Stmt:=top 80
abbrev B5p:Stmt:=top 81
abbrev B5q:Stmt:=top 82
abbrev B5r:Stmt:=top 83
abbrev B09:Stmt:=top 84
abbrev B5s:Stmt:=top 85
abbrev A8v:Stmt:=top 86
abbrev B5t:Stmt:=top 87
abbrev B1a:Stmt:=top 88
abbrev B1b:Stmt:=top 89
abbrev A8w:Stmt:=top 90
abbrev B1c:Stmt:=top 91
abbrev B5u:Stmt:=top 92
abbrev A00:Stmt:=top 93
def HB (nm qn:Str) (st:Stmt) (ps:List Str):Prop:=∀(kV doc pm:Value) (an:Option Addr) (cdv ct:Value) (us:List Value),us.length=ps.length->bindArgs (A0n nm qn (A3x st) (A0r st) (B8 st) .none kV doc pm an cdv ct) ⟨us,[]⟩=pure (ps.zip us)
structure FT (K:A4) (mg:Str->Option Value) (nm:Str) (st:Stmt) (ps:List Str) where
 a:Addr
 d:FuncData
 F:Fun K nm nm st a d
 m:mg nm=some (.ref a)
 b:Y0 K d ps []
def FH (K:A4) (nm:Str) (st:Stmt):Prop:=∃f,T5 K mainGlobals nm=some (some (.ref f))/\∃fd,Fun K nm nm st f fd
theorem FT.of {K:A4} {mg:Str->Option Value} {nm:Str} {st:Stmt} {ps:List Str} {h:Heap} (X:K.In h) (G:h.Ns mainGlobals mg) (H:FH K nm st) (hb:HB nm nm st ps):Nonempty (FT K mg nm st ps):=by
 obtain⟨f,a,fd,F⟩:=H
 exact⟨⟨f,fd,F,w5 X G a,F.binds hb⟩⟩
noncomputable def FT.c {K:A4} {mg:Str->Option Value} {nm:Str} {st:Stmt} {ps:List Str} {h:Heap} (X:K.In h) (G:h.Ns mainGlobals mg) (H:FH K nm st) (hb:HB nm nm st ps:=by intro _ _ _ _ _ _ us hl;first | (obtain⟨_,rfl⟩:=B4c hl;rfl) | (obtain⟨_,_,rfl⟩:=C06 hl;rfl) | (obtain⟨_,_,_,rfl⟩:=C07 hl;rfl) | (obtain⟨_,_,_,_,rfl⟩:=C08 hl;rfl) | (obtain⟨_,_,_,_,_,rfl⟩:=C09 hl;rfl) | (obtain⟨_,_,_,_,_,_,rfl⟩:=C1a hl;rfl) | (cases C05 hl;rfl)):FT K mg nm st ps:=B65 (FT.of X G H hb)
structure CT (mg:Str->Option Value) (nm:Str) (v:Tok->Value) where
 t:Tok
 m:mg nm=some (v t)
def CH (K:A4) (nm:Str) (v:Tok->Value):Prop:=∃t,T5 K mainGlobals nm=some (some (v t))
theorem CT.of {K:A4} {mg:Str->Option Value} {nm:Str} {v:Tok->Value} {h:Heap} (X:K.In h) (G:h.Ns mainGlobals mg) (H:CH K nm v):Nonempty (CT mg nm v):=by
 obtain⟨t,e⟩:=H
 exact⟨⟨t,w5 X G e⟩⟩
noncomputable def CT.c {K:A4} {mg:Str->Option Value} {nm:Str} {v:Tok->Value} {h:Heap} (X:K.In h) (G:h.Ns mainGlobals mg) (H:CH K nm v):CT mg nm v:=B65 (CT.of X G H)
def BN (K:A4):List Str->Prop
 | []=>True
 | x::r=>T5 K mainGlobals x=some none/\BN K r
def AH (K:A4) (nm al:Str):Prop:=∃f,T5 K mainGlobals nm=some (some (.ref f))/\T5 K mainGlobals al=some (some (.ref f))
theorem AH.of {K:A4} {mg:Str->Option Value} {nm al:Str} {h:Heap} (X:K.In h) (G:h.Ns mainGlobals mg) (H:AH K nm al):mg al=mg nm:=by
 obtain⟨f,e1,e2⟩:=H
 rw[w5 X G e1,w5 X G e2]
def XTH (K:A4) (t:Addr):Prop:=∃(dd:Option Addr) (cd:ClassData) (sl:Array (Option Value)) (oc:Value) (od:Option Addr) (es:Array DictEntry) (ep:Nat) (sl2:Array (Option Value)),K.lookup t=some ⟨.type "type",dd,.cls cd,sl⟩/\K.lookup cd.ns=some ⟨oc,od,.dict es ep,sl2⟩/\(es.toList.all λe=>match e.key with | .str _ _=>true | _=>false)=true/\T5 K cd.ns "__init__" = some none/\Q7 K t (.type "BaseException")=some true/\B14 K (.builtin "object.__class__") "__get__" = some (some (.builtin "getset_descriptor.__get__"))/\B15 K (.builtin "object.__class__")=some true
def XIH (K:A4) (t c:Addr) (qn fld:Str) (st:Stmt):Prop:=∃(N:Addr) (nm q:Str) (bs:List Value) (sn:List Str) (sub:List Value) (ab:Bool) (col:Option Bool) (dd:Option Addr) (k0 k1 k2 k3 k5:Option Value) (oc:Value) (od:Option Addr) (es:Array DictEntry) (ep:Nat) (sl:Array (Option Value)) (xi:Addr) (fd:FuncData),K.lookup c=some (excClassObj nm q c N bs (.ref t::VE) true sn sub ab col dd k0 k1 k2 k3 k5 "ValueError.__new__")/\K.lookup N=some ⟨oc,od,.dict es ep,sl⟩/\(es.toList.all λe=>match e.key with | .str _ _=>true | _=>false)=true/\j4 K (.ref c)=true/\J7 K (.ref c) "__init__" = some (some (.ref xi))/\A5v K (.ref xi)=some (.type "function")/\J7 K (.ref c) "__setattr__" = some (some (.builtin "object.__setattr__"))/\J7 K (.ref c) fld=some none/\J7 K (.ref c) "__getattribute__" = some (some (.builtin "BaseException.__getattribute__"))/\J7 K (.ref c) "__getattr__" = some none/\A5u K c=true/\J7 K (.ref c) "__class__" = some (some (.builtin "object.__class__"))/\Q7 K c (.type "object")=some true/\Q7 K c (.type "ValueError")=some true/\Q7 K c (.ref t)=some true/\Fun K "__init__" qn st xi fd
structure XT (K:A4) (t c:Addr) (qn fld:Str) (st:Stmt) where
 xi:Addr
 xd:FuncData
 F:Fun K "__init__" qn st xi xd
 xc:XcI K c t xi fld
theorem XT.of {K:A4} {t c:Addr} {qn fld:Str} {st:Stmt} (H:XTH K t) (h:XIH K t c qn fld st):Nonempty (XT K t c qn fld st):=by
 obtain⟨_,_,_,_,_,_,_,_,a1,a2,a3,a4,a5,a6,a7⟩:=H
 obtain⟨_,_,_,_,_,_,_,_,_,_,_,_,_,_,_,_,_,_,_,_,_,b1,b2,b3,b4,b5,b6,b7,b8,b9,c1,c2,c3,c4,c5,c6,F⟩:=h
 exact⟨⟨_,_,F,XcI.of b1 b2 b3 a1 rfl a2 a3 a4 b4 b5 b6 b7 b8 b9 c1 c2 c3 a6 a7 c4 c5 c6 a5⟩⟩
noncomputable def XT.c {K:A4} {t c:Addr} {qn fld:Str} {st:Stmt} (H:XTH K t) (h:XIH K t c qn fld st):XT K t c qn fld st:=B65 (XT.of H h)
def XNH (K:A4) (t c:Addr):Prop:=∃(N:Addr) (nm q:Str) (bs:List Value) (sn:List Str) (sub:List Value) (ab:Bool) (col:Option Bool) (dd:Option Addr) (k0 k1 k2 k3 k5:Option Value) (oc:Value) (od:Option Addr) (es:Array DictEntry) (ep:Nat) (sl:Array (Option Value)),K.lookup c=some (excClassObj nm q c N bs (.ref t::VE) true sn sub ab col dd k0 k1 k2 k3 k5 "ValueError.__new__")/\K.lookup N=some ⟨oc,od,.dict es ep,sl⟩/\(es.toList.all λe=>match e.key with | .str _ _=>true | _=>false)=true/\T5 K N "__init__" = some none/\j4 K (.ref c)=true/\J7 K (.ref c) "__getattribute__" = some (some (.builtin "BaseException.__getattribute__"))/\J7 K (.ref c) "__getattr__" = some none/\A5u K c=true/\J7 K (.ref c) "__class__" = some (some (.builtin "object.__class__"))/\Q7 K c (.type "object")=some true/\Q7 K c (.type "ValueError")=some true/\Q7 K c (.ref t)=some true
theorem XN.of {K:A4} {t c:Addr} (H:XTH K t) (h:XNH K t c):XcN K c t:=by
 obtain⟨_,_,_,_,_,_,_,_,a1,a2,a3,a4,a5,a6,a7⟩:=H
 obtain⟨_,_,_,_,_,_,_,_,_,_,_,_,_,_,_,_,_,_,_,b1,b2,b3,b4,b5,b6,b7,b8,b9,c1,c2,c3⟩:=h
 exact XcN.of b1 b2 b3 b4 a1 rfl a2 a3 a4 b5 b6 b7 b8 b9 a6 a7 c1 c2 c3 a5
structure MT (K:A4) (C:Addr) (nm qn:Str) (st:Stmt) (ps:List Str) where
 a:Addr
 d:FuncData
 F:Fun K nm qn st a d
 m:A96 K C nm a
 b:Y0 K d ps []
def MH (K:A4) (C:Addr) (nm qn:Str) (st:Stmt):Prop:=∃f,J7 K (.ref C) nm=some (some (.ref f))/\PySem.W.isFn K (.ref f)=true/\∃fd,Fun K nm qn st f fd
theorem MT.of {K:A4} {C:Addr} {nm qn:Str} {st:Stmt} {ps:List Str} (H:MH K C nm qn st) (hb:HB nm qn st ps):Nonempty (MT K C nm qn st ps):=by
 obtain⟨f,a,b,fd,F⟩:=H
 exact⟨⟨f,fd,F,⟨a,b,F.kp⟩,F.binds hb⟩⟩
noncomputable def MT.c {K:A4} {C:Addr} {nm qn:Str} {st:Stmt} {ps:List Str} (H:MH K C nm qn st) (hb:HB nm qn st ps:=by intro _ _ _ _ _ _ us hl;first | (obtain⟨_,rfl⟩:=B4c hl;rfl) | (obtain⟨_,_,rfl⟩:=C06 hl;rfl) | (obtain⟨_,_,_,rfl⟩:=C07 hl;rfl) | (obtain⟨_,_,_,_,rfl⟩:=C08 hl;rfl) | (obtain⟨_,_,_,_,_,rfl⟩:=C09 hl;rfl) | (obtain⟨_,_,_,_,_,_,rfl⟩:=C1a hl;rfl) | (cases C05 hl;rfl)):MT K C nm qn st ps:=B65 (MT.of H hb)
def KH (K:A4) (C:Addr):Prop:=Cls K C/\PySem.W.makesIn K C=true/\j4 K (.ref C)=true
def NN (K:A4) (C:Addr):List Str->Prop
 | []=>True
 | x::r=>J7 K (.ref C) x=some none/\NN K C r
def KX (K:A4) (a b:Addr):Prop:=Q7 K a (.ref b)=some false/\(Value.ref a == Value.ref b)=false
def KL (K:A4) (a:Addr):Prop:=∃dd cd sl,K.lookup a=some ⟨.type "type",dd,.cls cd,sl⟩
def KR (K:A4) (a:Addr):List Addr->Prop
 | []=>True
 | b::r=>(KX K a b/\KX K b a)/\KR K a r
def KP (K:A4):List Addr->Prop
 | []=>True
 | a::r=>KL K a/\KR K a r/\KP K r
theorem KR.at {K:A4} {a b:Addr}:∀{r:List Addr} {j:Nat},KR K a r->r[j]?=some b->KX K a b/\KX K b a
 | [],_,_,e=>by cases e
 | _::_,0,h,e=>by cases e;exact h.1
 | _::_,_ + 1,h,e=>KR.at h.2 e
theorem KP.lk {K:A4} {b:Addr}:∀{r:List Addr} {j:Nat},KP K r->r[j]?=some b->KL K b
 | [],_,_,e=>by cases e
 | _::_,0,h,e=>by cases e;exact h.1
 | _::_,_ + 1,h,e=>KP.lk h.2.2 e
theorem KX.kit {K:A4} {a b:Addr} (h:KX K a b) (l:KL K b):K5 K (.ref a) (.ref b)=some false:=by
 obtain⟨_,_,_,l⟩:=l
 exact D0h l h.1 h.2
theorem KP.at {K:A4} {a b:Addr}:∀{r:List Addr} {i j:Nat},KP K r->r[i]?=some a->r[j]?=some b->K5 K (.ref a) (.ref b)=some (i == j)
 | [],_,_,_,e,_=>by cases e
 | _::_,0,0,_,e,f=>by cases e;cases f;exact D0g
 | _::_,0,_ + 1,h,e,f=>by cases e;exact (KR.at h.2.1 f).1.kit (KP.lk h.2.2 f)
 | _::_,_ + 1,0,h,e,f=>by cases f;exact (KR.at h.2.1 e).2.kit h.1
 | _::_,i + 1,j + 1,h,e,f=>by
  rw[KP.at h.2.2 e f,show ((i + 1:Nat) == j + 1)=(i == j) from by by_cases q:i=j <;> simp [q]]
set_option genInjectivity false in
set_option genSizeOf false in
structure Txt (K:A4) (mg:Str->Option Value) where
 gP:mg "abs" = none
 gQ:mg "all" = none
 fX:mg "bool" = none
 fY:mg "dict" = none
 cX:mg "enumerate" = none
 fm:mg "int" = none
 az:mg "isinstance" = none
 bi:mg "len" = none
 bO:mg "list" = none
 ee:mg "max" = none
 eh:mg "min" = none
 bZ:mg "range" = none
 dr:mg "reversed" = none
 cF:mg "sorted" = none
 eG:mg "tuple" = none
 af:Addr
 de:mg "TrudgeError" = some (.ref af)
 aG:Addr
 cY:mg "BadLabel" = some (.ref aG)
 bu:Addr
 dQ:mg "Taken" = some (.ref bu)
 aX:Addr
 cW:mg "BadWay" = some (.ref aX)
 aK:Addr
 du:mg "TooMany" = some (.ref aK)
 aW:Addr
 dR:mg "NoWay" = some (.ref aW)
 aH:Addr
 cZ:mg "BadStore" = some (.ref aH)
 aQ:Addr
 dv:mg "BadGoal" = some (.ref aQ)
 x_Taken:XT K af bu "Taken.__init__" "label" B4d
 x_TooMany:XT K af aK "TooMany.__init__" "most" B4e
 x_NoWay:XT K af aW "NoWay.__init__" "label" B4f
 xc_BadLabel:XcN K aG af
 xc_BadWay:XcN K aX af
 xc_BadStore:XcN K aH af
 xc_BadGoal:XcN K aQ af
 kits:KP K [aG,bu,aX,aK,aW,aH,aQ]
 aa:Addr
 eM:mg "Keeper" = some (.ref aa)
 ac:Cls K aa
 cf:d7 K aa "many"
 cy:d7 K aa "full"
 bQ:d7 K aa "wanted"
 aF:d7 K aa "laid"
 bR:d7 K aa "lowest"
 cG:MT K aa "__init__" "Keeper.__init__" B07 ["self", "many", "store", "goal"]
 bv:MT K aa "lay" "Keeper.lay" B49 ["self", "label", "start", "end", "change"]
 bG:MT K aa "lift" "Keeper.lift" B5a ["self", "label"]
 bH:MT K aa "turn" "Keeper.turn" B5b ["self", "label", "change"]
 bj:MT K aa "refill" "Keeper.refill" B5c ["self", "store"]
 cg:MT K aa "aim" "Keeper.aim" B5d ["self", "goal"]
 aA:MT K aa "found" "Keeper.found" B5e ["self", "label"]
 ai:MT K aa "moved" "Keeper.moved" B5f ["self"]
 bS:MT K aa "ways" "Keeper.ways" B5g ["self"]
 aT:MT K aa "store" "Keeper.store" B5h ["self"]
 bx:MT K aa "goal" "Keeper.goal" B5i ["self"]
 aY:MT K aa "land" "Keeper.land" B08 ["self"]
 aU:MT K aa "least" "Keeper.least" B5j ["self"]
 bP:MT K aa "highest" "Keeper.highest" B5k ["self", "base"]
 eN:Mk K aa cG.a
 g_MANY:CT mg "MANY" (.int 0)
 g_WAYS:CT mg "WAYS" (.int 1)
 g_START:CT mg "START" (.int 0)
 g_END:CT mg "END" (.int 1)
 g_CHANGE:CT mg "CHANGE" (.int 2)
 g_MOST_WAYS:CT mg "MOST_WAYS" (.int 40)
 g_LEAST:CT mg "LEAST" (.int 0)
 g_GAIN:CT mg "GAIN" (.int 1)
 g_TOP:CT mg "TOP" (.int 2)
 g_TABLE:CT mg "TABLE" (.int 0)
 g_RISEN:CT mg "RISEN" (.int 1)
 g_FROM:CT mg "FROM" (.int 0)
 g_BY:CT mg "BY" (.int 1)
 g_NUMBERS:CT mg "NUMBERS" (.int 0)
 g_TIMES:CT mg "TIMES" (.int 1)
 ah:FT K mg "is_whole" B4g ["thing"]
 aI:FT K mg "is_store" B4h ["thing"]
 bI:FT K mg "is_level" B4i ["store", "thing"]
 bq:FT K mg "stepped" B4j ["store", "level", "change"]
 aC:FT K mg "levels_along" B4k ["store", "level", "changes"]
 ay:FT K mg "is_place" B4l ["many", "thing"]
 ax:FT K mg "is_change" B4m ["thing"]
 aZ:FT K mg "is_way" B4n ["many", "thing"]
 bb:FT K mg "turned_land" B0z ["land"]
 aB:FT K mg "changes_of" B00 ["land", "numbers"]
 aj:FT K mg "is_table" B01 ["many", "store", "thing"]
 bT:FT K mg "is_more" B4o ["one", "other"]
 bz:FT K mg "behind_way" B4p ["store", "table", "way"]
 bD:FT K mg "is_within" B4q ["level", "bound"]
 aJ:FT K mg "effect_of_none" B4r ["store"]
 aM:FT K mg "effect_of_one" B4s ["store", "change"]
 bE:FT K mg "effect_of" B4t ["store", "changes"]
 cm:FT K mg "passed" B4u ["effect", "level"]
 cq:FT K mg "joined" B4v ["one", "other"]
 bF:FT K mg "first_row" B4w ["table"]
 bA:FT K mg "row_behind" B4x ["land", "store", "table", "stayed"]
 bU:FT K mg "walk_to" B4y ["land", "rows", "place"]
 be:FT K mg "behind_ways" B4z ["land", "place", "numbers"]
 bf:FT K mg "behind_part" B40 ["land", "place", "part"]
 cr:FT K mg "end_of" B41 ["land", "place", "trip"]
 aR:FT K mg "rows_from" B42 ["land", "store", "table"]
 bg:FT K mg "still_rises" B43 ["land", "rows"]
 bh:FT K mg "rising_walk" B02 ["land", "rows"]
 aE:FT K mg "parted_at_round" B03 ["land", "walk"]
 bp:FT K mg "parts_by" B44 ["numbers"]
 aN:FT K mg "filling_parts" B45 ["land", "store", "level", "walk"]
 bV:FT K mg "settled" B04 ["land", "store", "base"]
 br:FT K mg "highest" B46 ["land", "store", "base"]
 bB:FT K mg "lacking" B05 ["store", "table"]
 bw:FT K mg "least" B47 ["land", "store", "goal"]
 ak:FT K mg "is_label" B48 ["thing"]
 aD:FT K mg "places_below" B06 ["table", "other"]
 cR:FT K mg "_law_hand" B5l ["_law_script"]
 bC:FT K mg "_law_next" B5m ["_law_hand_here"]
 cS:FT K mg "_law_take" B5n ["_law_hand_here"]
 ae:FT K mg "_law_draw" B5o ["_law_hand_here", "_law_many"]
 cH:FT K mg "_law_scale" B5p ["_law_hand_here"]
 cu:FT K mg "_law_change" B5q ["_law_hand_here", "_law_scale_here"]
 cI:FT K mg "_law_store" B5r ["_law_hand_here", "_law_scale_here"]
 cJ:FT K mg "_law_table" B09 ["_law_hand_here", "_law_many", "_law_store_here"]
 cD:FT K mg "_law_less" B5s ["_law_one", "_law_other"]
 cK:FT K mg "_law_moved" A8v ["_law_old", "_law_new"]
 aL:FT K mg "_law_tried" B5t ["_law_keeper", "_law_word", "_law_things"]
 bW:FT K mg "_law_is" B1a ["_law_told", "_law_kind", "_law_fields"]
 bJ:FT K mg "_law_stands" B1b ["_law_keeper"]
 cE:FT K mg "_law_kept" A8w ["_law_keeper", "_law_many", "_law_ways"]
 dw:FT K mg "_law_bad" B1c ["_law_hand_here", "_law_keeper", "_law_many", "_law_labels", "_law_spare"]
 cT:FT K mg "_law_laid" B5u ["_law_hand_here", "_law_keeper", "_law_many", "_law_scale_here"]
 fq:FT K mg "law" A00 ["_law_script"]
 bX:mg "highest_highest" = mg "highest"
 ci:mg "least_least" = mg "least"
theorem D0i:D3 ["thing"] ["thing"] (B8 B4g):=⟨rfl,rfl,rfl,KK,rfl,KK,KK⟩
theorem D0j:D3 ["thing"] ["thing"] (B8 B4h):=⟨rfl,rfl,rfl,KK,rfl,KK,KK⟩
theorem D0k:D3 ["store", "thing"] ["store", "thing"] (B8 B4i):=⟨rfl,rfl,rfl,KK,rfl,KK,KK⟩
theorem C1b:D3 ["store", "level", "change", "behind"] ["store", "level", "change"] (B8 B4j):=⟨rfl,rfl,rfl,KK,rfl,KK,KK⟩
theorem B1d:D3 ["store", "level", "changes", "levels", "change", "behind"] ["store", "level", "changes"] (B8 B4k):=⟨rfl,rfl,rfl,KK,rfl,KK,KK⟩
theorem C1c:D3 ["many", "thing"] ["many", "thing"] (B8 B4l):=⟨rfl,rfl,rfl,KK,rfl,KK,KK⟩
theorem D0l:D3 ["thing"] ["thing"] (B8 B4m):=⟨rfl,rfl,rfl,KK,rfl,KK,KK⟩
theorem D0m:D3 ["many", "thing"] ["many", "thing"] (B8 B4n):=⟨rfl,rfl,rfl,KK,rfl,KK,KK⟩
theorem D0n:D3 ["land"] ["land"] (B8 B0z):=⟨rfl,rfl,rfl,KK,rfl,KK,KK⟩
theorem D0o:D3 ["land", "numbers"] ["land", "numbers"] (B8 B00):=⟨rfl,rfl,rfl,KK,rfl,KK,KK⟩
theorem D0p:D3 ["many", "store", "thing"] ["many", "store", "thing"] (B8 B01):=⟨rfl,rfl,rfl,KK,rfl,KK,KK⟩
theorem D0q:D3 ["one", "other"] ["one", "other"] (B8 B4o):=⟨rfl,rfl,rfl,KK,rfl,KK,KK⟩
theorem C1d:D3 ["store", "table", "way", "level"] ["store", "table", "way"] (B8 B4p):=⟨rfl,rfl,rfl,KK,rfl,KK,KK⟩
theorem D0r:D3 ["level", "bound"] ["level", "bound"] (B8 B4q):=⟨rfl,rfl,rfl,KK,rfl,KK,KK⟩
theorem D0s:D3 ["store"] ["store"] (B8 B4r):=⟨rfl,rfl,rfl,KK,rfl,KK,KK⟩
theorem D0t:D3 ["store", "change"] ["store", "change"] (B8 B4s):=⟨rfl,rfl,rfl,KK,rfl,KK,KK⟩
theorem B1e:D3 ["store", "changes", "whole", "change"] ["store", "changes"] (B8 B4t):=⟨rfl,rfl,rfl,KK,rfl,KK,KK⟩
theorem D0u:D3 ["effect", "level"] ["effect", "level"] (B8 B4u):=⟨rfl,rfl,rfl,KK,rfl,KK,KK⟩
theorem C1e:D3 ["one", "other", "least"] ["one", "other"] (B8 B4v):=⟨rfl,rfl,rfl,KK,rfl,KK,KK⟩
theorem D0v:D3 ["table"] ["table"] (B8 B4w):=⟨rfl,rfl,rfl,KK,rfl,KK,KK⟩
theorem A7b:D3 ["land", "store", "table", "stayed", "higher", "risen", "number", "way", "level"] ["land", "store", "table", "stayed"] (B8 B4x):=⟨rfl,rfl,rfl,KK,rfl,KK,KK⟩
theorem A7c:D3 ["land", "rows", "place", "here", "numbers", "row", "number"] ["land", "rows", "place"] (B8 B4y):=⟨rfl,rfl,rfl,KK,rfl,KK,KK⟩
theorem B1f:D3 ["land", "place", "numbers", "here", "number"] ["land", "place", "numbers"] (B8 B4z):=⟨rfl,rfl,rfl,KK,rfl,KK,KK⟩
theorem C1f:D3 ["land", "place", "part", "behind"] ["land", "place", "part"] (B8 B40):=⟨rfl,rfl,rfl,KK,rfl,KK,KK⟩
theorem A8x:D3 ["land", "place", "trip", "here", "at", "part"] ["land", "place", "trip"] (B8 B41):=⟨rfl,rfl,rfl,KK,rfl,KK,KK⟩
theorem B1g:D3 ["land", "store", "table", "rows", "row"] ["land", "store", "table"] (B8 B42):=⟨rfl,rfl,rfl,KK,rfl,KK,KK⟩
theorem D0w:D3 ["land", "rows"] ["land", "rows"] (B8 B43):=⟨rfl,rfl,rfl,KK,rfl,KK,KK⟩
theorem C1g:D3 ["land", "rows", "last"] ["land", "rows"] (B8 B02):=⟨rfl,rfl,rfl,KK,rfl,KK,KK⟩
theorem A8y:D3 ["land", "walk", "places", "end", "begin"] ["land", "walk"] (B8 B03):=⟨rfl,rfl,rfl,KK,rfl,KK,KK⟩
theorem D0x:D3 ["numbers"] ["numbers"] (B8 B44):=⟨rfl,rfl,rfl,KK,rfl,KK,KK⟩
theorem A3e:D3 ["land", "store", "level", "walk", "parted", "ahead", "turn", "effect", "missing", "times", "levels"] ["land", "store", "level", "walk"] (B8 B45):=⟨rfl,rfl,rfl,KK,rfl,KK,KK⟩
theorem A2a:D3 ["land", "store", "base", "table", "roads", "rows", "walk", "parts", "full", "road"] ["land", "store", "base"] (B8 B04):=⟨rfl,rfl,rfl,KK,rfl,KK,KK⟩
theorem D0y:D3 ["land", "store", "base"] ["land", "store", "base"] (B8 B46):=⟨rfl,rfl,rfl,KK,rfl,KK,KK⟩
theorem D0z:D3 ["store", "table"] ["store", "table"] (B8 B05):=⟨rfl,rfl,rfl,KK,rfl,KK,KK⟩
theorem D00:D3 ["land", "store", "goal"] ["land", "store", "goal"] (B8 B47):=⟨rfl,rfl,rfl,KK,rfl,KK,KK⟩
theorem D01:D3 ["thing"] ["thing"] (B8 B48):=⟨rfl,rfl,rfl,KK,rfl,KK,KK⟩
theorem D02:D3 ["table", "other"] ["table", "other"] (B8 B06):=⟨rfl,rfl,rfl,KK,rfl,KK,KK⟩
theorem D03:D3 ["self", "many", "store", "goal"] ["self", "many", "store", "goal"] (B8 B07):=⟨rfl,rfl,rfl,KK,rfl,KK,KK⟩
theorem C1h:D3 ["self", "label", "start", "end", "change"] ["self", "label", "start", "end", "change"] (B8 B49):=⟨rfl,rfl,rfl,KK,rfl,KK,KK⟩
theorem C1i:D3 ["self", "label"] ["self", "label"] (B8 B5a):=⟨rfl,rfl,rfl,KK,rfl,KK,KK⟩
theorem B1h:D3 ["self", "label", "change", "way"] ["self", "label", "change"] (B8 B5b):=⟨rfl,rfl,rfl,KK,rfl,KK,KK⟩
theorem C1j:D3 ["self", "store"] ["self", "store"] (B8 B5c):=⟨rfl,rfl,rfl,KK,rfl,KK,KK⟩
theorem C1k:D3 ["self", "goal"] ["self", "goal"] (B8 B5d):=⟨rfl,rfl,rfl,KK,rfl,KK,KK⟩
theorem C1l:D3 ["self", "label"] ["self", "label"] (B8 B5e):=⟨rfl,rfl,rfl,KK,rfl,KK,KK⟩
theorem C1m:D3 ["self", "ahead"] ["self"] (B8 B5f):=⟨rfl,rfl,rfl,KK,rfl,KK,KK⟩
theorem B1i:D3 ["self", "told", "label", "way"] ["self"] (B8 B5g):=⟨rfl,rfl,rfl,KK,rfl,KK,KK⟩
theorem D04:D3 ["self"] ["self"] (B8 B5h):=⟨rfl,rfl,rfl,KK,rfl,KK,KK⟩
theorem D05:D3 ["self"] ["self"] (B8 B5i):=⟨rfl,rfl,rfl,KK,rfl,KK,KK⟩
theorem D06:D3 ["self"] ["self"] (B8 B08):=⟨rfl,rfl,rfl,KK,rfl,KK,KK⟩
theorem D07:D3 ["self"] ["self"] (B8 B5j):=⟨rfl,rfl,rfl,KK,rfl,KK,KK⟩
theorem D08:D3 ["self", "base"] ["self", "base"] (B8 B5k):=⟨rfl,rfl,rfl,KK,rfl,KK,KK⟩
theorem D09:D3 ["_law_script"] ["_law_script"] (B8 B5l):=⟨rfl,rfl,rfl,KK,rfl,KK,KK⟩
theorem D1a:D3 ["_law_hand_here"] ["_law_hand_here"] (B8 B5m):=⟨rfl,rfl,rfl,KK,rfl,KK,KK⟩
theorem B5v:D3 ["_law_hand_here", "_law_cell"] ["_law_hand_here"] (B8 B5n):=⟨rfl,rfl,rfl,KK,rfl,KK,KK⟩
theorem A7d:D3 ["_law_hand_here", "_law_many", "_law_got", "_law_value", "_law_size"] ["_law_hand_here", "_law_many"] (B8 B5o):=⟨rfl,rfl,rfl,KK,rfl,KK,KK⟩
theorem D1b:D3 ["_law_hand_here"] ["_law_hand_here"] (B8 B5p):=⟨rfl,rfl,rfl,KK,rfl,KK,KK⟩
theorem D1c:D3 ["_law_hand_here", "_law_scale_here"] ["_law_hand_here", "_law_scale_here"] (B8 B5q):=⟨rfl,rfl,rfl,KK,rfl,KK,KK⟩
theorem C1n:D3 ["_law_hand_here", "_law_scale_here", "_law_way"] ["_law_hand_here", "_law_scale_here"] (B8 B5r):=⟨rfl,rfl,rfl,KK,rfl,KK,KK⟩
theorem C1o:D3 ["_law_hand_here", "_law_many", "_law_store_here", "_law_rare"] ["_law_hand_here", "_law_many", "_law_store_here"] (B8 B09):=⟨rfl,rfl,rfl,KK,rfl,KK,KK⟩
theorem D1d:D3 ["_law_one", "_law_other"] ["_law_one", "_law_other"] (B8 B5s):=⟨rfl,rfl,rfl,KK,rfl,KK,KK⟩
theorem C1p:D3 ["_law_old", "_law_new", "_law_fell"] ["_law_old", "_law_new"] (B8 A8v):=⟨rfl,rfl,rfl,KK,rfl,KK,KK⟩
theorem A5f:D3 ["_law_keeper", "_law_word", "_law_things", "e", "_law_some", "_law_fields"] ["_law_keeper", "_law_word", "_law_things"] (B8 B5t):=⟨rfl,rfl,rfl,KK,rfl,KK,KK⟩
theorem C1q:D3 ["_law_told", "_law_kind", "_law_fields", "_law_kinds"] ["_law_told", "_law_kind", "_law_fields"] (B8 B1a):=⟨rfl,rfl,rfl,KK,rfl,KK,KK⟩
theorem B5w:D3 ["_law_keeper", "_law_full", "_law_told"] ["_law_keeper"] (B8 B1b):=⟨rfl,rfl,rfl,KK,rfl,KK,KK⟩
theorem C1r:D3 ["_law_keeper", "_law_many", "_law_ways", "_law_land"] ["_law_keeper", "_law_many", "_law_ways"] (B8 A8w):=⟨rfl,rfl,rfl,KK,rfl,KK,KK⟩
theorem V5:D3 ["_law_hand_here", "_law_keeper", "_law_many", "_law_labels", "_law_spare", "_law_none", "_law_place", "_law_change_here", "_law_store_here", "_law_table_here", "_law_wide", "_law_at", "_law_odd", "_law_goal", "_law_rows", "_law_label", "_law_levels"] ["_law_hand_here", "_law_keeper", "_law_many", "_law_labels", "_law_spare"] (B8 B1c):=⟨rfl,rfl,rfl,KK,rfl,KK,KK⟩
theorem A5g:D3 ["_law_hand_here", "_law_keeper", "_law_many", "_law_scale_here", "_law_count", "_law_ways", "_law_one", "_law_k", "_law_label"] ["_law_hand_here", "_law_keeper", "_law_many", "_law_scale_here"] (B8 B5u):=⟨rfl,rfl,rfl,KK,rfl,KK,KK⟩
theorem Y7:D3 ["_law_script", "_law_hand_here", "_law_many", "_law_scale_here", "_law_store_here", "_law_keeper", "_law_ways", "_law_labels", "_law_spare", "_law_ahead", "_law_word", "_law_things", "_law_kind", "_law_fields", "_law_before", "_law_told"] ["_law_script"] (B8 A00):=⟨rfl,rfl,rfl,KK,rfl,KK,KK⟩
theorem D1e:D3 ["self", "label"] ["self", "label"] (B8 B4d):=⟨rfl,rfl,rfl,KK,rfl,KK,KK⟩
theorem D1f:D3 ["self", "most"] ["self", "most"] (B8 B4e):=⟨rfl,rfl,rfl,KK,rfl,KK,KK⟩
theorem D1g:D3 ["self", "label"] ["self", "label"] (B8 B4f):=⟨rfl,rfl,rfl,KK,rfl,KK,KK⟩
theorem D1h {K:A4} {mg:Str->Option Value} (T:Txt K mg):Y0 K T.x_Taken.xd ["self", "label"] []:=T.x_Taken.F.binds λ_ _ _ _ _ _ us hl=>match us,hl with | [_,_],_=>rfl
theorem D1i {P:Program} {w:World} {K:A4} {mg:Str->Option Value} {base:Heap} (T:Txt K mg):A5c P w K mg base 1 T.x_Taken.xi T.bu "label" :=T.x_Taken.xc.init T.x_Taken.F rfl D1e (D1h T)
theorem D1j {K:A4} {mg:Str->Option Value} (T:Txt K mg):Y0 K T.x_TooMany.xd ["self", "most"] []:=T.x_TooMany.F.binds λ_ _ _ _ _ _ us hl=>match us,hl with | [_,_],_=>rfl
theorem D1k {P:Program} {w:World} {K:A4} {mg:Str->Option Value} {base:Heap} (T:Txt K mg):A5c P w K mg base 1 T.x_TooMany.xi T.aK "most" :=T.x_TooMany.xc.init T.x_TooMany.F rfl D1f (D1j T)
theorem D1l {K:A4} {mg:Str->Option Value} (T:Txt K mg):Y0 K T.x_NoWay.xd ["self", "label"] []:=T.x_NoWay.F.binds λ_ _ _ _ _ _ us hl=>match us,hl with | [_,_],_=>rfl
theorem D1m {P:Program} {w:World} {K:A4} {mg:Str->Option Value} {base:Heap} (T:Txt K mg):A5c P w K mg base 1 T.x_NoWay.xi T.aW "label" :=T.x_NoWay.xc.init T.x_NoWay.F rfl D1g (D1l T)
section
variable {P:Program} {w:World} {K:A4} {mg:Str->Option Value} {base:Heap}
theorem D1n (T:Txt K mg):B9 P w K mg base CX0 1 T.cR.a T.cR.d ["_law_script"] (C6z K):=by
 refine T.cR.F.ok D09 (λvs H Q E h=>?_) (λcdv A outer s H vs Q E hr h=>?_)
 ·obtain⟨a,ns,rfl,_⟩:=h
  rfl
 ·obtain⟨a,ns,rfl,hS,k⟩:=h
  refine⟨_,(D1 (G6 (P7 (A1 (j9 A1y rfl T.bO A0t (A1 (B21 B23 (pv 0) B77 (B78 C3)) A6 C1) (he:=C1) (hpl:=A5)) (A1 C3 (A1 C3 (A1 C3 (A1 C3 (A1 C3 A6 A8) A8) A8) A8) A8) D5)))),?_⟩
  refine⟨_,rfl,_,rfl,a,_,rfl,hS,λp1 h1=>⟨p1,_,rfl,.inl (SqL.of B2),λl hl=>⟨(by show 6<=sizeLine;decide),λp hp=>?_⟩⟩⟩
  have n1:p≠p1:=(P6 (H:=upd (upd H p1 _) l _) (by rw[B1 (P6 B2 hl)];exact B2) hp).symm
  have n2:p≠l:=(P6 (H:=upd (upd H p1 _) l _) B2 hp).symm
  have hp0:H p=none:=by rw[B1 n2,B1 n1] at hp;exact hp
  have hl0:H l=none:=by
   have nl:l≠p1:=(P6 B2 hl).symm
   rw[B1 nl] at hl;exact hl
  refine k p l _ hp0 hl0 ⟨(ns.drop (HT.sIx (ns.map V.int).length 0 none)).take (HT.sIx (ns.map V.int).length (ns.map V.int).length (some 63) - HT.sIx (ns.map V.int).length 0 none),0,0,0,20011,40009,?_,A51 _,B2⟩ (((Same.refl H).lay h1).lay hl |>.lay hp)
  rw[B1 n2.symm,B2]
  unfold A3w
  rw[A2l,List.map_drop]
theorem C1s (T:Txt K mg):B9 P w K mg base CX0 1 T.bC.a T.bC.d ["_law_hand_here"] C60:=by
 refine T.bC.F.ok D1a (λvs H Q E h=>?_) (λcdv A outer s H vs Q E hr h=>?_)
 ·obtain⟨a,l,rfl,_⟩:=h
  rfl
 ·obtain⟨a,l,rfl,⟨ns,p,b,c,u,v,hl,hp,ha⟩,k⟩:=h
  have ne:=B0f hl ha
  refine⟨_,(C0 (x9 (K6 A2v (K6 A1v (G9 Q4 (pv 0) C3 (λ_ _=>rfl)) C3) C3) (w6 (pv 0) C3 f7))
   (C0 (x9 (K6 A2v (K6 A1v (G9 Q4 (pv 0) C3 (λ_ _=>rfl)) C3) C3) (w6 (pv 0) C3 f7))
   (D1 (G6 (K6 Q9 (G9 Q4 (pv 0) C3 (λ_ _=>rfl)) (G9 Q4 (pv 0) C3 (λ_ _=>rfl))))))),?_⟩
  refine⟨_,rfl,a,_,_,_,rfl,rfl,SqL.of ha,rfl,_,_,rfl,rfl,.inr ⟨DD,DD⟩,_,_,rfl,rfl,(by first | decide | (dsimp only;decide)),_,rfl,a,_,_,_,rfl,rfl,ha,rfl,?_⟩
  refine⟨_,rfl,a,_,_,_,rfl,rfl,SqL.of B2,rfl,_,_,rfl,rfl,.inr ⟨DD,DD⟩,_,_,rfl,rfl,(by first | decide | (dsimp only;decide)),_,rfl,a,_,_,_,rfl,rfl,B2,rfl,?_⟩
  refine⟨_,rfl,a,_,_,_,rfl,rfl,SqL.of B2,rfl,_,rfl,a,_,_,_,rfl,rfl,SqL.of B2,rfl,_,_,rfl,rfl,?_⟩
  exact k _ _ ⟨ns,p,b,c,_,_,by rw[B1 ne,B1 ne];exact hl,hp,B2⟩ λb o e nb=>by rw[B1 nb,B1 nb];exact e
theorem D1o (T:Txt K mg):B9 P w K mg base CX0 2 T.cS.a T.cS.d ["_law_hand_here"] C61:=by
 have dB:=@C1s P w K mg base T
 have dD:=T.bC.b
 refine T.cS.F.ok B5v (λvs H Q E h=>?_) (λcdv A outer s H vs Q E hr h=>?_)
 ·obtain⟨a,l,rfl,_⟩:=h
  rfl
 ·obtain⟨a,l,rfl,⟨ns,p,b,c,u,v,hl,hp,ha⟩,k⟩:=h
  have ne:=B0f hl ha
  refine⟨_,(C0 (C4 (i:=1) B5v.nd rfl (B7 rfl) C3)
   (C0 (S3 (K9 (T7 A05 (G9 Q4 (pv 0) C3 (λ_ _=>rfl)) (G8 Y1 rfl T.bi W0 (A1 (G9 Q4 (pv 0) C3 (λ_ _=>rfl)) A6 C1) (he:=C1) (hpl:=A5)) (E4 _))
   (D1 (C4 (i:=1) B5v.nd rfl (B7 rfl) (G8 C47 rfl T.gP C6h (A1 (G9 Q4 (G9 Q4 (pv 0) C3 (λ_ _=>rfl)) (G9 Q4 (pv 0) C3 (λ_ _=>rfl)) (λ_ _=>rfl)) A6 C1) (he:=C1) (hpl:=A5))))
   M9))
   (C0 (B7j (pv 0) C3 B8s C3 C4r f7)
   (C0 (S3 (K9 (T7 B2x (pv 1) (K6 S2 C3 C3) (E4 _))
   (D1 (x9 (pv 1) (w6 (pv 0) C3 f7)))
   (D1 (x9 C3 (w6 (pv 0) C3 f7)))))
   (C0 (x9 (K6 Q9 (K6 A2v (K6 Q9 (G9 Q4 (pv 0) C3 (λ_ _=>rfl)) (K6 A2v (pv 1) C3)) C3) C3) (w6 (pv 0) C3 f7))
   (C0 (x9 (K6 Q9 (K6 A2v (K6 Q9 (K6 A1v (G9 Q4 (pv 0) C3 (λ_ _=>rfl)) C3) (K6 A2v (pv 1) C3)) C3) C3) (w6 (pv 0) C3 f7))
   (C0 (T6 (B6 dB (hr.mono DD) rfl T.bC.m T.bC.F.kp dD .nil A9 (A1 (pv 0) A6 A0) (he:=A0) (hpl:=A5)))
   (D1 (T6 (B6 dB (hr.mono DD) rfl T.bC.m T.bC.F.kp dD .nil A9 (A1 (pv 0) A6 A0) (he:=A0) (hpl:=A5))))))))))),?_⟩
  refine⟨fun σ H1=>H=H1/\∃z:Int,σ=[some (.ref a),some (.int z)],?_,?_⟩
  ·refine⟨_,rfl,a,_,_,_,rfl,rfl,SqL.of ha,rfl,_,rfl,a,_,_,_,rfl,rfl,SqL.of ha,rfl,l,_,rfl,.inl (SqL.of hl),_,_,rfl,rfl,_,rfl,?_⟩
   refine A6c (λhlt=>?_) (λ_=>⟨rfl,_,rfl⟩)
   have hlt':p < (ns.length:Int):=by simpa using hlt
   obtain⟨z,hz⟩:=C6y hp hlt'
   exact⟨_,rfl,a,_,_,_,rfl,rfl,SqL.of ha,rfl,_,rfl,a,_,_,_,rfl,rfl,SqL.of ha,rfl,l,_,_,_,rfl,rfl,SqL.of hl,hz,_,rfl,rfl,_,rfl⟩
  ·rintro σ H1 ⟨rfl,z,rfl⟩
   refine⟨_,rfl,a,_,_,_,rfl,rfl,(by first | decide | (dsimp only;decide)),SqL.of ha,rfl,_,_,rfl,rfl,a,_,_,_,rfl,rfl,ha,rfl,?_⟩
   refine⟨fun σ H1=>σ=[some (.ref a),some (.int z)]/\Hd H1 a l/\Kp a H H1,?_,?_⟩
   ·refine⟨_,rfl,_,_,rfl,rfl,⟨DD,DD,DD⟩,_,_,rfl,rfl,_,rfl,?_⟩
    refine A6c (λ_=>?_) (λ_=>?_)
    ·refine⟨_,rfl,_,rfl,a,_,_,_,rfl,rfl,B2,rfl,rfl,⟨ns,p + 1,_,_,_,_,by rw[B1 ne,B1 ne];exact hl,OO,B2⟩,λb o e nb=>by rw[B1 nb,B1 nb];exact e⟩
    ·refine⟨_,rfl,a,_,_,_,rfl,rfl,B2,rfl,rfl,⟨ns,p + 1,_,_,_,_,by rw[B1 ne,B1 ne];exact hl,OO,B2⟩,λb o e nb=>by rw[B1 nb,B1 nb];exact e⟩
   ·rintro σ H1 ⟨rfl,⟨ns,p,b,c,u,v,hl,hp,ha⟩,k1⟩
    have ne:=B0f hl ha
    refine⟨_,rfl,a,_,_,_,rfl,rfl,SqL.of ha,rfl,_,rfl,_,_,rfl,rfl,(by first | decide | (dsimp only;decide)),_,_,rfl,rfl,_,_,rfl,rfl,(by first | decide | (dsimp only;decide)),_,_,rfl,rfl,_,rfl,a,_,_,_,rfl,rfl,ha,rfl,?_⟩
    refine⟨_,rfl,a,_,_,_,rfl,rfl,SqL.of B2,rfl,_,_,rfl,rfl,.inr ⟨DD,DD⟩,_,rfl,_,_,rfl,rfl,(by first | decide | (dsimp only;decide)),_,_,rfl,rfl,_,_,rfl,rfl,(by first | decide | (dsimp only;decide)),_,_,rfl,rfl,_,rfl,a,_,_,_,rfl,rfl,B2,rfl,?_⟩
    refine⟨_,rfl,a,l,rfl,⟨ns,p,_,_,_,_,by rw[B1 ne,B1 ne];exact hl,hp,B2⟩,λr H2 h2 k2=>?_⟩
    refine⟨_,rfl,a,l,rfl,h2,λr H3 h3 k3=>?_⟩
    exact k H3 h3 (((k1.trans λb o e nb=>by rw[B1 nb,B1 nb];exact e).trans k2).trans k3)
theorem D1p (T:Txt K mg):B9 P w K mg base CX0 3 T.ae.a T.ae.d ["_law_hand_here", "_law_many"] C62:=by
 have dB:=@C1s P w K mg base T
 have hU:=@D1o P w K mg base T
 have dD:=T.bC.b
 have hV:=T.cS.b
 refine T.ae.F.ok A7d (λvs H Q E h=>?_) (λcdv A outer s H vs Q E hr h=>?_)
 ·obtain⟨a,l,m,rfl,_⟩:=h
  rfl
 ·obtain⟨a,l,m,rfl,hd,hm0,hm1,k⟩:=h
  refine⟨_,(C0 (S3 (K9 (PW.pt (B2n (T7 y8 (G9 Q4 (pv 0) C3 (λ_ _=>rfl)) C3 (E4 _)) (B2m (T7 y8 (G9 Q4 (pv 0) C3 (λ_ _=>rfl)) C3 (E4 _)))))
   (D1 (T6 (B6 hU (hr.mono DD) rfl T.cS.m T.cS.F.kp hV .nil A9 (A1 (pv 0) A6 A0) (he:=A0) (hpl:=A5))))
   M9))
   (C0 (S3 (K9 (T7 A3t (G9 Q4 (pv 0) C3 (λ_ _=>rfl)) C3 (E4 _))
   (C0 (C4 (i:=2) A7d.nd rfl (B7 rfl) (K6 A2v (G9 Q4 (pv 0) C3 (λ_ _=>rfl)) (pv 1)))
   (C0 (x9 (K6 B8q (G9 Q4 (pv 0) C3 (λ_ _=>rfl)) (pv 1)) (w6 (pv 0) C3 f7))
   (D1 (G6 (pv 2)))))
   M9))
   (C0 (B7j (pv 0) C3 B8s C3 C4s f7)
   (C0 (C4 (i:=3) A7d.nd rfl (B7 rfl) (B6 dB (hr.mono DD) rfl T.bC.m T.bC.F.kp dD .nil A9 (A1 (pv 0) A6 A0) (he:=A0) (hpl:=A5)))
   (C0 (C4 (i:=4) A7d.nd rfl (B7 rfl) C3)
   (C0 (A9z A0o (T7 A05 (pv 4) (pv 1) (E4 _))
   (C0 (C4 (i:=3) A7d.nd rfl (B7 rfl) (K6 Q9 (K6 A1v (pv 3) C3) (B6 dB (hr.mono DD) rfl T.bC.m T.bC.F.kp dD .nil A9 (A1 (pv 0) A6 A0) (he:=A0) (hpl:=A5))))
   (D1 (C4 (i:=4) A7d.nd rfl (B7 rfl) (K6 A1v (pv 4) C3)))))
   (D1 (G6 (K6 A2v (pv 3) (pv 1)))))))))),?_⟩
  refine⟨fun σ H1=>σ=[some (.ref a),some (.int m),none,none,none]/\Hd H1 a l/\Kp a H H1,?_,?_⟩
  ·obtain⟨ns,p,b,c,u,v,hl,hp,ha⟩:=id hd
   refine⟨_,rfl,a,_,_,_,rfl,rfl,SqL.of ha,rfl,rfl,_,rfl,?_⟩
   refine A6c (λ_=>?_) (λ_=>E2 ⟨rfl,hd,.refl a H⟩)
   refine⟨_,rfl,a,_,_,_,rfl,rfl,SqL.of ha,rfl,rfl,_,rfl,?_⟩
   refine A6c (λ_=>?_) (λ_=>⟨rfl,hd,.refl a H⟩)
   exact⟨_,rfl,a,l,rfl,hd,λH1 h1 k1=>⟨rfl,h1,k1⟩⟩
  ·rintro σ H1 ⟨rfl,⟨ns,p,b,c,u,v,hl,hp,ha⟩,k1⟩
   have ne:=B0f hl ha
   refine⟨fun σ H2=>H1=H2/\σ=[some (.ref a),some (.int m),none,none,none],?_,?_⟩
   ·refine⟨_,rfl,a,_,_,_,rfl,rfl,SqL.of ha,rfl,_,_,rfl,rfl,_,rfl,?_⟩
    refine A6c (λ_=>?_) (λ_=>⟨rfl,rfl⟩)
    refine⟨_,rfl,a,_,_,_,rfl,rfl,SqL.of ha,rfl,_,rfl,_,_,rfl,rfl,hm0,?_⟩
    refine⟨_,rfl,a,_,_,_,rfl,rfl,SqL.of ha,rfl,_,rfl,_,_,rfl,rfl,⟨hm0,hm1⟩,_,rfl,a,_,_,_,rfl,rfl,ha,rfl,?_⟩
    refine⟨_,rfl,?_⟩
    exact k _ _ (Int.emod_nonneg _ OO) (C32 _ hm0) ⟨ns,p,_,_,_,_,by rw[B1 ne];exact hl,hp,B2⟩ (k1.trans λb o e nb=>by rw[B1 nb];exact e)
   ·rintro σ H2 ⟨rfl,rfl⟩
    refine⟨_,rfl,a,_,_,_,rfl,rfl,(by first | decide | (dsimp only;decide)),SqL.of ha,rfl,_,_,rfl,rfl,a,_,_,_,rfl,rfl,ha,rfl,?_⟩
    refine⟨_,rfl,a,l,rfl,⟨ns,p,_,_,_,_,by rw[B1 ne];exact hl,hp,B2⟩,λr H3 h3 k3=>?_⟩
    have k3':Kp a H H3:=(k1.trans λb o e nb=>by rw[B1 nb];exact e).trans k3
    refine C4z (fun σ H4=>∃(val sz:Int),σ=[some (.ref a),some (.int m),none,some (.int val),some (.int sz)]/\Hd H4 a l/\Kp a H H4/\0 < sz)
     (fun σ _=>match σ with | [_,_,_,_,some (.int sz)]=>(m - sz).toNat | _=>0) ⟨r,4294967296,rfl,h3,k3',DD⟩ ?_ (fun σ H Q Q' f ⟨v,e1,u,e2,i,j,e3,e4,c,e5,q⟩=>⟨v,e1,u,e2,i,j,e3,e4,c,e5,f _ _ q⟩)
    rintro σ H4 ⟨val,sz,rfl,h4,k4,hsz⟩
    refine⟨_,rfl,_,rfl,_,_,rfl,rfl,_,rfl,?_⟩
    refine A6c (λhlt=>?_) (λ_=>?_)
    ·have hlt':sz < m:=by simpa using hlt
     refine⟨_,rfl,_,_,rfl,rfl,.inr ⟨DD,DD⟩,_,rfl,a,l,rfl,h4,λr H5 h5 k5=>⟨_,_,rfl,rfl,?_⟩⟩
     refine⟨_,rfl,_,_,rfl,rfl,.inr ⟨DD,DD⟩,?_⟩
     refine⟨⟨_,sz * 4294967296,rfl,h5,k4.trans k5,OO⟩,?_⟩
     show (m - sz * 4294967296).toNat < (m - sz).toNat
     lia
    ·refine⟨_,rfl,_,rfl,_,_,rfl,rfl,hm0,?_⟩
     exact k _ _ (Int.emod_nonneg _ OO) (C32 _ hm0) h4 k4
end
def mqB:List Lean.Name:=[``A4v,``A15,``A27,``A28,``dOp,``A2z,``A4y,``dT,``A4x,``dCb,``A4e,``A4d,``dC,``dF,``A4g,``A4f,``A37,``A31,``A32,``dOr,``A34,``A35,``A36,``dBV,``dIf,``A12,``dIx,``A4h,``A4j,``A4o,``A4p,``dSl,``A4q,``A4r,``A4s,``A4u,``A4t,``aV,``aS,``W3,``arD,``A14,``T8,``A61,``ixD,``lenD,``R7,``A22,``gI,``gI0,``A38,``A39,``A4a,``A4b,``A4c,``gLt,``gLe,``gGt,``gEq,``A1a,``isN,``A20,``A4k,``A4l,``gI2,``A21,``A4n,``A4w,``A42,``A29,``A40,``gN,``gT2,``A1d,``A41,``gIn,``oN,``oS,``A0d,``i9,``A6p,``A6q,``A6r,``A6s,``A6t,``A6u,``m8,``tyD,``A9m,``A9n,``A9o,``A52,``A9p,``A9q,``G3,``A2m,``A3q,``A3s,``A3p,``Z1,``A6v,``A6w,``A6x,``A6y,``A6z,``A60,``A9r,``A9s,``A5a,``A49,``A5b,``A3d]
def mqT(s:List Lean.Name):Lean.MacroM (Lean.TSyntax `tactic):=do
 let a:=(s++mqB).toArray.map λx=>Lean.mkCIdent x
 `(tactic|try dsimp only[$[$a:ident],*])
local macro_rules|`(tactic|left)=>mqT []
local macro_rules|`(tactic|array_get_dec)=>mqT [``B3s,``dIl,``dIv,``B3n,``B3o,``B3v]
local macro_rules|`(tactic|sizeOf_list_dec)=>mqT [``Blk]
theorem M3 {k:Nat} {A:Around} (hr:N6 k A):A.units + 64 < cLine:=hr.units
def C1t:DSp:=λds Q=>∃m:Int,ds=[.none,.int m]/\0 < m/\m < 100000000000000000000000000000000000000000000000000000000000000/\∀r:Int,0<=r->r < m->Q (.int r)
theorem D1q {F:Addr->Prop} {hand:Option (Addr×Addr)} {H:Hp} {vs:List V} {ds:List PyData} {ms:List Md} (a:m9 F hand H (.hd::ms) vs ds):∃q vs' d ds',hand=some q/\vs=.ref q.1::vs'/\ds=d::ds'/\m9 F hand H ms vs' ds':=by
 cases a with
 | cons x t=>
  obtain⟨q,e,rfl⟩:=x
  exact⟨q,_,_,_,e,rfl,rfl,t⟩
section
variable {P:Program} {w:World} {K:A4} {mg:Str->Option Value} {base:Heap}
theorem A5h (T:Txt K mg):B9 P w K mg base CX0 3 T.ae.a T.ae.d ["_law_hand_here", "_law_many"] (spD [.hd,.sh] C1t):=(D1p T).imp λvs H Q E h=>by
 obtain⟨F,hand,ds,Qd,h1,h2,h3,a,⟨m,rfl,m0,m1,hr⟩,h5⟩:=h
 obtain⟨q,vs',d,ds',e,rfl,e2,a⟩:=D1q a
 cases e2
 subst e
 cases a with
 | cons x t=>
  cases t
  cases (show ThV F H _ (.int m) from x)
  exact⟨q.1,q.2,m,rfl,h3 q rfl,m0,m1,λr H' r0 r1 hd kp=>h5 _ _ _ (hr r r0 r1) (.int r) (λb o eb n=>kp b o eb (n q rfl)) λq' e'=>by cases e';exact hd⟩
end
def oD:Option Int->PyData
 | none=>.none
 | some i=>.int i
def onD:Option Nat->PyData
 | none=>.none
 | some n=>.int (n:Nat)
def W5 (ns:List Int):List PyData:=ns.map PyData.int
def B4 (t:Tb):List PyData:=t.map oD
def rnL (t:Rn):List PyData:=t.map onD
def W6 (r:Rw):PyData:=.tuple [.list (B4 r.1),.list (rnL r.2)]
def M7 (w:Wy):PyData:=.tuple [.int (w.1:Nat),.int (w.2.1:Nat),.int w.2.2]
def L8 (m:Nat) (ws:List Wy):PyData:=.tuple [.int (m:Nat),.list (ws.map M7)]
def n8:Ef->PyData
 | none=>.none
 | some (l,g,t)=>.tuple [.int l,.int g,.int t]
def numL (ns:List Nat):List PyData:=ns.map λn=>.int (n:Nat)
def n9 (p:List Nat×Int):PyData:=.tuple [.list (numL p.1),.int p.2]
local macro_rules|`(tactic|right)=>mqT [``oD,``onD,``n8,``W6,``L8,``M7,``n9]
local macro_rules|`(tactic|array_mem_dec)=>mqT [``B3s,``dIl,``dIv,``B3n,``B3o,``B3v,``oD,``onD,``n8,``W6,``L8,``M7,``n9]
local macro_rules|`(tactic|decreasing_trivial_pre_omega)=>mqT [``Blk,``oD,``onD,``n8,``W6,``L8,``M7,``n9]
theorem A2b {t:Tb} {p:Nat} (h:p < t.length):atI (B4 t) ((p:Nat):Int)=some (oD (gt t p)):=A0q (by unfold B4;rw[S0,B0q h];rfl)
theorem C1u {t:Rn} {p:Nat} (h:p < t.length):atI (rnL t) ((p:Nat):Int)=some (onD (gt t p)):=A0q (by unfold rnL;rw[S0,B0q h];rfl)
theorem B1j {ws:List Wy} {n:Nat} {w:Wy} (h:ws[n]?=some w):atI (ws.map M7) ((n:Nat):Int)=some (M7 w):=A0q (by rw[S0,h];rfl)
theorem B1k {n j:Nat} (h:j < n):ixN n ((j:Nat):Int)=some j:=by
 unfold ixN
 rw[if_pos OO,if_pos (OO)]
 simp
theorem B1l {α:Type} {xs:List α} {x:α} (h:xs.getLast?=some x):atI xs (-1)=some x:=by
 obtain⟨ys,rfl⟩:=List.getLast?_eq_some_iff.mp h
 exact B8a ys x
def D1r:DSp:=λds Q=>∃st lv ch:Int,ds=[.int st,.int lv,.int ch]/\Q (oD (N7 st lv ch))
def D1s:DSp:=λds Q=>∃(st lv:Int) (cs:List Int),ds=[.int st,.int lv,.list (W5 cs)]/\cs.length<=900/\Q (.list (W5 (O7 st lv cs)))
def D1t:DSp:=λds Q=>∃st:Int,ds=[.int st]/\Q (n8 (some (0,0,st)))
def D1u:DSp:=λds Q=>∃st c:Int,ds=[.int st,.int c]/\Q (n8 (A0e st c))
def D1v:DSp:=λds Q=>∃(e:Ef) (x:Int),ds=[n8 e,.int x]/\Q (oD (N4 e x))
def D1w:DSp:=λds Q=>∃a b:Ef,ds=[n8 a,n8 b]/\Q (n8 (Z7 a b))
def D1x:DSp:=λds Q=>∃(st:Int) (cs:List Int),ds=[.int st,.list (W5 cs)]/\Q (n8 (fxF st cs))
def A1h (d:PyData):Bool:=m8 "int" d&&!m8 "bool" d
def C1v:DSp:=λds Q=>∃d,ds=[d]/\Q (.bool (A1h d))
def D1y:DSp:=λds Q=>∃(m:Int) (n:Int),ds=[.int m,.int n]/\Q (.bool (decide (0<=n/\n < m)))
def D1z:DSp:=λds Q=>∃a b:Option Int,ds=[oD a,oD b]/\Q (.bool (Y4 a b))
def D10:DSp:=λds Q=>∃(st:Int) (t:Tb) (w:Wy),ds=[.int st,.list (B4 t),M7 w]/\w.1 < t.length/\Q (oD (O8 st t w))
section
variable {P:Program} {w:World} {K:A4} {mg:Str->Option Value} {base:Heap}
theorem C1w (T:Txt K mg):B9 P w K mg base CX0 1 T.bq.a T.bq.d ["store", "level", "change"] (spD [.sh,.sh,.sh] D1r):=by
 refine K0 T.bq.F C1b rfl (λC cdv A outer s H E hr=>⟨_,(@G1 _ _ _ _ _ _ (G5 (C4 (i:=3) C1b.nd rfl (B7 rfl) (L5 Q9 i8 (A3 (pv 1)) (A3 (pv 2))))) (G1 (U0 (O0 A05 A6i (A3 (pv 3)) B3 (E4 _))
   (E1 (F8 N2))
   T9)
   (E1 (F8 (A0c B0j (G8 (A94 rfl) rfl T.eh B0c (A2 (A3 (pv 3)) (A2 (A3 (pv 0)) B5 A0) A0) (he:=A0) (hpl:=(A7 A0 A5)))))))),λds Q hl h=>?_⟩)
 obtain⟨st,lv,ch,rfl,q⟩:=h
 left
 unfold N7 at q
 by_cases c:lv + ch < 0
 ·rw[decide_eq_true c,if_pos rfl]
  rw[if_pos c] at q;exact q
 ·rw[decide_eq_false c,if_neg R9]
  rw[if_neg c] at q;exact q
theorem A7e (T:Txt K mg):B9 P w K mg base CX0 1 T.ah.a T.ah.d ["thing"] (spD [.sh] C1v):=by
 refine K0 T.ah.F D0i rfl (λC cdv A outer s H E hr=>⟨_,(@E1 _ _ _ _ (@F8 _ _ _ _ _ (@A0w _ _ _ _ _ _ _ _ (B0k C7h (G8 B0e rfl T.az A0u (A1 (pv 0) (A1 (A9x (v:=V.ty "int") rfl T.fm B3c rfl) A6 A0) A0) (he:=A0) (hpl:=(A7 A0 A5)))) (i7 (C64 (B0k C7i (G8 B0e rfl T.az A0u (A1 (pv 0) (A1 (A9x (v:=V.ty "bool") rfl T.fX C6i rfl) A6 A0) A0) (he:=A0) (hpl:=(A7 A0 A5))))))))),λds Q hl h=>?_⟩)
 obtain⟨d,rfl,q⟩:=h
 left
 unfold A1h at q
 cases d <;> exact q
theorem D11 (T:Txt K mg):B9 P w K mg base CX0 2 T.ay.a T.ay.d ["many", "thing"] (spD [.sh,.sh] D1y):=by
 have aO:=@A7e P w K mg base T
 have aP:=T.ah.b
 refine K0 T.ay.F C1c rfl (λC cdv A outer s H E hr=>⟨_,(E1 (F8 (A0w (F5 (B6 aO (hr.mono DD) rfl T.ah.m T.ah.F.kp aP .nil A9 (C2 (A3 (pv 1)) F4 A0) (he:=A0) (hpl:=A5))) (i7 (A6k j7 A05 B3 (A3 (pv 1)) (A3 (pv 0))))))),λds Q hl h=>?_⟩)
 obtain⟨m,n,rfl,q⟩:=h
 left
 refine⟨_,rfl,?_⟩
 left
 by_cases c:0<=n
 ·by_cases c2:n < m
  ·simpa [c,c2,A1h,m8,tyD,C1v] using q
  ·simpa [c,c2,A1h,m8,tyD] using q
 ·simpa [c,A1h,m8,tyD] using q
theorem D12 (T:Txt K mg):B9 P w K mg base CX0 1 T.bT.a T.bT.d ["one", "other"] (spD [.sh,.sh] D1z):=by
 refine K0 T.bT.F D0q rfl (λC cdv A outer s H E hr=>⟨_,(E1 (F8 (A0w (A0v A79 A8j (A3 (pv 0)) N2 (E4 _)) (i7 (B0h (A0v y9 A0y (A3 (pv 1)) N2 (E4 _)) (i7 (A0v A3t A6j (A3 (pv 0)) (A3 (pv 1)) (E4 _)))))))),λds Q hl h=>?_⟩)
 obtain⟨a,b,rfl,q⟩:=h
 cases a with
 | none=>
  left
  exact q
 | some x=>
  cases b with
  | none=>
   left
   exact q
  | some y=>
   left
   exact q
theorem D13 (T:Txt K mg):B9 P w K mg base CX0 2 T.bz.a T.bz.d ["store", "table", "way"] (spD [.sh,.sh,.sh] D10):=by
 have dE:=@C1w P w K mg base T
 have dG:=T.bq.b
 refine K0 T.bz.F C1d rfl (λC cdv A outer s H E hr=>⟨_,(@G1 _ _ _ _ _ _ (G5 (C4 (i:=3) C1d.nd rfl (B7 rfl) (D8 (pv 1) (D8 (pv 2) (E8 (D2 (v:=V.int 0) rfl T.g_START.m ⟨_,rfl⟩)) (λ_ _=>rfl)) (λ_ _=>rfl)))) (@G1 _ _ _ _ _ _ (U0 (O0 y9 A0y (A3 (pv 3)) N2 (E4 _))
   (E1 (F8 N2))
   T9) (E1 (F8 (F5 (B6 dE (hr.mono DD) rfl T.bq.m T.bq.F.kp dG .nil A9 (C2 (A3 (pv 0)) (C2 (A3 (pv 3)) (C2 (D8 (pv 2) (E8 (D2 (v:=V.int 2) rfl T.g_CHANGE.m ⟨_,rfl⟩)) (λ_ _=>rfl)) F4 C1) A0) A0) (he:=A0) (hpl:=(A7 A0 (A7 C1 A5))))))))),λds Q hl h=>?_⟩)
 obtain⟨st,t,w,rfl,hw,q⟩:=h
 right
 rw[A2b hw]
 unfold O8 at q
 cases e:gt t w.1 with
 | none=>
  rw[e] at q
  right
  exact q
 | some l=>
  rw[e] at q
  right
  exact⟨_,_,_,rfl,q⟩
theorem D14 (T:Txt K mg):B9 P w K mg base CX0 1 T.cm.a T.cm.d ["effect", "level"] (spD [.sh,.sh] D1v):=by
 refine K0 T.cm.F D0u rfl (λC cdv A outer s H E hr=>⟨_,(@G1 _ _ _ _ _ _ (U0 (PW.pt (A33 (O0 y9 A0y (A3 (pv 0)) N2 (E4 _)) (A6h (O0 A05 A6i (A3 (pv 1)) (D8 (pv 0) (E8 (D2 (v:=V.int 0) rfl T.g_LEAST.m ⟨_,rfl⟩)) (λ_ _=>rfl)) (E4 _)))))
   (E1 (F8 N2))
   T9) (E1 (F8 (A0c B0j (G8 (A94 rfl) rfl T.eh B0c (A2 (L5 Q9 i8 (A3 (pv 1)) (D8 (pv 0) (E8 (D2 (v:=V.int 1) rfl T.g_GAIN.m ⟨_,rfl⟩)) (λ_ _=>rfl))) (A2 (D8 (pv 0) (E8 (D2 (v:=V.int 2) rfl T.g_TOP.m ⟨_,rfl⟩)) (λ_ _=>rfl)) B5 C1) L7) (he:=L7) (hpl:=(A7 C1 A5))))))),λds Q hl h=>?_⟩)
 obtain⟨e,x,rfl,q⟩:=h
 rcases e with _ | ⟨l,g,t⟩
 ·right
  exact q
 ·unfold N4 at q
  dsimp only at q
  right
  by_cases c:x < l
  ·rw[if_pos c] at q
   simp only[c,decide_true,if_true]
   exact q
  ·rw[if_neg c] at q
   simp only[c,decide_false,B2c,if_false]
   exact q
theorem D15 (T:Txt K mg):B9 P w K mg base CX0 2 T.cq.a T.cq.d ["one", "other"] (spD [.sh,.sh] D1w):=by
 have gw:=@D14 P w K mg base T
 have gz:=T.cm.b
 refine K0 T.cq.F C1e rfl (λC cdv A outer s H E hr=>⟨_,(@G1 _ _ _ _ _ _ (@U0 _ _ _ _ _ _ _ _ _ (PW.pt (A33 (O0 y9 A0y (A3 (pv 0)) N2 (E4 _)) (A33 (O0 y9 A0y (A3 (pv 1)) N2 (E4 _)) (A6h (O0 A05 A6i (D8 (pv 0) (E8 (D2 (v:=V.int 2) rfl T.g_TOP.m ⟨_,rfl⟩)) (λ_ _=>rfl)) (D8 (pv 1) (E8 (D2 (v:=V.int 0) rfl T.g_LEAST.m ⟨_,rfl⟩)) (λ_ _=>rfl)) (E4 _)))))) (E1 (F8 N2)) T9) (@G1 _ _ _ _ _ _ (@G5 _ _ _ _ _ (@C4 _ _ 2 _ _ _ _ C1e.nd rfl (B7 rfl) (@A0c _ _ _ _ _ _ B9f (@G8 _ _ _ _ _ _ _ _ _ (B7q rfl) rfl T.ee B0d (A2 (D8 (pv 0) (E8 (D2 (v:=V.int 0) rfl T.g_LEAST.m ⟨_,rfl⟩)) (λ_ _=>rfl)) (A2 (L5 A2u A8i (D8 (pv 1) (E8 (D2 (v:=V.int 0) rfl T.g_LEAST.m ⟨_,rfl⟩)) (λ_ _=>rfl)) (D8 (pv 0) (E8 (D2 (v:=V.int 1) rfl T.g_GAIN.m ⟨_,rfl⟩)) (λ_ _=>rfl))) B5 L7) C1) DD DD C1 ((A7 L7 A5)))) (by rfl) (by first | exact .inl rfl | exact .inr rfl | assumption))) (@E1 _ _ _ _ (@F8 _ _ _ _ _ (@M4 _ _ _ _ _ _ (@A2 _ _ _ _ _ _ (A3 (pv 2)) (@A2 _ _ _ _ _ _ (L5 Q9 i8 (D8 (pv 0) (E8 (D2 (v:=V.int 1) rfl T.g_GAIN.m ⟨_,rfl⟩)) (λ_ _=>rfl)) (D8 (pv 1) (E8 (D2 (v:=V.int 1) rfl T.g_GAIN.m ⟨_,rfl⟩)) (λ_ _=>rfl))) (A2 (F5 (B6 gw (hr.mono DD) rfl T.cm.m T.cm.F.kp gz .nil A9 (C2 (A3 (pv 1)) (C2 (D8 (pv 0) (E8 (D2 (v:=V.int 2) rfl T.g_TOP.m ⟨_,rfl⟩)) (λ_ _=>rfl)) F4 C1) A0) (he:=A0) (hpl:=(A7 C1 A5)))) B5 D5) L7) A0)))))),λds Q hl h=>?_⟩)
 obtain⟨a,b,rfl,q⟩:=h
 rcases a with _ | ⟨l1,g1,t1⟩
 ·right
  exact q
 ·rcases b with _ | ⟨l2,g2,t2⟩
  ·right
   exact q
  ·right
   by_cases c:t1 < l2
   ·rw[A8q (a:=(l1,g1,t1)) (b:=(l2,g2,t2)) c] at q
    simp only[c,decide_true,if_true]
    exact q
   ·rw[A65 (a:=(l1,g1,t1)) (b:=(l2,g2,t2)) c] at q
    simp only[c,decide_false,B2c,if_false]
    refine⟨some (l2,g2,t2),t1,rfl,?_⟩
    have e:oD (N4 (some (l2,g2,t2)) t1)=.int (if t2 < t1 + g2 then t2 else t1 + g2):=by
     unfold N4
     dsimp only
     rw[if_neg c]
     rfl
    rw[e]
    left
    simp only[n8] at q
    exact⟨DD,q⟩
theorem D16 (T:Txt K mg):B9 P w K mg base CX0 1 T.aJ.a T.aJ.d ["store"] (spD [.sh] D1t):=by
 refine K0 T.aJ.F D0s rfl (λC cdv A outer s H E hr=>⟨_,(E1 (F8 (M4 (A2 B3 (A2 B3 (A2 (A3 (pv 0)) B5 A0) A8) A8)))),λds Q hl h=>?_⟩)
 obtain⟨st,rfl,q⟩:=h
 right
 exact⟨DD,q⟩
theorem D17 (T:Txt K mg):B9 P w K mg base CX0 1 T.aM.a T.aM.d ["store", "change"] (spD [.sh,.sh] D1u):=by
 refine K0 T.aM.F D0t rfl (λC cdv A outer s H E hr=>⟨_,(@G1 _ _ _ _ _ _ (U0 (O0 A05 A6i (L5 Q9 i8 (A3 (pv 0)) (A3 (pv 1))) B3 (E4 _))
   (E1 (F8 N2))
   T9) (@E1 _ _ _ _ (@F8 _ _ _ _ _ (@M4 _ _ _ _ _ _ (@A2 _ _ _ _ _ _ (A0c B9f (G8 (B7q rfl) rfl T.ee B0d (A2 B3 (A2 (Z4 (A3 (pv 1))) B5 A3z) A8) (he:=A8) (hpl:=(A7 A3z A5)))) (A2 (A3 (pv 1)) (A2 (A0c B0j (G8 (A94 rfl) rfl T.eh B0c (A2 (A3 (pv 0)) (A2 (L5 Q9 i8 (A3 (pv 0)) (A3 (pv 1))) B5 L7) A0) (he:=A0) (hpl:=(A7 L7 A5)))) B5 D5) A0) D5))))),λds Q hl h=>?_⟩)
 obtain⟨st,c,rfl,q⟩:=h
 unfold A0e at q
 right
 by_cases d:st + c < 0
 ·rw[if_pos d] at q
  simp only[d,decide_true,if_true]
  exact q
 ·rw[if_neg d] at q
  simp only[d,decide_false,B2c,if_false]
  exact⟨DD,q⟩
theorem D18 (T:Txt K mg):B9 P w K mg base CX0 3 T.bE.a T.bE.d ["store", "changes"] (spD [.sh,.sh] D1x):=by
 have dS:=@D16 P w K mg base T
 have dU:=T.aJ.b
 have eu:=@D17 P w K mg base T
 have eA:=T.aM.b
 have gA:=@D15 P w K mg base T
 have gC:=T.cq.b
 refine K0 T.bE.F B1e rfl (λC cdv A outer s H E hr=>⟨_,(@G1 _ _ _ _ _ _ (G5 (C4 (i:=2) B1e.nd rfl (B7 rfl) (F5 (B6 dS (hr.mono DD) rfl T.aJ.m T.aJ.F.kp dU .nil A9 (C2 (A3 (pv 0)) F4 A0) (he:=A0) (hpl:=A5))))) (@G1 _ _ _ _ _ _ (@A6o _ _ _ _ _ _ (@A1u _ _ _ _ _ _ _ _ A0o rfl (A6m (pv 1)) (B0o (c9 (i:=3) B1e.nd rfl (B7 rfl))) (@E1 _ _ _ _ (@G5 _ _ _ _ _ (@C4 _ _ 2 _ _ _ _ B1e.nd rfl (B7 rfl) (@F5 _ _ _ _ _ _ _ (@B6 _ _ _ _ _ _ _ _ _ _ _ _ _ _ _ _ gA (hr.mono DD) rfl T.cq.m T.cq.F.kp gC .nil A9 (C2 (A3 (pv 2)) (C2 (F5 (B6 eu (hr.mono DD) rfl T.aM.m T.aM.F.kp eA .nil A9 (C2 (A3 (pv 0)) (C2 (A3 (pv 3)) F4 A0) A0) (he:=A0) (hpl:=(A7 A0 A5)))) F4 D5) A0) DD A0 ((A7 D5 A5)))) (by rfl) (by first | exact .inl rfl | exact .inr rfl | assumption)))) (by intro _;rfl))) (E1 (F8 (A3 (pv 2)))))),λds Q hl h=>?_⟩)
 obtain⟨st,cs,rfl,q⟩:=h
 left
 refine⟨st,rfl,?_⟩
 array_get_dec
 refine⟨λr ρ=>∃(cs':List Int) (e:Ef) (z0 z:Sl),r=W5 cs'/\ρ=[Sl.sh (.int st),z0,Sl.sh (n8 e),z]/\Q (n8 (foF st e cs')),⟨cs,_,_,_,rfl,rfl,q⟩,?_,?_⟩
 ·rintro x r ρ ⟨cs',e,z0,z,h1,rfl,q⟩
  cases cs' with
  | nil=>cases h1
  | cons c cs'=>
   cases (show x::r=PyData.int c::W5 cs' from h1)
   sizeOf_list_dec
   refine⟨_,_,rfl,?_⟩
   left
   refine⟨_,_,rfl,?_⟩
   exact⟨cs',_,_,_,rfl,rfl,q⟩
 ·rintro ρ ⟨cs',e,z0,z,h1,rfl,q⟩
  cases cs' with
  | nil=>
   left
   exact q
  | cons c cs'=>cases h1
theorem D19 (T:Txt K mg):B9 P w K mg base CX0 2 T.aC.a T.aC.d ["store", "level", "changes"] (spD [.sh,.sh,.sh] D1s):=by
 have dE:=@C1w P w K mg base T
 have dG:=T.bq.b
 refine K0 T.aC.F B1d rfl (λC cdv A outer s H E hr=>⟨_,(@G1 _ _ _ _ _ _ (n6 (C4 (i:=3) B1d.nd rfl (B7 rfl) (E3 (A2 (A3 (pv 1)) B5 A0)))) (@G1 _ _ _ _ _ _ (@A6o _ _ _ _ _ _ (@A1u _ _ _ _ _ _ _ _ A0o rfl (A6m (pv 2)) (B0o (c9 (i:=4) B1d.nd rfl (B7 rfl))) (@G1 _ _ _ _ _ _ (G5 (C4 (i:=5) B1d.nd rfl (B7 rfl) (F5 (B6 dE (hr.mono DD) rfl T.bq.m T.bq.F.kp dG .nil A9 (C2 (A3 (pv 0)) (C2 (D8 (pv 3) (Z4 B3) (λ_ _=>rfl)) (C2 (A3 (pv 4)) F4 A0) C1) A0) (he:=A0) (hpl:=(A7 C1 (A7 A0 A5))))))) (G1 (U0 (O0 y9 A0y (A3 (pv 5)) N2 (E4 _))
   (E1 (F8 (A3 (pv 3))))
   T9)
   (E1 (A4z (T6 (A07 A1p A56 A57 A2x (pv 3) (A1 (A3 (pv 5)) A6 A0))))))) (by intro _;rfl))) (E1 (F8 (A3 (pv 3)))))),λds Q hl h=>?_⟩)
 obtain⟨st,lv,cs,rfl,hn,q⟩:=h
 array_get_dec
 refine⟨DD,λr ρ=>∃(cs' ys:List Int) (l:Int) (z0 z1 z2:Sl),r=W5 cs'/\ρ=[Sl.sh (.int st),Sl.sh (.int lv),z0,Sl.ow (W5 (ys++[l])),z1,z2]/\ys.length + cs'.length=cs.length/\ys++O7 st l cs'=O7 st lv cs,⟨cs,[],lv,_,_,_,rfl,rfl,by simp,rfl⟩,?_,?_⟩
 ·rintro x r ρ ⟨cs',ys,l,z0,z1,z2,h1,rfl,h2,h3⟩
  cases cs' with
  | nil=>cases h1
  | cons c cs'=>
   cases (show x::r=PyData.int c::W5 cs' from h1)
   have hlast:atI (W5 (ys++[l])) (-1)=some (.int l):=B1l (by unfold W5;simp)
   sizeOf_list_dec
   rw[hlast]
   left
   refine⟨_,_,_,rfl,?_⟩
   cases e:N7 st l c with
   | none=>
    rw[C8r e] at h3
    right
    rw[h3]
    exact q
   | some v=>
    rw[C8s e] at h3
    right
    refine⟨by unfold W5;rw[D6,Q1];simp at h2 ⊢;lia,cs',ys++[l],v,z0,_,_,rfl,by rw[show W5 (ys++[l]++[v])=W5 (ys++[l])++[.int v] by unfold W5;simp],by simp at h2 ⊢;lia,by rw[<-h3];simp⟩
 ·rintro ρ ⟨cs',ys,l,z0,z1,z2,h1,rfl,h2,h3⟩
  cases cs' with
  | nil=>
   left
   have e:ys++[l]=O7 st lv cs:=h3
   rw[e]
   exact q
  | cons c cs'=>cases h1
end
def A1i (w:Wy):Wy:=(w.2.1,w.1,w.2.2)
theorem W7 {t:Tb}:(B4 t).length=t.length:=by unfold B4;rw[D6]
theorem D2a {t:Rn}:(rnL t).length=t.length:=by unfold rnL;rw[D6]
theorem A3f {t:List Nat}:(numL t).length=t.length:=by unfold numL;rw[D6]
theorem C1x {t:Tb} {i:Nat} {x:Option Int}:(B4 t).set i (oD x)=B4 (t.set i x):=by unfold B4;rw[List.map_set]
theorem D2b {t:Rn} {i n:Nat}:(rnL t).set i (.int (n:Nat))=rnL (t.set i (some n)):=by unfold rnL;rw[List.map_set];rfl
theorem C1y {n:Nat}:A8l [PyData.none] n=rnL (E5 n none):=by
 unfold A8l rnL
 induction n with
 | zero=>rfl
 | succ n ih=>rw[A3n,A3n,A7s,P2,ih];rfl
theorem D2c {ws:List Wy}:A1c (ws.map M7)=ws.zipIdx.map λp=>.tuple [.int (p.2:Nat),M7 p.1]:=by
 unfold A1c
 rw[List.zipIdx_map,A1q]
 rfl
def D2d:DSp:=λds Q=>∃(m:Nat) (ws:List Wy),ds=[L8 m ws]/\ws.length<=900/\Q (L8 m (ws.map A1i))
def D2e:DSp:=λds Q=>∃(m:Nat) (ws:List Wy) (ns:List Nat),ds=[L8 m ws,.list (numL ns)]/\(∀n∈ns,n < ws.length)/\ns.length<=900/\Q (.list (W5 (chs ws ns)))
def D2f:DSp:=λds Q=>∃t:Tb,ds=[.list (B4 t)]/\t.length<=900/\Q (W6 (t,E5 t.length none))
def D2g:DSp:=λds Q=>∃(m:Nat) (ws:List Wy) (st:Int) (t s:Tb),ds=[L8 m ws,.int st,.list (B4 t),.list (B4 s)]/\O9 m ws/\t.length=m/\s.length=m/\Q (W6 (P9 m ws st t s))
def A8z (m:Nat) (ws:List Wy) (rs:List Rw):Prop:=∀r∈rs,r.2.length=m/\∀q n,gt r.2 q=some n->n < ws.length
def D2h:DSp:=λds Q=>∃(m:Nat) (ws:List Wy) (rs:List Rw) (p:Nat),ds=[L8 m ws,.list (rs.map W6),.int (p:Nat)]/\p < m/\O9 m ws/\A8z m ws rs/\rs.length<=900/\Q (.tuple [.int ((wlk ws rs.reverse p).1:Nat),.list (numL (wlk ws rs.reverse p).2)])
section
variable {P:Program} {w:World} {K:A4} {mg:Str->Option Value} {base:Heap}
theorem D2i (T:Txt K mg):B9 P w K mg base CX0 1 T.bb.a T.bb.d ["land"] (spD [.sh] D2d):=by
 refine K0 T.bb.F D0n rfl (λC cdv A outer s H E hr=>⟨_,(@E1 _ _ _ _ (@F8 _ _ _ _ _ (@M4 _ _ _ _ _ _ (@A2 _ _ _ _ _ _ (D8 (pv 0) (E8 (D2 (v:=V.int 0) rfl T.g_MANY.m ⟨_,rfl⟩)) (λ_ _=>rfl)) (@A2 _ _ _ _ _ _ (@C7 _ _ _ _ (@A43 _ _ _ _ _ _ _ _ rfl (@Z3 _ _ _ _ _ _ _ _ _ _ _ _ _ _ _ (Q5.new (N:=["land"]) (osc:=B8 B0z) KK) rfl (B9l (D8 (pv 0) (E8 (D2 (v:=V.int 1) rfl T.g_WAYS.m ⟨_,rfl⟩)) (λ_ _=>rfl))) (λ_=>A6n) (λ_=>(M4 (A2 (D8 (pv 1) (E8 (D2 (v:=V.int 1) rfl T.g_END.m ⟨_,rfl⟩)) (λ_ _=>rfl)) (A2 (D8 (pv 1) (E8 (D2 (v:=V.int 0) rfl T.g_START.m ⟨_,rfl⟩)) (λ_ _=>rfl)) (A2 (D8 (pv 1) (E8 (D2 (v:=V.int 2) rfl T.g_CHANGE.m ⟨_,rfl⟩)) (λ_ _=>rfl)) B5 C1) C1) C1))) (by rfl) (by rfl) (by intro _;rfl)))) B5 A09) C1)))),λds Q hl h=>?_⟩)
 obtain⟨m,ws,rfl,hn,q⟩:=h
 array_mem_dec
 refine⟨⟨rfl,by rw[D6];lia⟩,A62 (f:=λw=>M7 (A1i w)) (λw hw Q' q'=>?_) ?_⟩
 ·right
  exact⟨DD,q'⟩
 ·refine⟨DD,?_⟩
  unfold L8 at q
  rw[A1q] at q
  exact q
theorem D2j (T:Txt K mg):B9 P w K mg base CX0 1 T.aB.a T.aB.d ["land", "numbers"] (spD [.sh,.sh] D2e):=by
 refine K0 T.aB.F D0o rfl (λC cdv A outer s H E hr=>⟨_,(E1 (F8 (C7 (A43 rfl (Z3 (Q5.new (N:=["land", "numbers"]) (osc:=B8 B00) KK) rfl (A6m (pv 1)) (λ_=>A6n) (λ_=>(P4 (P4 (D8 (pv 0) (E8 (D2 (v:=V.int 1) rfl T.g_WAYS.m ⟨_,rfl⟩)) (λ_ _=>rfl)) (A3 (pv 2)) (λ_ _=>rfl)) (E8 (D2 (v:=V.int 2) rfl T.g_CHANGE.m ⟨_,rfl⟩)) (λ_ _=>rfl)))))))),λds Q hl h=>?_⟩)
 obtain⟨m,ws,ns,rfl,hb,hn,q⟩:=h
 array_mem_dec
 refine⟨⟨rfl,by rw[A3f];lia⟩,?_⟩
 unfold numL
 refine A62 (f:=λn=>.int (A0f ws n)) (λn hm Q' q'=>?_) ?_
 ·obtain⟨w,hw⟩:∃w,ws[n]?=some w:=⟨_,P5 (hb n hm)⟩
  right
  rw[B1j hw]
  right
  have e:A0f ws n=w.2.2:=by unfold A0f;rw[hw]
  rw[e] at q'
  exact q'
 ·unfold W5 chs at q
  rw[A1q] at q
  exact q
theorem D2k (T:Txt K mg):B9 P w K mg base CX0 1 T.bF.a T.bF.d ["table"] (spD [.bo] D2f):=by
 refine K0 T.bF.F D0v rfl (λC cdv A outer s H E hr=>⟨_,(E1 (F8 (M4 (A2 (C7 (B3k (j9 A1y rfl T.bO A0t (A1 (pv 0) A6 A0) (he:=A0) (hpl:=A5)))) (A2 (C7 (B9j (C7 (E3 (A2 N2 B5 A8))) (A0z (G8 Y1 rfl T.bi W0 (A1 (pv 0) A6 A0) (he:=A0) (hpl:=A5))))) B5 L7) D5)))),λds Q hl h=>?_⟩)
 obtain⟨t,rfl,hn,q⟩:=h
 right
 refine⟨DD,⟨OO,by rw[W7];lia,DD⟩,DD,?_⟩
 unfold W6 at q
 rw[W7,show ((t.length:Nat):Int).toNat=t.length by simp,C1y]
 exact q
theorem D2l (T:Txt K mg):B9 P w K mg base CX0 3 T.bA.a T.bA.d ["land", "store", "table", "stayed"] (spD [.sh,.sh,.sh,.sh] D2g):=by
 have ft:=@D13 P w K mg base T
 have fu:=T.bz.b
 have fZ:=@D12 P w K mg base T
 have gb:=T.bT.b
 refine K0 T.bA.F A7b rfl (λC cdv A outer s H E hr=>⟨_,(@G1 _ _ _ _ _ _ (n6 (C4 (i:=4) A7b.nd rfl (B7 rfl) (B3k (j9 A1y rfl T.bO A0t (A1 (pv 3) A6 A0) (he:=A0) (hpl:=A5))))) (@G1 _ _ _ _ _ _ (n6 (C4 (i:=5) A7b.nd rfl (B7 rfl) (B9j (C7 (E3 (A2 N2 B5 A8))) (D8 (pv 0) (E8 (D2 (v:=V.int 0) rfl T.g_MANY.m ⟨_,rfl⟩)) (λ_ _=>rfl))))) (@G1 _ _ _ _ _ _ (@A6o _ _ _ _ _ _ (@A1u _ _ _ _ _ _ _ _ A0o rfl (B9m (B8x rfl T.cX (A1 (D8 (pv 0) (E8 (D2 (v:=V.int 1) rfl T.g_WAYS.m ⟨_,rfl⟩)) (λ_ _=>rfl)) A6 C1))) (B9p (B2s (n:=2) rfl (A2s (c9 (i:=6) A7b.nd rfl (B7 rfl)) (A2s (c9 (i:=7) A7b.nd rfl (B7 rfl)) B2r)))) (@G1 _ _ _ _ _ _ (G5 (C4 (i:=8) A7b.nd rfl (B7 rfl) (F5 (B6 ft (hr.mono DD) rfl T.bz.m T.bz.F.kp fu .nil A9 (C2 (A3 (pv 1)) (C2 (A3 (pv 2)) (C2 (A3 (pv 7)) F4 A0) A0) A0) (he:=A0) (hpl:=(A7 A0 (A7 A0 A5))))))) (@E1 _ _ _ _ (@U0 _ _ _ _ _ _ _ _ _ (A30 (F5 (B6 fZ (hr.mono DD) rfl T.bT.m T.bT.F.kp gb .nil A9 (C2 (A3 (pv 8)) (C2 (D8 (pv 4) (D8 (pv 7) (E8 (D2 (v:=V.int 1) rfl T.g_END.m ⟨_,rfl⟩)) (λ_ _=>rfl)) (λ_ _=>rfl)) F4 C1) A0) (he:=A0) (hpl:=(A7 C1 A5))))) (G1 (B0n (x9 (A3 (pv 8)) (w6 (pv 4) (D8 (pv 7) (E8 (D2 (v:=V.int 1) rfl T.g_END.m ⟨_,rfl⟩)) (λ_ _=>rfl)) f7)))
   (E1 (B0n (x9 (A3 (pv 6)) (w6 (pv 5) (D8 (pv 7) (E8 (D2 (v:=V.int 1) rfl T.g_END.m ⟨_,rfl⟩)) (λ_ _=>rfl)) f7))))) T9))) (by intro _;rfl))) (E1 (F8 (M4 (A2 (A3 (pv 4)) (A2 (A3 (pv 5)) B5 A0) A0))))))),λds Q hl h=>?_⟩)
 obtain⟨m,ws,st,t,s0,rfl,ok,ht,hs,q⟩:=h
 have m2:=ok.m2
 array_mem_dec
 refine⟨DD,⟨OO,OO,DD⟩,?_⟩
 rw[show ((m:Nat):Int).toNat=m by simp,C1y,D2c]
 refine⟨λr ρ=>∃(R:List (Wy×Nat)) (acc:Tb×Rn) (z1 z2 z3:Sl),r=R.map (λp=>.tuple [.int (p.2:Nat),M7 p.1])/\ρ=[Sl.sh (L8 m ws),Sl.sh (.int st),Sl.sh (.list (B4 t)),Sl.sh (.list (B4 s0)),Sl.ow (B4 acc.1),Sl.ow (rnL acc.2),z1,z2,z3]/\acc.1.length=m/\acc.2.length=m/\(∀p∈R,p.1∈ws)/\R.foldl (A3c st t) acc=P9 m ws st t s0,
  ⟨ws.zipIdx,(s0,E5 m none),_,_,_,rfl,rfl,hs,by simp,λp hp=>?_,rfl⟩,?_,?_⟩
 ·obtain⟨w,n⟩:=p
  rw[C3z] at hp
  exact X1 hp
 ·rintro x r ρ ⟨R,acc,z1,z2,z3,h1,rfl,l1,l2,hR,hF⟩
  cases R with
  | nil=>cases h1
  | cons p R=>
   cases (show x::r=PyData.tuple [.int (p.2:Nat),M7 p.1]::R.map (λp=>.tuple [.int (p.2:Nat),M7 p.1]) from h1)
   have hw:=hR p D4
   have e1:=ok.en _ hw
   have hF':R.foldl (A3c st t) (A3c st t acc p)=P9 m ws st t s0:=hF
   sizeOf_list_dec
   refine⟨_,_,_,rfl,by rw[ht];exact ok.st _ hw,?_⟩
   unfold M7
   left
   rw[A2b (by rw[l1];exact e1)]
   left
   refine⟨_,_,rfl,?_⟩
   unfold A3c at hF'
   cases c:Y4 (O8 st t p.1) (gt acc.1 p.1.2.1) with
   | true=>
    rw[if_pos c] at hF'
    left
    rw[B1k (by rw[W7,l1];exact e1)]
    left
    rw[B1k (by rw[D2a,l2];exact e1),C1x]
    left
    rw[D2b]
    exact⟨R,_,_,_,_,rfl,rfl,by rw[X2];exact l1,by rw[X2];exact l2,λp hp=>hR p (C8 _ hp),hF'⟩
   | false=>
    rw[if_neg (by rw[c];exact R9)] at hF'
    left
    exact⟨R,acc,_,_,_,rfl,rfl,l1,l2,λp hp=>hR p (C8 _ hp),hF'⟩
 ·rintro ρ ⟨R,acc,z1,z2,z3,h1,rfl,l1,l2,hR,hF⟩
  cases R with
  | cons p R=>cases h1
  | nil=>
   left
   refine⟨DD,?_⟩
   have hF':acc=P9 m ws st t s0:=hF
   rw[<-hF'] at q
   exact q
theorem D2m (T:Txt K mg):B9 P w K mg base CX0 1 T.bU.a T.bU.d ["land", "rows", "place"] (spD [.sh,.sh,.sh] D2h):=by
 refine K0 T.bU.F A7c rfl (λC cdv A outer s H E hr=>⟨_,(@G1 _ _ _ _ _ _ (G5 (C4 (i:=3) A7c.nd rfl (B7 rfl) (A3 (pv 2)))) (@G1 _ _ _ _ _ _ (n6 (C4 (i:=4) A7c.nd rfl (B7 rfl) (E3 B5))) (@G1 _ _ _ _ _ _ (@A6o _ _ _ _ _ _ (@A1u _ _ _ _ _ _ _ _ A0o rfl (C74 (C6v rfl T.dr (A1 (A3 (pv 1)) A6 A0))) (B0o (c9 (i:=5) A7c.nd rfl (B7 rfl))) (@G1 _ _ _ _ _ _ (G5 (C4 (i:=6) A7c.nd rfl (B7 rfl) (P4 (D8 (pv 5) (E8 (D2 (v:=V.int 1) rfl T.g_RISEN.m ⟨_,rfl⟩)) (λ_ _=>rfl)) (A3 (pv 3)) (λ_ _=>rfl)))) (@E1 _ _ _ _ (@U0 _ _ _ _ _ _ _ _ _ (O0 A79 A8j (A3 (pv 6)) N2 (E4 _)) (@G1 _ _ _ _ _ _ (A4z (T6 (A07 A1p A56 A57 A2x (pv 4) (A1 (A3 (pv 6)) A6 A0)))) (E1 (G5 (C4 (i:=3) A7c.nd rfl (B7 rfl) (P4 (P4 (D8 (pv 0) (E8 (D2 (v:=V.int 1) rfl T.g_WAYS.m ⟨_,rfl⟩)) (λ_ _=>rfl)) (A3 (pv 6)) (λ_ _=>rfl)) (E8 (D2 (v:=V.int 0) rfl T.g_START.m ⟨_,rfl⟩)) (λ_ _=>rfl)))))) T9))) (by intro _;rfl))) (E1 (F8 (M4 (A2 (A3 (pv 3)) (A2 (C7 (C72 (C6t rfl T.bO rfl T.dr rfl (A1 (A3 (pv 4)) A6 A0)))) B5 D5) A0))))))),λds Q hl h=>?_⟩)
 obtain⟨m,ws,rs,p,rfl,hp,ok,hr2,hn,q⟩:=h
 array_mem_dec
 refine⟨DD,?_⟩
 refine⟨λr ρ=>∃(R:List Rw) (here:Nat) (acc:List Nat) (z1 z2:Sl),r=R.map W6/\ρ=[Sl.sh (L8 m ws),Sl.sh (.list (rs.map W6)),Sl.sh (.int (p:Nat)),Sl.sh (.int (here:Nat)),Sl.ow (numL acc),z1,z2]/\here < m/\A8z m ws R/\acc.length + R.length<=rs.length/\wlk ws rs.reverse p=((wlk ws R here).1,(wlk ws R here).2++acc.reverse),
  ⟨rs.reverse,p,[],_,_,by rw[List.map_reverse],rfl,hp,λr hr=>hr2 r (List.mem_reverse.mp hr),by simp,by simp⟩,?_,?_⟩
 ·rintro x r ρ ⟨R,here,acc,z1,z2,h1,rfl,hh,hR,hl2,hW⟩
  cases R with
  | nil=>cases h1
  | cons r0 R=>
   cases (show x::r=W6 r0::R.map W6 from h1)
   obtain⟨l0,b0⟩:=hR r0 D4
   decreasing_trivial_pre_omega
   rw[C1u (by rw[l0];exact hh)]
   cases c:gt r0.2 here with
   | none=>
    right
    refine⟨R,here,acc,_,_,rfl,rfl,hh,λr hr=>hR r (C8 _ hr),by simp at hl2;lia,?_⟩
    rw[hW]
    have:wlk ws (r0::R) here=wlk ws R here:=by
     show (match gt r0.2 here with
      | none=>wlk ws R here
      | some n=>((wlk ws R (Y5 ws n)).1,(wlk ws R (Y5 ws n)).2++[n]))=_
     rw[c]
    rw[this]
   | some n=>
    have hn':=b0 here n c
    obtain⟨w,hw⟩:∃w,ws[n]?=some w:=⟨_,P5 hn'⟩
    right
    refine⟨by rw[A3f];simp at hl2;lia,?_⟩
    rw[B1j hw]
    right
    refine⟨R,w.1,acc++[n],_,_,rfl,by rw[show numL (acc++[n])=numL acc++[.int (n:Nat)] by unfold numL;simp],ok.st w (X1 hw),λr hr=>hR r (C8 _ hr),by simp at hl2 ⊢;lia,?_⟩
    ·rw[hW]
     have:wlk ws (r0::R) here=((wlk ws R w.1).1,(wlk ws R w.1).2++[n]):=by
      show (match gt r0.2 here with
       | none=>wlk ws R here
       | some n=>((wlk ws R (Y5 ws n)).1,(wlk ws R (Y5 ws n)).2++[n]))=_
      rw[c]
      have e:Y5 ws n=w.1:=by unfold Y5;rw[hw]
      show ((wlk ws R (Y5 ws n)).1,(wlk ws R (Y5 ws n)).2++[n])=_
      rw[e]
     rw[this]
     simp
 ·rintro ρ ⟨R,here,acc,z1,z2,h1,rfl,hh,hR,hl2,hW⟩
  cases R with
  | cons p R=>cases h1
  | nil=>
   left
   refine⟨DD,?_⟩
   rw[hW] at q
   have e:(numL acc).reverse=numL acc.reverse:=by unfold numL;rw[List.map_reverse]
   rw[e]
   exact q
end
inductive Pth (ws:List Wy):Nat->List Nat->Nat->Prop
 | nil {p}:Pth ws p [] p
 | cons {n w ns q}:ws[n]?=some w->Pth ws w.2.1 ns q->Pth ws w.1 (n::ns) q
abbrev Pt:=List Nat×Int
inductive Trp (ws:List Wy):Nat->List Pt->Nat->Prop
 | nil {p}:Trp ws p [] p
 | cons {p q r pt ps}:Pth ws p pt.1 q->pt.1≠[]->1<=pt.2->pt.2<=1000000000000000000000000->(pt.2=1\/q=p)->Trp ws q ps r->Trp ws p (pt::ps) r
theorem Pth.app {ws:List Wy} {a b c:Nat} {xs ys:List Nat} (h1:Pth ws a xs b) (h2:Pth ws b ys c):Pth ws a (xs++ys) c:=by
 induction h1 with
 | nil=>exact h2
 | cons e _ ih=>exact .cons e (ih h2)
theorem Trp.app {ws:List Wy} {a b c:Nat} {xs ys:List Pt} (h1:Trp ws a xs b) (h2:Trp ws b ys c):Trp ws a (xs++ys) c:=by
 induction h1 with
 | nil=>exact h2
 | cons e1 e2 e3 e4 e5 _ ih=>exact .cons e1 e2 e3 e4 e5 (ih h2)
def prt (ns:List Nat):List Pt:=if ns.isEmpty then [] else [(ns,1)]
theorem C1z {ws:List Wy} {a b:Nat} {ns:List Nat} (h:Pth ws a ns b):Trp ws a (prt ns) b:=by
 cases h with
 | nil=>exact .nil
 | cons e t=>exact .cons (pt:=(_,1)) (.cons e t) (by simp) (show (1:Int)<=1 by decide) (show (1:Int)<=1000000000000000000000000 by decide) (.inl rfl) .nil
theorem Wk.pth {ws:List Wy} {st:Int} {b:Tb} {N:List Nat} {P:Nat->Nat} {L:Nat->Int} (W:Wk ws st b N P L) {i:Nat}:∀{j:Nat},i<=j->j<=N.length->Pth ws (P i) (My.seg N i j) (P j)
 | 0,h1,_=>by
  have:i=0:=by lia
  subst this
  rw[A66];exact .nil
 | j + 1,h1,h2=>by
  by_cases e:i=j + 1
  ·subst e
   rw[A66];exact .nil
  ·rw[B32 OO (OO)]
   obtain⟨w,hw,e1,e2,_⟩:=W.way j N[j] (P5 OO)
   refine (W.pth (i:=i) (j:=j) OO OO).app ?_
   rw[<-e1,<-e2]
   exact .cons hw .nil
theorem A3g (i j:Int):min (PyData.depth (.int i)) (PyData.depth (.int j))<=64:=by show min 0 0<=64;decide
theorem A2c (i j:Int):PyData.eqv (.int i) (.int j)=(i == j):=by rw[PyData.eqv]
def D2n:DSp:=λds Q=>∃(m:Nat) (ws:List Wy) (p q:Nat) (ns:List Nat),ds=[L8 m ws,.int (p:Nat),.list (numL ns)]/\Pth ws p ns q/\Q (.int (q:Nat))
def D2o:DSp:=λds Q=>∃(m:Nat) (ws:List Wy) (p q:Nat) (pt:Pt),ds=[L8 m ws,.int (p:Nat),n9 pt]/\Pth ws p pt.1 q/\pt.1≠[]/\1<=pt.2/\pt.2<=1000000000000000000000000/\(pt.2=1\/q=p)/\Q (.int (q:Nat))
def D2p:DSp:=λds Q=>∃(m:Nat) (ws:List Wy) (p q:Nat) (ps:List Pt),ds=[L8 m ws,.int (p:Nat),.list (ps.map n9)]/\Trp ws p ps q/\Q (.int (q:Nat))
def D2q:DSp:=λds Q=>∃ns:List Nat,ds=[.list (numL ns)]/\Q (.list ((prt ns).map n9))
section
variable {P:Program} {w:World} {K:A4} {mg:Str->Option Value} {base:Heap}
theorem D2r (T:Txt K mg):B9 P w K mg base CX0 1 T.bp.a T.bp.d ["numbers"] (spD [.sh] D2q):=by
 refine K0 T.bp.F D0x rfl (λC cdv A outer s H E hr=>⟨_,(E1 (F8 (C65 (O0 A3t A6j (A0z (G8 Y1 rfl T.bi W0 (A1 (pv 0) A6 A0) (he:=A0) (hpl:=A5))) B3 (E4 _)) (C7 (E3 (A2 (M4 (A2 (A3 (pv 0)) (A2 B3 B5 A8) A0)) B5 O3))) (C7 (E3 B5))))),λds Q hl h=>?_⟩)
 obtain⟨ns,rfl,q⟩:=h
 right
 cases ns with
 | nil=>exact⟨DD,q⟩
 | cons n ns=>
  have e:decide ((0:Int) < ((numL (n::ns)).length:Nat))=true:=by
   rw[A3f];exact decide_eq_true (by rw[G3];lia)
  rw[e]
  right
  exact⟨DD,DD,q⟩
theorem D2s (T:Txt K mg):B9 P w K mg base CX0 3 T.be.a T.be.d ["land", "place", "numbers"] (spD [.sh,.sh,.sh] D2n):=by
 have cN:=@D11 P w K mg base T
 have cO:=T.ay.b
 refine K0 T.be.F B1f rfl (λC cdv A outer s H E hr=>⟨_,(@G1 _ _ _ _ _ _ (G5 (C4 (i:=3) B1f.nd rfl (B7 rfl) (A3 (pv 1)))) (@G1 _ _ _ _ _ _ (@A6o _ _ _ _ _ _ (@A1u _ _ _ _ _ _ _ _ A0o rfl (A6m (pv 2)) (B0o (c9 (i:=4) B1f.nd rfl (B7 rfl))) (@G1 _ _ _ _ _ _ (@U0 _ _ _ _ _ _ _ _ _ (PW.pt (@A33 _ _ _ _ _ _ _ _ (@B0g _ _ _ _ _ (@A30 _ _ _ _ (@F5 _ _ _ _ _ _ _ (@B6 _ _ _ _ _ _ _ _ _ _ _ _ _ _ _ _ cN (hr.mono DD) rfl T.ay.m T.ay.F.kp cO .nil A9 (C2 (A0c B9d (G8 Y1 rfl T.bi W0 (A2 (D8 (pv 0) (E8 (D2 (v:=V.int 1) rfl T.g_WAYS.m ⟨_,rfl⟩)) (λ_ _=>rfl)) B5 C1) (he:=C1) (hpl:=A5))) (C2 (A3 (pv 4)) F4 A0) D5) DD D5 ((A7 A0 A5)))) (by intro _;rfl))) (A6h (O0 (A08 (M3 hr)) A0x (P4 (P4 (D8 (pv 0) (E8 (D2 (v:=V.int 1) rfl T.g_WAYS.m ⟨_,rfl⟩)) (λ_ _=>rfl)) (A3 (pv 4)) (λ_ _=>rfl)) (E8 (D2 (v:=V.int 0) rfl T.g_START.m ⟨_,rfl⟩)) (λ_ _=>rfl)) (A3 (pv 3)) (E4 _))))) (E1 (F8 N2)) T9) (E1 (G5 (C4 (i:=3) B1f.nd rfl (B7 rfl) (P4 (P4 (D8 (pv 0) (E8 (D2 (v:=V.int 1) rfl T.g_WAYS.m ⟨_,rfl⟩)) (λ_ _=>rfl)) (A3 (pv 4)) (λ_ _=>rfl)) (E8 (D2 (v:=V.int 1) rfl T.g_END.m ⟨_,rfl⟩)) (λ_ _=>rfl)))))) (by intro _;rfl))) (E1 (F8 (A3 (pv 3)))))),λds Q hl h=>?_⟩)
 obtain⟨m,ws,p,q0,ns,rfl,hp,q⟩:=h
 array_mem_dec
 refine⟨λr ρ=>∃(ns':List Nat) (p':Nat) (z:Sl),r=numL ns'/\ρ=[Sl.sh (L8 m ws),Sl.sh (.int (p:Nat)),Sl.sh (.list (numL ns)),Sl.sh (.int (p':Nat)),z]/\Pth ws p' ns' q0,⟨ns,p,_,rfl,rfl,hp⟩,?_,?_⟩
 ·rintro x r ρ ⟨ns',p',z,h1,rfl,hp'⟩
  cases hp' with
  | nil=>cases h1
  | @cons n w ns' _ hw hp'=>
   cases (show x::r=PyData.int (n:Nat)::numL ns' from h1)
   have hn:=(A2h.mp hw).1
   decreasing_trivial_pre_omega
   refine⟨_,_,rfl,?_⟩
   rw[D6,decide_eq_true (show (0:Int)<=((n:Nat):Int)/\((n:Nat):Int) < ((ws.length:Nat):Int) from ⟨OO,OO⟩)]
   decreasing_trivial_pre_omega
   rw[B1j hw]
   right
   refine⟨rfl,rfl,A3g _ _,?_⟩
   rw[A2c,beq_self_eq_true]
   right
   exact⟨ns',w.2.1,_,rfl,rfl,hp'⟩
 ·rintro ρ ⟨ns',p',z,h1,rfl,hp'⟩
  cases hp' with
  | nil=>
   left
   exact q
  | cons hw hp'=>cases h1
theorem D2t (T:Txt K mg):B9 P w K mg base CX0 4 T.bf.a T.bf.d ["land", "place", "part"] (spD [.sh,.sh,.sh] D2o):=by
 have eV:=@D2s P w K mg base T
 have eX:=T.be.b
 refine K0 T.bf.F C1f rfl (λC cdv A outer s H E hr=>⟨_,(@G1 _ _ _ _ _ _ (@U0 _ _ _ _ _ _ _ _ _ (PW.pt (@A33 _ _ _ _ _ _ _ _ (O0 (A6e (M3 hr)) A0x (A0c B9d (G8 Y1 rfl T.bi W0 (A2 (D8 (pv 2) (E8 (D2 (v:=V.int 0) rfl T.g_NUMBERS.m ⟨_,rfl⟩)) (λ_ _=>rfl)) B5 C1) (he:=C1) (hpl:=A5))) B3 (E4 _)) (A6h (B0g (C68 j7 j7 B3 (D8 (pv 2) (E8 (D2 (v:=V.int 1) rfl T.g_TIMES.m ⟨_,rfl⟩)) (λ_ _=>rfl)) (L5 S2 Z5 B3 B3)))))) (E1 (F8 N2)) T9) (@G1 _ _ _ _ _ _ (@G5 _ _ _ _ _ (@C4 _ _ 3 _ _ _ _ C1f.nd rfl (B7 rfl) (F5 (B6 eV (hr.mono DD) rfl T.be.m T.be.F.kp eX .nil A9 (C2 (A3 (pv 0)) (C2 (A3 (pv 1)) (C2 (D8 (pv 2) (E8 (D2 (v:=V.int 0) rfl T.g_NUMBERS.m ⟨_,rfl⟩)) (λ_ _=>rfl)) F4 C1) A0) A0) (he:=A0) (hpl:=(A7 A0 (A7 C1 A5))))) (by rfl) (by first | exact .inl rfl | exact .inr rfl | assumption))) (G1 (U0 (PW.pt (B87 (O0 A3t A6j (D8 (pv 2) (E8 (D2 (v:=V.int 1) rfl T.g_TIMES.m ⟨_,rfl⟩)) (λ_ _=>rfl)) B3 (E4 _)) (B86 (O0 (A08 (M3 hr)) A0x (A3 (pv 3)) (A3 (pv 1)) (E4 _)))))
   (E1 (F8 N2))
   T9)
   (E1 (F8 (A3 (pv 3))))))),λds Q hl h=>?_⟩)
 obtain⟨m,ws,p,q0,⟨ns,t⟩,rfl,hp,hne,t1,t2,ht,q⟩:=h
 simp only at hp hne t1 t2 ht
 right
 refine⟨rfl,rfl,A3g _ _,?_⟩
 have hl0:PyData.eqv (.int ((numL ns).length:Nat)) (.int 0)=false:=by
  rw[A2c,A3f]
  cases ns with
  | nil=>exact absurd rfl hne
  | cons n r=>exact beq_eq_false_iff_ne.mpr (by simp;lia)
 rw[hl0]
 right
 rw[decide_eq_true (show (1:Int)<=t from t1)]
 right
 refine⟨⟨DD,DD,DD⟩,?_⟩
 rw[decide_eq_true (show t<=(10:Int) ^ (24:Int).toNat from t2)]
 right
 refine⟨_,_,_,_,_,rfl,hp,?_⟩
 right
 rcases ht with ht | ht
 ·rw[decide_eq_false (show ¬ (1:Int) < t by lia)]
  right
  exact q
 ·subst ht
  by_cases c:(1:Int) < t
  ·rw[decide_eq_true c]
   right
   refine⟨rfl,rfl,A3g _ _,?_⟩
   rw[A2c,beq_self_eq_true]
   right
   exact q
  ·rw[decide_eq_false c]
   right
   exact q
theorem D2u (T:Txt K mg):B9 P w K mg base CX0 5 T.cr.a T.cr.d ["land", "place", "trip"] (spD [.sh,.sh,.sh] D2p):=by
 have eY:=@D2t P w K mg base T
 have eZ:=T.bf.b
 refine K0 T.cr.F A8x rfl (λC cdv A outer s H E hr=>⟨_,(@G1 _ _ _ _ _ _ (G5 (C4 (i:=3) A8x.nd rfl (B7 rfl) (A3 (pv 1)))) (@G1 _ _ _ _ _ _ (@A6o _ _ _ _ _ _ (@A1u _ _ _ _ _ _ _ _ A0o rfl (B9m (B8x rfl T.cX (A1 (A3 (pv 2)) A6 A0))) (B9p (B2s (n:=2) rfl (A2s (c9 (i:=4) A8x.nd rfl (B7 rfl)) (A2s (c9 (i:=5) A8x.nd rfl (B7 rfl)) B2r)))) (@G1 _ _ _ _ _ _ (G5 (C4 (i:=3) A8x.nd rfl (B7 rfl) (F5 (B6 eY (hr.mono DD) rfl T.bf.m T.bf.F.kp eZ .nil A9 (C2 (A3 (pv 0)) (C2 (A3 (pv 3)) (C2 (A3 (pv 5)) F4 A0) A0) A0) (he:=A0) (hpl:=(A7 A0 (A7 A0 A5))))))) (E1 (U0 (O0 y9 A0y (A3 (pv 3)) N2 (E4 _))
   (E1 C7w)
   T9))) (by intro _;rfl))) (E1 (F8 (A3 (pv 3)))))),λds Q hl h=>?_⟩)
 obtain⟨m,ws,p,q0,ps,rfl,hp,q⟩:=h
 array_mem_dec
 have e0:A1c (ps.map n9)=ps.zipIdx.map λp=>.tuple [.int (p.2:Nat),n9 p.1]:=by
  unfold A1c
  rw[List.zipIdx_map,A1q]
  rfl
 rw[e0]
 refine⟨λr ρ=>∃(ps':List (Pt×Nat)) (p':Nat) (z1 z2:Sl),r=ps'.map (λp=>.tuple [.int (p.2:Nat),n9 p.1])/\ρ=[Sl.sh (L8 m ws),Sl.sh (.int (p:Nat)),Sl.sh (.list (ps.map n9)),Sl.sh (.int (p':Nat)),z1,z2]/\Trp ws p' (ps'.map (·.1)) q0,⟨ps.zipIdx,p,_,_,rfl,rfl,by rw[show ps.zipIdx.map (·.1)=ps by simp];exact hp⟩,?_,?_⟩
 ·rintro x r ρ ⟨ps',p',z1,z2,h1,rfl,hp'⟩
  cases ps' with
  | nil=>cases h1
  | cons a ps'=>
   cases (show x::r=PyData.tuple [.int (a.2:Nat),n9 a.1]::ps'.map (λp=>.tuple [.int (p.2:Nat),n9 p.1]) from h1)
   have hp2:Trp ws p' (a.1::ps'.map (·.1)) q0:=hp'
   cases hp2 with
   | cons e1 e2 e3 e4 e5 e6=>
    sizeOf_list_dec
    refine⟨_,_,_,_,_,rfl,e1,e2,e3,e4,e5,?_⟩
    left
    exact⟨ps',_,_,_,rfl,rfl,e6⟩
 ·rintro ρ ⟨ps',p',z1,z2,h1,rfl,hp'⟩
  cases ps' with
  | cons a ps'=>cases h1
  | nil=>
   cases hp'
   left
   exact q
end
theorem D2v (a b:Option Int):PyData.eqv (oD a) (oD b)=decide (a=b):=by
 cases a with
 | none=>cases b with
  | none=>rfl
  | some y=>rfl
 | some x=>cases b with
  | none=>rfl
  | some y=>
   show PyData.eqv (.int x) (.int y)=_
   rw[A2c]
   by_cases h:x=y
   ·subst h;simp
   ·simp [h]
theorem C10:∀a b:Tb,PyData.eqvAll (B4 a) (B4 b)=decide (a=b)
 | [],[]=>rfl
 | [],_::_=>rfl
 | _::_,[]=>rfl
 | x::a,y::b=>by
  show PyData.eqvAll (oD x::B4 a) (oD y::B4 b)=_
  rw[PyData.eqvAll,D2v,C10 a b]
  by_cases h:x=y
  ·subst h;simp
  ·simp [h]
theorem D2w (a b:Tb):PyData.eqv (.list (B4 a)) (.list (B4 b))=decide (a=b):=by rw[PyData.eqv];exact C10 a b
theorem C11:∀t:Tb,PyData.canLayAll0 (B4 t)=true
 | []=>rfl
 | x::t=>by
  show (PyData.canLay0 (oD x)&&PyData.canLayAll0 (B4 t))=true
  rw[C11 t]
  cases x <;> rfl
theorem C12 (t:Tb):PyData.canLay0 (.list (B4 t))=true:=by rw[PyData.canLay0];exact C11 t
theorem C13:∀t:Tb,PyData.depthAll (B4 t)=0
 | []=>rfl
 | x::t=>by
  show max (PyData.depth (oD x)) (PyData.depthAll (B4 t))=0
  rw[C13 t]
  cases x <;> rfl
theorem C14 (t:Tb):PyData.depth (.list (B4 t))=1:=by
 show PyData.depthAll (B4 t) + 1=1
 rw[C13]
def D2x:DSp:=λds Q=>∃(m:Nat) (ws:List Wy) (st:Int) (t:Tb),ds=[L8 m ws,.int st,.list (B4 t)]/\O9 m ws/\t.length=m/\Q (.list ((U4 m ws st m (t,E5 m none)).map W6))
def D2y:DSp:=λds Q=>∃(m:Nat) (ws:List Wy) (rs:List Rw),ds=[L8 m ws,.list (rs.map W6)]/\Q (.bool (decide (m < rs.length)))
def D2z:DSp:=λds Q=>∃(m:Nat) (ws:List Wy) (rs:List Rw) (r:Rw),ds=[L8 m ws,.list (rs.map W6)]/\O9 m ws/\A8z m ws rs/\rs.length<=900/\rs.getLast?=some r/\(∃p n,gt r.2 p=some n)/\
 ∀p n,p < m->gt r.2 p=some n->Q (.tuple [.int ((wlk ws rs.reverse p).1:Nat),.list (numL (wlk ws rs.reverse p).2)])
def A80 (p:Nat) (N:List Nat):PyData:=.tuple [.int (p:Nat),.list (numL N)]
def D20:DSp:=λds Q=>∃(m:Nat) (ws:List Wy) (st:Int) (b:Tb) (N:List Nat) (P:Nat->Nat) (L:Nat->Int),ds=[L8 m ws,A80 (P 0) N]/\O9 m ws/\K8 m st b/\Wk ws st b N P L/\N.length=m/\
 ∀i j,i < j->j<=m->P i=P j->Q (.tuple [.list (numL (seg N 0 i)),.list (numL (seg N i j))])
theorem B5x {α β:Type} {f:α->β} {xs:List α} {x:α} (h:xs.getLast?=some x):(xs.map f).getLast?=some (f x):=by
 obtain⟨ys,rfl⟩:=List.getLast?_eq_some_iff.mp h
 simp
theorem Wk.places {ws:List Wy} {st:Int} {b:Tb} {N:List Nat} {P:Nat->Nat} {L:Nat->Int} (W:Wk ws st b N P L):[P 0]++N.map (A17 ws)=(U8 (N.length + 1)).map P:=by
 apply List.ext_getElem?
 intro k
 cases k with
 | zero=>simp
 | succ k=>
  rw[A7q (by simp),S0,S0]
  by_cases h:k < N.length
  ·rw[C3y (OO)]
   show (N[k]?).map (A17 ws)=some (P (k + 1))
   obtain⟨w,hw,_,e,_⟩:=W.way k N[k] (P5 h)
   rw[P5 h]
   show some (A17 ws N[k])=_
   unfold A17
   rw[hw,<-e]
  ·rw[A3o (l:=U8 _) (by rw[u8];lia)]
   show (N[k]?).map (A17 ws)=none
   rw[A3o (OO)]
   rfl
section
variable {P:Program} {w:World} {K:A4} {mg:Str->Option Value} {base:Heap}
theorem D21 (T:Txt K mg):B9 P w K mg base CX0 4 T.aR.a T.aR.d ["land", "store", "table"] (spD [.sh,.sh,.bo] D2x):=by
 have fJ:=@D2k P w K mg base T
 have fK:=T.bF.b
 have fv:=@D2l P w K mg base T
 have fz:=T.bA.b
 refine K0 T.aR.F B1g rfl (λC cdv A outer s H E hr=>⟨_,(@G1 _ _ _ _ _ _ (n6 (C4 (i:=3) B1g.nd rfl (B7 rfl) (E3 B5))) (@G1 _ _ _ _ _ _ (G5 (C4 (i:=4) B1g.nd rfl (B7 rfl) (F5 (B6 fJ (hr.mono DD) rfl T.bF.m T.bF.F.kp fK .nil A9 (V1 (pv 2) F4 A0) (he:=A0) (hpl:=A5))))) (@G1 _ _ _ _ _ _ (@B3t _ _ _ _ _ (@A9z _ _ _ _ _ _ A0o (O0 A05 A6i (A0z (G8 Y1 rfl T.bi W0 (A1 (pv 3) A6 A0) (he:=A0) (hpl:=A5))) (D8 (pv 0) (E8 (D2 (v:=V.int 0) rfl T.g_MANY.m ⟨_,rfl⟩)) (λ_ _=>rfl)) (E4 _)) (@G1 _ _ _ _ _ _ (A4z (T6 (A07 A1p A56 A57 A2x (pv 3) (A1 (A3 (pv 4)) A6 A0)))) (@G1 _ _ _ _ _ _ (@G5 _ _ _ _ _ (@C4 _ _ 4 _ _ _ _ B1g.nd rfl (B7 rfl) (@F5 _ _ _ _ _ _ _ (@B6 _ _ _ _ _ _ _ _ _ _ _ _ _ _ _ _ fv (hr.mono DD) rfl T.bA.m T.bA.F.kp fz .nil A9 (C2 (A3 (pv 0)) (C2 (A3 (pv 1)) (C2 (D8 (pv 4) (E8 (D2 (v:=V.int 0) rfl T.g_TABLE.m ⟨_,rfl⟩)) (λ_ _=>rfl)) (C2 (D8 (pv 4) (E8 (D2 (v:=V.int 0) rfl T.g_TABLE.m ⟨_,rfl⟩)) (λ_ _=>rfl)) F4 C1) C1) A0) A0) DD A0 ((A7 A0 (A7 C1 (A7 C1 A5)))))) (by rfl) (by first | exact .inl rfl | exact .inr rfl | assumption))) (E1 (U0 (O0 (A6e (M3 hr)) A0x (D8 (pv 4) (E8 (D2 (v:=V.int 0) rfl T.g_TABLE.m ⟨_,rfl⟩)) (λ_ _=>rfl)) (P4 (D8 (pv 3) (Z4 B3) (λ_ _=>rfl)) (E8 (D2 (v:=V.int 0) rfl T.g_TABLE.m ⟨_,rfl⟩)) (λ_ _=>rfl)) (E4 _))
   (E1 (F8 (A3 (pv 3))))
   T9)))))) (G1 (A4z (T6 (A07 A1p A56 A57 A2x (pv 3) (A1 (A3 (pv 4)) A6 A0))))
   (E1 (F8 (A3 (pv 3)))))))),λds Q hl h=>?_⟩)
 obtain⟨m,ws,st,t,rfl,ok,ht,q⟩:=h
 have m2:=ok.m2
 left
 refine⟨DD,rfl,t,rfl,OO,?_⟩
 unfold B0p
 refine⟨fun μ ρ=>∃(rs:List Rw) (r:Rw),ρ=[Sl.sh (L8 m ws),Sl.sh (.int st),Sl.bo (B4 t),Sl.ow (rs.map W6),Sl.sh (W6 r)]/\rs.length + μ=m/\r.1.length=m/\rs++U4 m ws st μ r=U4 m ws st m (t,E5 m none),⟨m,[],(t,E5 t.length none),rfl,by simp,ht,by rw[ht];rfl⟩,?_⟩
 rintro μ ρ ⟨rs,r,rfl,h1,h2,h3⟩
 right
 rw[D6]
 cases μ with
 | zero=>
  rw[decide_eq_false (OO)]
  right
  refine⟨OO,?_⟩
  have e:rs++[r]=U4 m ws st m (t,E5 m none):=h3
  rw[<-e,V3] at q
  exact q
 | succ μ=>
  rw[decide_eq_true (OO)]
  decreasing_trivial_pre_omega
  refine⟨by rw[D6];lia,?_⟩
  refine⟨m,ws,st,r.1,r.1,rfl,ok,h2,h2,?_⟩
  right
  rw[show -(1:Int)=-1 from rfl,B8a]
  right
  refine⟨C12 _,C12 _,by rw[C14,C14];decide,?_⟩
  rw[D2w]
  by_cases c:(P9 m ws st r.1 r.1).1=r.1
  ·rw[decide_eq_true c]
   right
   have e:rs++[r]=U4 m ws st m (t,E5 m none):=by rw[<-h3,U4,if_pos c]
   rw[<-e,V3] at q
   exact q
  ·rw[decide_eq_false c]
   right
   refine⟨μ,OO,rs++[r],P9 m ws st r.1 r.1,by rw[V3];rfl,by simp;lia,(A1f (st:=st) (t:=r.1) ok h2).l1,?_⟩
   rw[<-h3,U4,if_neg c]
   simp
theorem D22 (T:Txt K mg):B9 P w K mg base CX0 1 T.bg.a T.bg.d ["land", "rows"] (spD [.sh,.sh] D2y):=by
 refine K0 T.bg.F D0w rfl (λC cdv A outer s H E hr=>⟨_,(E1 (F8 (A0v A3t A6j (A0z (G8 Y1 rfl T.bi W0 (A1 (pv 1) A6 A0) (he:=A0) (hpl:=A5))) (D8 (pv 0) (E8 (D2 (v:=V.int 0) rfl T.g_MANY.m ⟨_,rfl⟩)) (λ_ _=>rfl)) (E4 _)))),λds Q hl h=>?_⟩)
 obtain⟨m,ws,rs,rfl,q⟩:=h
 right
 rw[D6]
 rw[show decide (((m:Nat):Int) < ((rs.length:Nat):Int))=decide (m < rs.length) by by_cases c:m < rs.length <;> simp [c]]
 exact q
theorem D23 (T:Txt K mg):B9 P w K mg base CX0 2 T.bh.a T.bh.d ["land", "rows"] (spD [.sh,.sh] D2z):=by
 have gc:=@D2m P w K mg base T
 have gf:=T.bU.b
 refine K0 T.bh.F C1g rfl (λC cdv A outer s H E hr=>⟨_,(@G1 _ _ _ _ _ _ (G5 (C4 (i:=2) C1g.nd rfl (Or.inr rfl) (P4 (D8 (pv 1) (Z4 B3) (λ_ _=>rfl)) (E8 (D2 (v:=V.int 1) rfl T.g_RISEN.m ⟨_,rfl⟩)) (λ_ _=>rfl)))) (@E1 _ _ _ _ (@F8 _ _ _ _ _ (@F5 _ _ _ _ _ _ _ (@B6 _ _ _ _ _ _ _ _ _ _ _ _ _ _ _ _ gc (hr.mono DD) rfl T.bU.m T.bU.F.kp gf .nil A9 (@C2 _ _ _ _ _ _ (A3 (pv 0)) (@C2 _ _ _ _ _ _ (A3 (pv 1)) (@C2 _ _ _ _ _ _ (@P4 _ _ _ _ _ _ _ (@C7 _ _ _ _ (@A43 _ _ _ _ _ _ _ _ rfl (Z3 (Q5.new (N:=["land", "rows", "last"]) (osc:=B8 B02) KK) rfl (A8o (A2t rfl T.bZ (A2 (D8 (pv 0) (E8 (D2 (v:=V.int 0) rfl T.g_MANY.m ⟨_,rfl⟩)) (λ_ _=>rfl)) B5 C1))) (λ_=>(A8d (O0 A79 A8j (D8 (pv 2) (A3 (pv 3)) (λ_ _=>rfl)) N2 (E4 _)))) (λ_=>(A3 (pv 3)))))) B3 (λ_ _=>rfl)) F4 C1) A0) A0) DD A0 ((A7 A0 (A7 C1 A5)))))))),λds Q hl h=>?_⟩)
 obtain⟨m,ws,rs,r,rfl,ok,hR,hn,hl2,⟨p0,n0,hp0⟩,q⟩:=h
 have m2:=ok.m2
 have hr0:=hR r (List.mem_of_getLast? hl2)
 array_mem_dec
 rw[show -(1:Int)=-1 from rfl,B1l (B5x hl2)]
 array_mem_dec
 refine⟨⟨OO,OO⟩,⟨rfl,by unfold V4;rw[D6,u8];lia⟩,?_⟩
 unfold V4
 rw[show ((m:Nat):Int).toNat=m by simp]
 refine A63 (p:=λi=>(gt r.2 i).isSome) (f:=λi=>.int (0 + ((i:Nat):Int))) (λi hi Q' q'=>?_) (λi hi _ Q' q'=>?_) ?_
 ·left
  rw[show (0:Int) + ((i:Nat):Int)=((i:Nat):Int) by lia] at q' ⊢
  rw[C1u (by rw[hr0.1];exact p6.mp hi)]
  left
  cases c:gt r.2 i with
  | none=>rw[c] at q';exact q'
  | some n=>rw[c] at q';exact q'
 ·exact q'
 ·have hp0m:p0 < m:=by
   by_cases h:p0 < m
   ·exact h
   ·rw[B30 (by rw[hr0.1];lia)] at hp0;cases hp0
  have hmem:p0∈(U8 m).filter λi=>(gt r.2 i).isSome:=B12.mpr ⟨p6.mpr hp0m,by rw[hp0];rfl⟩
  cases hf:(U8 m).filter λi=>(gt r.2 i).isSome with
  | nil=>rw[hf] at hmem;cases hmem
  | cons p ps=>
   have hpm:p∈(U8 m).filter λi=>(gt r.2 i).isSome:=by rw[hf];exact D4
   obtain⟨h1,h2⟩:=B12.mp hpm
   obtain⟨n,hn'⟩:=Option.isSome_iff_exists.mp h2
   rw[Z1,P2,C75]
   left
   refine⟨m,ws,rs,p,by rw[show (0:Int) + ((p:Nat):Int)=((p:Nat):Int) by lia];rfl,p6.mp h1,ok,hR,hn,q p n (p6.mp h1) hn'⟩
end
theorem C15 {P:Nat->Nat}:∀k:Nat,(∀i j,i < j->j < k->P i≠P j)->((U8 k).map P).Nodup
 | 0,_=>B61
 | k + 1,h=>by
  rw[List.range_succ,V3,B66]
  refine⟨C15 k λi j h1 h2=>h i j h1 OO,by simp,λa ha b hb=>?_⟩
  obtain⟨i,hi,rfl⟩:=Q2.mp ha
  have:b=P k:=by simpa using hb
  subst this
  exact h i k (p6.mp hi) (OO)
def plI (P:Nat->Nat) (n:Nat):List Int:=((U8 n).map P).map λp=>((p:Nat):Int)
theorem B5y {P:Nat->Nat} {n:Nat} {x:Nat}:((x:Nat):Int)∈plI P n↔∃i,i < n/\P i=x:=by
 unfold plI
 constructor
 ·intro h
  obtain⟨y,hy,e⟩:=Q2.mp h
  obtain⟨i,hi,rfl⟩:=Q2.mp hy
  exact⟨i,p6.mp hi,OO⟩
 ·rintro ⟨i,hi,rfl⟩
  exact Q2.mpr ⟨P i,Q2.mpr ⟨i,p6.mpr hi,rfl⟩,rfl⟩
theorem D24 {P:Nat->Nat} {n:Nat}:numL ((U8 n).map P)=(plI P n).map PyData.int:=by
 simp only[numL,plI,A1q]
 rfl
theorem B5z {P:Nat->Nat} {n:Nat}:(plI P n).length=n:=by unfold plI;rw[D6,D6,u8]
theorem D25 {P:Nat->Nat} {n:Nat} {x:Nat} (h:((x:Nat):Int)∈plI P n):(plI P n).idxOf ((x:Nat):Int) < n/\P ((plI P n).idxOf ((x:Nat):Int))=x:=by
 have h1:=B2e.mpr h
 have h2:=C3x h1
 rw[B5z] at h1
 refine⟨h1,?_⟩
 have hx:∀i (h:i < (plI P n).length),(plI P n)[i]=((P i:Nat):Int):=λi h=>by simp [plI]
 rw[hx] at h2
 lia
section
variable {P:Program} {w:World} {K:A4} {mg:Str->Option Value} {base:Heap}
theorem D26 (T:Txt K mg):B9 P w K mg base CX0 1 T.aE.a T.aE.d ["land", "walk"] (spD [.sh,.sh] D20):=by
 refine K0 T.aE.F A8y rfl (λC cdv A outer s H E hr=>⟨_,(@G1 _ _ _ _ _ _ (@G5 _ _ _ _ _ (@C4 _ _ 2 _ _ _ _ A8y.nd rfl (B7 rfl) (@C7 _ _ _ _ (@m7 _ _ _ _ _ _ _ (C7 (E3 (A2 (D8 (pv 1) (E8 (D2 (v:=V.int 0) rfl T.g_FROM.m ⟨_,rfl⟩)) (λ_ _=>rfl)) B5 C1))) (@C7 _ _ _ _ (@A43 _ _ _ _ _ _ _ _ rfl (@Z3 _ _ _ _ _ _ _ _ _ _ _ _ _ _ _ (Q5.new (N:=["land", "walk", "places", "end", "begin"]) (osc:=B8 B03) KK) rfl (B9l (D8 (pv 1) (E8 (D2 (v:=V.int 1) rfl T.g_BY.m ⟨_,rfl⟩)) (λ_ _=>rfl))) (λ_=>A6n) (λ_=>(P4 (P4 (D8 (pv 0) (E8 (D2 (v:=V.int 1) rfl T.g_WAYS.m ⟨_,rfl⟩)) (λ_ _=>rfl)) (A3 (pv 5)) (λ_ _=>rfl)) (E8 (D2 (v:=V.int 1) rfl T.g_END.m ⟨_,rfl⟩)) (λ_ _=>rfl))) (by rfl) (by rfl) (by intro _;rfl)))))) (by rfl) (by first | exact .inl rfl | exact .inr rfl | assumption))) (@G1 _ _ _ _ _ _ (G5 (C4 (i:=3) A8y.nd rfl (B7 rfl) B3)) (@G1 _ _ _ _ _ _ (B3t (A9z A0o (O0 C5y C71 (D8 (pv 2) (A3 (pv 3)) (λ_ _=>rfl)) (C7 (A8k (pv 2) A6l (A23 (A3 (pv 3))))) (by with_unfolding_all rfl))
   (E1 (G5 (C4 (i:=3) A8y.nd rfl (B7 rfl) (L5 Q9 i8 (A3 (pv 3)) B3)))))) (@G1 _ _ _ _ _ _ (G5 (C4 (i:=4) A8y.nd rfl (B7 rfl) (B9v (A07 A1p C3w PySem.F.type_list_index B8z (pv 2) (A1 (D8 (pv 2) (A3 (pv 3)) (λ_ _=>rfl)) A6 C1))))) (E1 (F8 (M4 (A2 (C7 (B9h (D8 (pv 1) (E8 (D2 (v:=V.int 1) rfl T.g_BY.m ⟨_,rfl⟩)) (λ_ _=>rfl)) A6l (A23 (A3 (pv 4))))) (A2 (C7 (B9h (D8 (pv 1) (E8 (D2 (v:=V.int 1) rfl T.g_BY.m ⟨_,rfl⟩)) (λ_ _=>rfl)) (A23 (A3 (pv 4))) (A23 (A3 (pv 3))))) B5 C1) C1)))))))),λds Q hl h=>?_⟩)
 obtain⟨m,ws,st,b,N,PP,L,rfl,ok,hb,W,hN,q⟩:=h
 have m2:=ok.m2
 have hpl:∀k,k<=m->PP k < m:=λk hk=>W.pl ok hb k (OO)
 unfold A80
 array_mem_dec
 refine⟨DD,⟨rfl,by rw[A3f];lia⟩,?_⟩
 unfold numL
 refine A62 (f:=λn=>.int (A17 ws n:Nat)) (λn hm Q' q'=>?_) ?_
 ·obtain⟨k,hk,rfl⟩:=A9k.mp hm
  obtain⟨w,hw,_,e,_⟩:=W.way k N[k] (P5 hk)
  right
  rw[B1j hw]
  right
  have e2:A17 ws N[k]=w.2.1:=by unfold A17;rw[hw]
  rw[e2] at q'
  exact q'
 ·left
  refine⟨by rw[D6];lia,?_⟩
  have epl:PyData.int ((PP 0:Nat):Int)::N.map (λn=>PyData.int ((A17 ws n:Nat):Int))=(plI PP (m + 1)).map PyData.int:=by
   have:=W.places
   rw[hN] at this
   rw[<-D24,<-this]
   unfold numL
   rw[V3,A1q]
   rfl
  rw[epl]
  unfold B0p
  refine⟨fun μ ρ=>∃(k:Nat) (z:Sl),ρ=[Sl.sh (L8 m ws),Sl.sh (A80 (PP 0) N),Sl.sh (.list ((plI PP (m + 1)).map PyData.int)),Sl.sh (.int (k:Nat)),z]/\1<=k/\k<=m/\μ + k=m/\∀i j,i < j->j < k->PP i≠PP j,⟨m - 1,1,_,rfl,OO,ok.m1,by have:=ok.m1;lia,λi j h1 h2=>OO⟩,?_⟩
  rintro μ ρ ⟨k,z,rfl,k1,k2,hμ,hd⟩
  right
  have eat:atI ((plI PP (m + 1)).map PyData.int) ((k:Nat):Int)=some (.int ((PP k:Nat):Int)):=A0q (by
   unfold plI
   rw[A1q,S0,S0,C3y (OO)]
   rfl)
  have ecut:S4 ((plI PP (m + 1)).map PyData.int) none (some ((k:Nat):Int))=(plI PP k).map PyData.int:=by
   rw[B3w,<-A2l]
   congr 1
   unfold plI
   rw[<-A2l,<-A2l,List.take_range,B2h (OO)]
  rw[eat]
  right
  rw[ecut,A8p]
  right
  by_cases c:((PP k:Nat):Int)∈plI PP k
  ·rw[show (!(plI PP k).contains ((PP k:Nat):Int))=false by simp [c]]
   right
   rw[A8p]
   right
   have hc2:((PP k:Nat):Int)∈plI PP (m + 1):=B5y.mpr ⟨k,OO,rfl⟩
   refine⟨⟨hc2,by rw[B5z];lia⟩,?_⟩
   obtain⟨i0,hi0,ei0⟩:=B5y.mp c
   obtain⟨hi1,hi2⟩:=D25 hc2
   have hik:(plI PP (m + 1)).idxOf ((PP k:Nat):Int) < k:=by
    by_cases h:(plI PP (m + 1)).idxOf ((PP k:Nat):Int) < k
    ·exact h
    ·exfalso
     have hmem:((PP k:Nat):Int)∈(plI PP (m + 1)).take k:=by
      have:(plI PP (m + 1)).take k=plI PP k:=by
       unfold plI
       rw[<-A2l,<-A2l,List.take_range,B2h (OO)]
      rw[this];exact c
     have h1:=B2e.mpr hmem
     rw[Z0,B5z] at h1
     have h2:(plI PP (m + 1)).idxOf ((PP k:Nat):Int)=((plI PP (m + 1)).take k).idxOf ((PP k:Nat):Int):=by
      conv=>lhs;rw[<-List.take_append_drop k (plI PP (m + 1))]
      rw[List.idxOf_append,if_pos hmem]
     lia
   unfold A80
   right
   generalize (plI PP (m + 1)).idxOf ((PP k:Nat):Int)=i at hi1 hi2 hik
   refine⟨DD,?_⟩
   have qq:=q i k hik k2 hi2
   have e1:S4 (numL N) none (some ((i:Nat):Int))=numL (seg N 0 i):=by
    rw[B3w]
    unfold numL seg
    rw[<-A2l,List.drop_zero,Nat.sub_zero]
   have e2:S4 (numL N) (some ((i:Nat):Int)) (some ((k:Nat):Int))=numL (seg N i k):=by
    rw[C76 (by rw[A3f];lia) (by rw[A3f];lia)]
    unfold numL seg
    rw[A2l,List.map_drop]
   rw[e1,e2]
   exact qq
  ·rw[show (!(plI PP k).contains ((PP k:Nat):Int))=true by simp [c]]
   decreasing_trivial_pre_omega
   have hd2:∀i j,i < j->j < k + 1->PP i≠PP j:=λi j h1 h2 e=>by
    by_cases hj:j < k
    ·exact hd i j h1 hj e
    ·have:j=k:=by lia
     subst this
     exact c (B5y.mpr ⟨i,h1,e⟩)
   have hkm:k + 1<=m:=by
    have:=B35 m ((U8 (k + 1)).map PP) (C15 (k + 1) hd2) λx hx=>by
     obtain⟨i,hi,rfl⟩:=Q2.mp hx
     exact hpl i (by have:=p6.mp hi;lia)
    rw[D6,u8] at this
    exact this
   exact⟨μ - 1,OO,k + 1,_,rfl,OO,hkm,OO,hd2⟩
end
theorem Wk.nb {ws:List Wy} {st:Int} {b:Tb} {N:List Nat} {P:Nat->Nat} {L:Nat->Int} (W:Wk ws st b N P L):∀n∈N,n < ws.length:=λn hn=>by
 obtain⟨k,hk,rfl⟩:=A9k.mp hn
 obtain⟨w,hw,_⟩:=W.way k N[k] (P5 hk)
 exact (A2h.mp hw).1
theorem D27 {N:List Nat} {i j n:Nat} (h:n∈seg N i j):n∈N:=List.mem_of_mem_drop (List.mem_of_mem_take h)
theorem D28 {N:List Nat} {i j:Nat}:(seg N i j).length<=N.length:=by
 unfold seg
 rw[Z0,B6z]
 lia
theorem D29 {m:Nat} {ws:List Wy} (ok:O9 m ws) (n:Nat):A0f ws n<=1000000000000000000:=by
 unfold A0f
 split
 ·rename_i w hw;exact ok.hi w (X1 hw)
 ·decide
theorem C16 {B:Int}:∀{cs:List Int},(∀c∈cs,c<=B)->cs.sum<=(cs.length:Int) * B
 | [],_=>by simp
 | c::cs,h=>by
  have:=C16 (cs:=cs) λd hd=>h d (C8 _ hd)
  have h1:=h c D4
  rw[List.sum_cons,G3,Int.natCast_add,Int.add_mul]
  lia
theorem D3a {x g:Int} (hx:0 < x) (hg:0 < g):1<=-(-x / g)/\-(-x / g)<=x:=by
 have e:=Int.mul_ediv_add_emod (-x) g
 have r0:=Int.emod_nonneg (-x) (show g≠0 by lia)
 have r1:=C32 (-x) hg
 generalize -x / g=d at e
 constructor
 ·by_cases h:0<=d
  ·have:=Int.mul_nonneg (Int.le_of_lt hg) h
   lia
  ·lia
 ·by_cases h:-x<=d
  ·lia
  ·exfalso
   have h1:g * d<=g * (-x - 1):=Int.mul_le_mul_of_nonneg_left OO (OO)
   have h2:g * (-x - 1)=-(g * x) - g:=by rw[Int.mul_sub,Int.mul_neg,Int.mul_one]
   have h3:1 * x<=g * x:=Int.mul_le_mul_of_nonneg_right OO (OO)
   lia
def A7f (N:List Nat) (i j k:Nat) (tm:Int):List Pt:=(prt (seg N 0 i)++[(seg N i j,tm)])++prt (seg N i (i + k))
def D3b:DSp:=λds Q=>∃(m:Nat) (ws:List Wy) (st:Int) (b:Tb) (N:List Nat) (P:Nat->Nat) (L:Nat->Int),ds=[L8 m ws,.int st,.int (L 0),A80 (P 0) N]/\O9 m ws/\0<=st/\st<=1000000000000000000000/\K8 m st b/\Wk ws st b N P L/\N.length=m/\
 ∀i j k le g tp tm,i < j->j<=m->P i=P j->le<=L i->Rnd st (chs ws (seg N i j)) (L i) le g tp k->1<=tm->tm<=1000000000000000000000000->Q (.list ((A7f N i j k tm).map n9))
theorem B1m {ns:List Nat}:(prt ns).length<=1:=by unfold prt;split <;> simp
section
variable {P:Program} {w:World} {K:A4} {mg:Str->Option Value} {base:Heap}
theorem D3c (T:Txt K mg):B9 P w K mg base CX0 6 T.aN.a T.aN.d ["land", "store", "level", "walk"] (spD [.sh,.sh,.sh,.sh] D3b):=by
 have dL:=@D26 P w K mg base T
 have dM:=T.aE.b
 have fL:=@D18 P w K mg base T
 have fM:=T.bE.b
 have cU:=@D2j P w K mg base T
 have cV:=T.aB.b
 have df:=@D19 P w K mg base T
 have dg:=T.aC.b
 have eB:=@D2r P w K mg base T
 have eC:=T.bp.b
 refine K0 T.aN.F A3e rfl (λC cdv A outer s H E hr=>⟨_,(@M6 _ _ _ _ _ _ (G5 (C4 (i:=4) A3e.nd rfl (B7 rfl) (F5 (B6 dL (hr.mono DD) rfl T.aE.m T.aE.F.kp dM .nil A9 (C2 (A3 (pv 0)) (C2 (A3 (pv 3)) F4 A0) A0) (he:=A0) (hpl:=(A7 A0 A5)))))) (@M6 _ _ _ _ _ _ (G5 (C4 (i:=5) A3e.nd rfl (B7 rfl) (D8 (pv 4) B3 (λ_ _=>rfl)))) (@M6 _ _ _ _ _ _ (G5 (C4 (i:=6) A3e.nd rfl (B7 rfl) (D8 (pv 4) B3 (λ_ _=>rfl)))) (@M6 _ _ _ _ _ _ (@G5 _ _ _ _ _ (@C4 _ _ 7 _ _ _ _ A3e.nd rfl (B7 rfl) (@F5 _ _ _ _ _ _ _ (@B6 _ _ _ _ _ _ _ _ _ _ _ _ _ _ _ _ fL (hr.mono DD) rfl T.bE.m T.bE.F.kp fM .nil A9 (C2 (A3 (pv 1)) (C2 (F5 (B6 cU (hr.mono DD) rfl T.aB.m T.aB.F.kp cV .nil A9 (C2 (A3 (pv 0)) (C2 (A3 (pv 6)) F4 A0) A0) (he:=A0) (hpl:=(A7 A0 A5)))) F4 D5) A0) DD A0 ((A7 D5 A5)))) (by rfl) (by first | exact .inl rfl | exact .inr rfl | assumption))) (@M6 _ _ _ _ _ _ (@G5 _ _ _ _ _ (@C4 _ _ 8 _ _ _ _ A3e.nd rfl (B7 rfl) (@L5 _ _ _ _ _ _ _ _ _ _ A2u A8i (D8 (pv 7) (E8 (D2 (v:=V.int 2) rfl T.g_TOP.m ⟨_,rfl⟩)) (λ_ _=>rfl)) (@P4 _ _ _ _ _ _ _ (@F5 _ _ _ _ _ _ _ (@B6 _ _ _ _ _ _ _ _ _ _ _ _ _ _ _ _ df (hr.mono DD) rfl T.aC.m T.aC.F.kp dg .nil A9 (C2 (A3 (pv 1)) (C2 (A3 (pv 2)) (C2 (F5 (B6 cU (hr.mono DD) rfl T.aB.m T.aB.F.kp cV .nil A9 (C2 (A3 (pv 0)) (C2 (A3 (pv 5)) F4 A0) A0) (he:=A0) (hpl:=(A7 A0 A5)))) F4 D5) A0) A0) DD A0 ((A7 A0 (A7 D5 A5))))) (Z4 B3) (λ_ _=>rfl))) (by rfl) (by first | exact .inl rfl | exact .inr rfl | assumption))) (@M6 _ _ _ _ _ _ (G5 (C4 (i:=9) A3e.nd rfl (B7 rfl) (Z4 (L5 B8q C66 (Z4 (A3 (pv 8))) (D8 (pv 7) (E8 (D2 (v:=V.int 1) rfl T.g_GAIN.m ⟨_,rfl⟩)) (λ_ _=>rfl)))))) (@M6 _ _ _ _ _ _ (@G5 _ _ _ _ _ (@C4 _ _ 10 _ _ _ _ A3e.nd rfl (B7 rfl) (@F5 _ _ _ _ _ _ _ (@B6 _ _ _ _ _ _ _ _ _ _ _ _ _ _ _ _ df (hr.mono DD) rfl T.aC.m T.aC.F.kp dg .nil A9 (C2 (A3 (pv 1)) (C2 (D8 (pv 7) (E8 (D2 (v:=V.int 2) rfl T.g_TOP.m ⟨_,rfl⟩)) (λ_ _=>rfl)) (C2 (F5 (B6 cU (hr.mono DD) rfl T.aB.m T.aB.F.kp cV .nil A9 (C2 (A3 (pv 0)) (C2 (A3 (pv 6)) F4 A0) A0) (he:=A0) (hpl:=(A7 A0 A5)))) F4 D5) C1) A0) DD A0 ((A7 C1 (A7 D5 A5))))) (by rfl) (by first | exact .inl rfl | exact .inr rfl | assumption))) (@E1 _ _ _ _ (@F8 _ _ _ _ _ (@C7 _ _ _ _ (@m7 _ _ _ _ _ _ _ (C7 (m7 (F5 (B6 eB (hr.mono DD) rfl T.bp.m T.bp.F.kp eC .nil A9 (C2 (A3 (pv 5)) F4 A0) (he:=A0) (hpl:=A5))) (C7 (E3 (A2 (M4 (A2 (A3 (pv 6)) (A2 (A3 (pv 9)) B5 A0) A0)) B5 O3))))) (F5 (B6 eB (hr.mono DD) rfl T.bp.m T.bp.F.kp eC .nil A9 (C2 (C7 (A8k (pv 6) A6l (A23 (B9v (A07 A1p C3w PySem.F.type_list_index B8z (pv 10) (A1 (A3 (pv 1)) A6 A0)))))) F4 C1) (he:=C1) (hpl:=A5)))))))))))))),λds Q hl h=>?_⟩)
 obtain⟨m,ws,st,b,N,PP,L,rfl,ok,h0,hst,hb,W,hN,q⟩:=h
 have m2:=ok.m2
 left
 refine⟨m,ws,st,b,N,PP,L,rfl,ok,hb,W,hN,λi j hij hj hp=>?_⟩
 have nb:∀a c n,n∈seg N a c->n < ws.length:=λa c n hn=>W.nb n (D27 hn)
 have fw:∀a c,(seg N a c).length<=900:=λa c=>by have:=@D28 N a c;lia
 have fw2:∀a c,(chs ws (seg N a c)).length<=900:=λa c=>by unfold chs;rw[D6];exact fw a c
 obtain⟨b0,b1⟩:=W.bd h0 hb i (OO)
 obtain⟨le,g,tp,k,R,hle⟩:=C8t b0 b1 (W.seg (i:=i) (j:=j) OO OO) (W.strict i j hij OO hp)
 have kl:k<=j - i:=by
  have:=R.kl
  unfold chs at this
  rw[D6,B0u (OO)] at this
  exact this
 refine go ?_;left
 refine go ?_;left
 refine go ?_;left
 refine⟨m,ws,seg N i j,rfl,nb i j,fw i j,?_⟩
 left
 refine⟨st,_,rfl,?_⟩
 rw[R.fx]
 refine go ?_;right
 refine⟨m,ws,seg N 0 i,rfl,nb 0 i,fw 0 i,?_⟩
 left
 refine⟨st,L 0,_,rfl,fw2 0 i,?_⟩
 have w0:=W.seg (i:=0) (j:=i) (P0 _) (OO)
 have hlast:(O7 st (L 0) (chs ws (seg N 0 i))).getLast?=some (L i):=by
  obtain⟨z,z1,z2⟩:=B33 w0 (chs ws (seg N 0 i)).length (F7 _)
  rw[B2f (F7 _),w0] at z2
  cases z2
  rw[List.getLast?_eq_getElem?,B34 w0]
  exact z1
 left
 rw[show -(1:Int)=-1 from rfl,B1l (xs:=W5 _) (B5x hlast)]
 left
 refine go ?_;left
 have hg:g < 100000000000000000000000000000000000000000000000000000000000000:=by
  rw[R.gs]
  have h1:=C16 (B:=1000000000000000000) (cs:=chs ws (seg N i j)) λc hc=>by
   obtain⟨n,_,rfl⟩:=Q2.mp hc
   exact D29 ok n
  have h2:=fw2 i j
  lia
 refine⟨⟨R.g0,hg⟩,?_⟩
 refine go ?_;left
 refine⟨m,ws,seg N i j,rfl,nb i j,fw i j,?_⟩
 left
 refine⟨st,tp,_,rfl,fw2 i j,?_⟩
 refine go ?_;left
 refine⟨seg N 0 i,rfl,?_⟩
 left
 have hp1:=@B1m (seg N 0 i)
 refine⟨DD,DD,by rw[D6];simp;lia,?_⟩
 unfold W5
 rw[A8p]
 left
 refine⟨⟨R.km,by rw[R.ll];have:=fw2 i j;lia⟩,?_⟩
 rw[R.ki]
 have ecut:S4 (numL (seg N i j)) none (some ((k:Nat):Int))=numL (seg N i (i + k)):=by
  rw[B3w]
  unfold numL
  rw[<-A2l,C0a kl]
 rw[ecut]
 refine⟨_,rfl,?_⟩
 left
 have hp2:=@B1m (seg N i (i + k))
 refine⟨by simp;lia,?_⟩
 obtain⟨t1,t2⟩:=D3a (x:=tp - L i) (g:=g) (by have:=R.xt;lia) R.g0
 have t3:=R.tst
 have qq:=q i j k le g tp (-(-(tp - L i) / g)) hij hj hp hle R t1 (OO)
 unfold A7f at qq
 rw[V3,V3] at qq
 exact qq
end
theorem Rows.risen {m:Nat} {ws:List Wy} {st:Int} {b:Tb} (ok:O9 m ws) (h0:0<=st) (hb:K8 m st b) {r:Rw} {rs:List Rw} (h:Rows m ws st b (r::rs)) (hn:rs≠[]):∃p n,gt r.2 p=some n:=by
 cases h with
 | one=>exact absurd rfl hn
 | @more r0 rs0 h' c=>
  obtain⟨a1,_,_⟩:=h'.ok ok h0 hb
  have I:=A1f (st:=st) (t:=r0.1) ok a1.len
  by_cases z:∃p n,gt (P9 m ws st r0.1 r0.1).2 p=some n
  ·exact z
  ·refine absurd (B9z (by rw[I.l1,a1.len]) λp=>I.no p ?_) c
   cases e:gt (P9 m ws st r0.1 r0.1).2 p with
   | none=>rfl
   | some n=>exact absurd ⟨p,n,e⟩ z
theorem Rows.rok {m:Nat} {ws:List Wy} {st:Int} {b:Tb} (ok:O9 m ws) (h0:0<=st) (hb:K8 m st b):∀{rs:List Rw},Rows m ws st b rs->A8z m ws rs
 | _,.one=>λr hr=>by
  have:r=(b,E5 m none):=by simpa using hr
  subst this
  exact⟨by simp,λq n e=>by rw[B0s] at e;cases e⟩
 | _,.more (r:=r0) h c=>λr hr=>by
  rcases J8.mp hr with e | hr
  ·subst e
   obtain⟨a1,_,_⟩:=h.ok ok h0 hb
   have I:=A1f (st:=st) (t:=r0.1) ok a1.len
   refine⟨I.l2,λq n e=>?_⟩
   obtain⟨w,hw,_⟩:=I.yes q n e
   exact (A2h.mp hw).1
  ·exact Rows.rok ok h0 hb h r hr
theorem D3d {m:Nat} {ws:List Wy} {st:Int} {b:Tb} (ok:O9 m ws) (h0:0<=st) (hb:K8 m st b):∃r rs,(U4 m ws st m (b,E5 m none)).reverse=r::rs/\(U4 m ws st m (b,E5 m none)).getLast?=some r/\(U4 m ws st m (b,E5 m none)).length=rs.length + 1/\rs.length<=m/\Rows m ws st b (r::rs)/\A8z m ws (U4 m ws st m (b,E5 m none))/\
  ((U4 m ws st m (b,E5 m none)).length<=m->U3 m ws st b r.1):=by
 obtain⟨r,rs,e,h,z⟩:=B92 (m:=m) (ws:=ws) (st:=st) (b:=b) m (b,E5 m none) [] .one
 rw[List.reverse_nil,Z1] at e
 have hl:(U4 m ws st m (b,E5 m none)).length=rs.length + 1:=by
  rw[<-A7u,e];rfl
 have hbd:∀(k:Nat) (q:Rw),(U4 m ws st k q).length<=k + 1:=by
  intro k
  induction k with
  | zero=>intro q;exact F7 _
  | succ k ih=>
   intro q
   unfold U4
   split
   ·simp
   ·have:=ih (P9 m ws st q.1 q.1);simp;lia
 have hb2:=hbd m (b,E5 m none)
 refine⟨r,rs,e,?_,hl,OO,h,λq hq=>h.rok ok h0 hb q (by rw[<-e];exact List.mem_reverse.mpr hq),λhm=>?_⟩
 ·rw[<-List.head?_reverse,e];rfl
 ·rcases z with z | z
  ·exact h.least ok h0 hb z
  ·rw[G3] at z
   simp at z
   lia
def D3e (B:Nat) (d:PyData):Prop:=∃q ps,d=.tuple [q,.list ps]/\ps.length<=B
def D3f:DSp:=λds Q=>∃(m:Nat) (ws:List Wy) (st:Int) (b0:Tb),ds=[L8 m ws,.int st,.list (B4 b0)]/\O9 m ws/\0<=st/\st<=1000000000000000000000/\K8 m st b0/\
 ∀(rs:List Rw) (r:Rw) (rd:List PyData),rs.getLast?=some r->U3 m ws st b0 r.1->Q (.tuple [.list (rs.map W6),.list rd])
def D3g:DSp:=λds Q=>∃(m:Nat) (ws:List Wy) (st:Int) (b0:Tb),ds=[L8 m ws,.int st,.list (B4 b0)]/\O9 m ws/\0<=st/\st<=1000000000000000000000/\K8 m st b0/\∀t,U3 m ws st b0 t->Q (.list (B4 t))
theorem D3h {st:Int} {b:Tb}:A46 st b<=b.length:=List.countP_le_length
theorem D3i {N:List Nat} {i j k:Nat} {tm:Int}:(A7f N i j k tm).length<=3:=by
 unfold A7f
 have h1:=@B1m (seg N 0 i)
 have h2:=@B1m (seg N i (i + k))
 rw[Q1,Q1]
 simp
 lia
section
variable {P:Program} {w:World} {K:A4} {mg:Str->Option Value} {base:Heap}
theorem D3j (T:Txt K mg):B9 P w K mg base CX0 7 T.bV.a T.bV.d ["land", "store", "base"] (spD [.sh,.sh,.sh] D3f):=by
 have dN:=@D21 P w K mg base T
 have dO:=T.aR.b
 have fb:=@D22 P w K mg base T
 have fc:=T.bg.b
 have ff:=@D23 P w K mg base T
 have fg:=T.bh.b
 have eD:=@D3c P w K mg base T
 have eE:=T.aN.b
 have gD:=@D2u P w K mg base T
 have gE:=T.cr.b
 refine K0 T.bV.F A2a rfl (λC cdv A outer s H E hr=>⟨_,(@M6 _ _ _ _ _ _ (n6 (C4 (i:=3) A2a.nd rfl (B7 rfl) (B3k (j9 A1y rfl T.bO A0t (A1 (pv 2) A6 A0) (he:=A0) (hpl:=A5))))) (@M6 _ _ _ _ _ _ (@C7x _ _ _ _ _ _ _ _ _ rfl (@B0b _ _ _ _ _ _ _ _ _ _ _ _ _ 4 _ _ _ _ _ A2a.nd rfl (B7 rfl) (Q5.new (N:=["land", "store", "base", "table", "roads", "rows", "walk", "parts", "full", "road"]) (osc:=B8 B04) KK) rfl (A8o (A2t rfl T.bZ (A2 (D8 (pv 0) (E8 (D2 (v:=V.int 0) rfl T.g_MANY.m ⟨_,rfl⟩)) (λ_ _=>rfl)) B5 C1))) (λ_=>A6n) (λ_=>(M4 (A2 (A3 (pv 10)) (A2 (C7 (E3 B5)) B5 E6) A0))) (by rfl) (by first | exact .inl rfl | exact .inr rfl | assumption) (by rfl) (by rfl) (by intro _;rfl))) (@M6 _ _ _ _ _ _ (G5 (C4 (i:=5) A2a.nd rfl (B7 rfl) (F5 (B6 dN (hr.mono DD) rfl T.aR.m T.aR.F.kp dO .nil A9 (C2 (A3 (pv 0)) (C2 (A3 (pv 1)) (V1 (pv 3) F4 A0) A0) A0) (he:=A0) (hpl:=(A7 A0 (A7 A0 A5))))))) (@M6 _ _ _ _ _ _ (@B3t _ _ _ _ _ (@A9z _ _ _ _ _ _ A0o (A30 (F5 (B6 fb (hr.mono DD) rfl T.bg.m T.bg.F.kp fc .nil A9 (C2 (A3 (pv 0)) (C2 (A3 (pv 5)) F4 A0) A0) (he:=A0) (hpl:=(A7 A0 A5))))) (@M6 _ _ _ _ _ _ (G5 (C4 (i:=6) A2a.nd rfl (B7 rfl) (F5 (B6 ff (hr.mono DD) rfl T.bh.m T.bh.F.kp fg .nil A9 (C2 (A3 (pv 0)) (C2 (A3 (pv 5)) F4 A0) A0) (he:=A0) (hpl:=(A7 A0 A5)))))) (@M6 _ _ _ _ _ _ (@G5 _ _ _ _ _ (@C4 _ _ 7 _ _ _ _ A2a.nd rfl (B7 rfl) (@F5 _ _ _ _ _ _ _ (@B6 _ _ _ _ _ _ _ _ _ _ _ _ _ _ _ _ eD (hr.mono DD) rfl T.aN.m T.aN.F.kp eE .nil A9 (C2 (A3 (pv 0)) (C2 (A3 (pv 1)) (C2 (D8 (pv 3) (D8 (pv 6) (E8 (D2 (v:=V.int 0) rfl T.g_FROM.m ⟨_,rfl⟩)) (λ_ _=>rfl)) (λ_ _=>rfl)) (C2 (A3 (pv 6)) F4 A0) C1) A0) A0) DD A0 ((A7 A0 (A7 C1 (A7 A0 A5)))))) (by rfl) (by first | exact .inl rfl | exact .inr rfl | assumption))) (@M6 _ _ _ _ _ _ (G5 (C4 (i:=8) A2a.nd rfl (B7 rfl) (F5 (B6 gD (hr.mono DD) rfl T.cr.m T.cr.F.kp gE .nil A9 (C2 (A3 (pv 0)) (C2 (D8 (pv 6) (E8 (D2 (v:=V.int 0) rfl T.g_FROM.m ⟨_,rfl⟩)) (λ_ _=>rfl)) (C2 (A3 (pv 7)) F4 A0) C1) A0) (he:=A0) (hpl:=(A7 C1 (A7 A0 A5))))))) (@M6 _ _ _ _ _ _ (G5 (C4 (i:=9) A2a.nd rfl (B7 rfl) (D8 (pv 4) (D8 (pv 6) (E8 (D2 (v:=V.int 0) rfl T.g_FROM.m ⟨_,rfl⟩)) (λ_ _=>rfl)) (λ_ _=>rfl)))) (@M6 _ _ _ _ _ _ (B0n (x9 (M4 (A2 (D8 (pv 9) (E8 (D2 (v:=V.int 0) rfl T.g_FROM.m ⟨_,rfl⟩)) (λ_ _=>rfl)) (A2 (C7 (m7 (D8 (pv 9) (E8 (D2 (v:=V.int 1) rfl T.g_BY.m ⟨_,rfl⟩)) (λ_ _=>rfl)) (A3 (pv 7)))) B5 L7) C1)) (w6 (pv 4) (A3 (pv 8)) f7))) (@M6 _ _ _ _ _ _ (B0n (x9 (A3 (pv 1)) (w6 (pv 3) (A3 (pv 8)) f7))) (E1 (G5 (C4 (i:=5) A2a.nd rfl (B7 rfl) (F5 (B6 dN (hr.mono DD) rfl T.aR.m T.aR.F.kp dO .nil A9 (C2 (A3 (pv 0)) (C2 (A3 (pv 1)) (V1 (pv 3) F4 A0) A0) A0) (he:=A0) (hpl:=(A7 A0 (A7 A0 A5)))))))))))))))) (E1 (F8 (M4 (A2 (A3 (pv 5)) (A2 (A3 (pv 4)) B5 A0) A0)))))))),λds Q hl h=>?_⟩)
 obtain⟨m,ws,st,b0,rfl,ok,h0,hst,hb0,q⟩:=h
 have m2:=ok.m2
 left
 refine go ?_;array_mem_dec
 refine⟨⟨OO,OO⟩,⟨rfl,by unfold V4;rw[D6,u8];lia⟩,?_⟩
 unfold V4
 rw[show ((m:Nat):Int).toNat=m by simp]
 refine A62 (f:=λi=>.tuple [.int (0 + ((i:Nat):Int)),.list []]) (λi hi Q' q'=>?_) ?_
 ·left
  exact⟨DD,DD,q'⟩
 left
 refine go ?_;left
 refine⟨rfl,m,ws,st,b0,rfl,ok,hb0.len,?_⟩
 left
 refine go ?_
 unfold A15 B0p
 refine⟨fun μ ρ=>∃(b:Tb) (rd:List PyData) (z6 z7 z8 z9:Sl),ρ=[Sl.sh (L8 m ws),Sl.sh (.int st),Sl.sh (.list (B4 b0)),Sl.ow (B4 b),Sl.ow rd,Sl.sh (.list ((U4 m ws st m (b,E5 m none)).map W6)),z6,z7,z8,z9]/\K8 m st b/\A46 st b=μ/\(∀t,U3 m ws st b t->U3 m ws st b0 t)/\rd.length=m/\∀d∈rd,D3e (3 * (m - μ)) d,
  ⟨A46 st b0,b0,_,_,_,_,_,rfl,hb0,rfl,λt h=>h,by simp,λd hd=>?_⟩,?_⟩
 ·have hd':d∈(U8 m).map λi=>PyData.tuple [.int (0 + ((i:Nat):Int)),.list []]:=hd
  obtain⟨i,_,rfl⟩:=Q2.mp hd'
  exact⟨_,[],rfl,P0 _⟩
 rintro μ ρ ⟨b,rd,z6,z7,z8,z9,rfl,hb,hμ,hle,hrl,hrd⟩
 obtain⟨r,rs,e1,e2,e3,e4,hR,hok,hfin⟩:=D3d ok h0 hb
 left
 refine⟨m,ws,_,rfl,?_⟩
 by_cases c:m < (U4 m ws st m (b,E5 m none)).length
 ·rw[decide_eq_true c]
  sizeOf_list_dec
  have hne:rs≠[]:=λz=>by rw[z] at e3;have:=ok.m1;simp at e3;lia
  refine⟨m,ws,_,r,rfl,ok,hok,OO,e2,hR.risen ok h0 hb hne,λp n hp hn=>?_⟩
  obtain⟨N,PP,L,f1,f2,f3,f4,W,f6⟩:=B97 ok h0 hb hR p (.inr ⟨n,hn⟩)
  have hN:N.length=m:=by lia
  rw[e1,f1]
  have hbeg:gt b (PP 0)=some (L 0):=W.beg
  have hP0:PP 0 < m:=W.pl ok hb 0 (P0 _)
  refine go ?_;left
  rw[A2b (by rw[hb.len];exact hP0),hbeg]
  right
  refine⟨m,ws,st,b,N,PP,L,rfl,ok,h0,hst,hb,W,hN,λi j k le g tp tm hij hj hpp hle2 R t1 t2=>?_⟩
  have kl:k<=j - i:=by
   have:=R.kl
   unfold chs at this
   rw[D6,B0u (OO)] at this
   exact this
  have hfull:PP (i + k) < m:=W.pl ok hb (i + k) (OO)
  have htrp:Trp ws (PP 0) (A7f N i j k tm) (PP (i + k)):=by
   unfold A7f
   refine ((C1z (W.pth (i:=0) (j:=i) (P0 _) OO)).app ?_).app (C1z (W.pth (i:=i) (j:=i + k) OO OO))
   have hs:=W.pth (i:=i) (j:=j) OO (OO)
   rw[<-hpp] at hs
   exact .cons hs (λz=>by have:=congrArg B18 z;rw[B0u (OO)] at this;simp at this;lia) t1 t2 (.inr rfl) .nil
  refine go ?_;left
  refine⟨m,ws,PP 0,PP (i + k),_,rfl,htrp,?_⟩
  obtain⟨d0,hd0⟩:∃d,rd[PP 0]?=some d:=⟨_,P5 OO⟩
  obtain⟨q0,ps0,rfl,hps⟩:=hrd d0 (X1 hd0)
  refine go ?_;left
  rw[A0q hd0]
  left
  refine go ?_;left
  have h3:=@D3i N i j k tm
  have hlk:=C0b st b (PP (i + k)) (by rw[hb.len];exact hfull) (C8v W h0 hb hij OO hpp OO)
  have hlm:=@D3h st b
  rw[hb.len] at hlm
  refine⟨by rw[D6];lia,DD,?_⟩
  rw[B1k (by rw[hrl];exact hfull)]
  left
  refine go ?_;left
  rw[B1k (by rw[W7,hb.len];exact hfull)]
  left
  rw[show (B4 b).set (PP (i + k)) (PyData.int st)=B4 (b.set (PP (i + k)) (some st)) from C1x (x:=some st)]
  refine go ?_;left
  have hb':=C8w h0 hb hfull
  refine⟨rfl,m,ws,st,_,rfl,ok,hb'.len,?_⟩
  left
  refine⟨A46 st (b.set (PP (i + k)) (some st)),OO,b.set (PP (i + k)) (some st),_,_,_,_,_,rfl,hb',rfl,λt h=>hle t (h.fill hb hfull λT hT h1 h2=>C8u W hij OO hpp hle2 R hT h1 h2),by rw[X2];exact hrl,λd hd=>?_⟩
  rcases List.mem_or_eq_of_mem_set hd with hd | hd
  ·obtain⟨q1,ps1,e,h5⟩:=hrd d hd
   exact⟨q1,ps1,e,OO⟩
  ·exact⟨_,_,hd,by rw[Q1,D6];lia⟩
 ·rw[decide_eq_false c]
  left
  refine go ?_
  left
  refine⟨DD,?_⟩
  exact q _ r rd e2 (hle _ (hfin OO))
theorem C17 (T:Txt K mg):B9 P w K mg base CX0 8 T.br.a T.br.d ["land", "store", "base"] (spD [.sh,.sh,.sh] D3g):=by
 have gh:=@D3j P w K mg base T
 have gi:=T.bV.b
 refine K0 T.br.F D0y rfl (λC cdv A outer s H E hr=>⟨_,(@E1 _ _ _ _ (@F8 _ _ _ _ _ (@P4 _ _ _ _ _ _ _ (P4 (P4 (F5 (B6 gh (hr.mono DD) rfl T.bV.m T.bV.F.kp gi .nil A9 (C2 (A3 (pv 0)) (C2 (A3 (pv 1)) (C2 (A3 (pv 2)) F4 A0) A0) A0) (he:=A0) (hpl:=(A7 A0 (A7 A0 A5))))) B3 (λ_ _=>rfl)) (Z4 B3) (λ_ _=>rfl)) (E8 (D2 (v:=V.int 0) rfl T.g_TABLE.m ⟨_,rfl⟩)) (λ_ _=>rfl)))),λds Q hl h=>?_⟩)
 obtain⟨m,ws,st,b0,rfl,ok,h0,hst,hb0,q⟩:=h
 left
 refine⟨m,ws,st,b0,rfl,ok,h0,hst,hb0,λrs r rd hl hL=>?_⟩
 left
 rw[show -(1:Int)=-1 from rfl,B1l (B5x hl)]
 right
 exact q _ hL
end
def lkF (st:Int) (t:Tb):Tb:=t.map λo=>o.map λx=>st - x
theorem D3k {st:Int} {t:Tb} {p:Nat}:gt (lkF st t) p=(gt t p).map λx=>st - x:=by
 unfold gt lkF
 rw[S0]
 cases t[p]? with
 | none=>rfl
 | some o=>rfl
theorem C18 {m:Nat} {st:Int} {t:Tb} (h:K8 m st t):K8 m st (lkF st t):=by
 refine⟨by unfold lkF;rw[D6];exact h.len,λp x e=>?_⟩
 rw[D3k] at e
 cases z:gt t p with
 | none=>rw[z] at e;cases e
 | some y=>
  rw[z] at e
  have:st - y=x:=Option.some.inj e
  have:=h.bd p y z
  lia
theorem D3l {m:Nat} {ws:List Wy} (ok:O9 m ws):O9 m (ws.map A1i):=by
 refine⟨ok.m1,ok.m2,by rw[D6];exact ok.few,λw hw=>?_,λw hw=>?_,λw hw=>?_,λw hw=>?_⟩
 all_goals obtain⟨v,hv,rfl⟩:=Q2.mp hw
 ·exact ok.en v hv
 ·exact ok.st v hv
 ·exact ok.lo v hv
 ·exact ok.hi v hv
def D3m:DSp:=λds Q=>∃(st:Int) (t:Tb),ds=[.int st,.list (B4 t)]/\t.length<=900/\Q (.list (B4 (lkF st t)))
def D3n:DSp:=λds Q=>∃(m:Nat) (ws:List Wy) (st:Int) (g:Tb),ds=[L8 m ws,.int st,.list (B4 g)]/\O9 m ws/\0<=st/\st<=1000000000000000000000/\K8 m st g/\∀t,U3 m (ws.map A1i) st (lkF st g) t->Q (.list (B4 (lkF st t)))
theorem D3o {H H':Hp} (k:Kq none H H'):Same H H':=λb o e=>k b o e λq hq=>nomatch hq
abbrev TT0:Addr->Prop:=λ_=>True
theorem j0 {a R:TS} {D:X3} {σ:L2.St} {H:Hp} (h:∀W:TS,W=R->X8 a W D σ H):X8 a R D σ H:=h R rfl
theorem K1 {W a R:TS} {D:X3} {σ:L2.St} {H:Hp} (e:W=X8 a R) (h:∀W':TS,W'=R->X8 a W' D σ H):W D σ H:=by rw[e];exact h R rfl
abbrev O1 (H:Hp):Addr->Prop:=λb=>H b=none\/∃xs,H b=some (.tup xs)
theorem V6 {ms:List Md} {sp:DSp} {vs:List V} {ds:List PyData} {H:Hp} {Q:VK} {E:XK} (Qd:PyData->Prop) (ar:m9 TT0 none H ms vs ds) (h:sp ds Qd) (k:∀d v H',Qd d->ThV TT0 H' v d->Same H H'->Q v H'):spD ms sp vs H Q E:=
 ⟨TT0,none,ds,Qd,⟨λ_ _=>trivial,λ_ _ _=>trivial⟩,λq hq=>(nomatch hq),λq hq=>(nomatch hq),ar,h,λd v H' a b c _=>k d v H' a b (D3o c)⟩
theorem D3p {sp:DSp} {H:Hp} {Q:VK} {E:XK} {hd hl:Addr} (Qd:PyData->Prop) (d:Hd H hd hl) (h:sp [.none] Qd) (k:∀d v H',Qd d->ThV (λb=>b≠hd) H' v d->Kq (some (hd,hl)) H H'->Hd H' hd hl->Q v H'):spD [.hd] sp [.ref hd] H Q E:=by
 have d0:=d
 obtain⟨_,_,_,_,_,_,_,_,e⟩:=d
 exact⟨λb=>b≠hd,some (hd,hl),[.none],Qd,⟨(λb z y=>by rw[y,e] at z;cases z),(λb xs z y=>by rw[y,e] at z;cases z)⟩,λq hq=>by cases hq;exact λz=>z rfl,λq hq=>by cases hq;exact d0,.cons ⟨_,rfl,rfl⟩ .nil,h,λd v H' a b c z=>k d v H' a b c (z _ rfl)⟩
theorem M5 {F G:Addr->Prop} {H H':Hp}:∀{t:Tb} {us:List V},B0 F H us (B4 t)->B0 G H' us (B4 t)
 | [],_,h=>by cases h;exact .nil
 | o::t,_,h=>by
  cases h with
  | cons x r=>
   cases o with
   | none=>cases x;exact .cons .non (M5 r)
   | some i=>cases x;exact .cons (.int _) (M5 r)
theorem C19 {F G:Addr->Prop} {H H':Hp}:∀{ns:List Nat} {us:List V},B0 F H us (numL ns)->W4 G H' us (numL ns) []
 | [],_,h=>by cases h;exact .nil
 | n::ns,_,h=>by
  cases h with
  | cons x r=>cases x;exact W4.cons (fp:=[]) (fps:=[]) (.int _) (C19 r)
theorem D3q {F G:Addr->Prop} {H H':Hp} {ns:List Nat} {us:List V} (t:B0 F H us (numL ns)):B0 G H' us (numL ns):=(C19 (G:=G) (H':=H') t).th
theorem _root_.L2.Same.early {H H':Hp} (s:Same H H') {b:Addr} (h:H' b=none):H b=none:=by
 cases z:H b with
 | none=>rfl
 | some o=>rw[s _ _ z] at h;cases h
theorem C2a {H H':Hp} (s:Same H H') {b:Addr} (h:O1 H' b):O1 H b:=by
 rcases h with h | ⟨xs,h⟩
 ·exact .inl (s.early h)
 ·cases z:H b with
  | none=>exact .inl z
  | some o=>
   have:=s _ _ z
   rw[h] at this
   cases this
   exact .inr ⟨xs,z⟩
theorem A81 {H H':Hp} (s:Same H H') {b:Addr} {xs:List V} (h:O1 H b) (e:H' b=some (.lst xs)):H b=none:=by
 rcases h with h | ⟨ys,h⟩
 ·exact h
 ·rw[s _ _ h] at e;cases e
theorem B1n {ms:List Md} {sp:DSp} {vs:List V} {ds:List PyData} {H:Hp} {Q:VK} {E:XK} {hd hl:Addr} (Qd:PyData->Prop) (d:Hd H hd hl) (ar:m9 (λb=>b≠hd) (some (hd,hl)) H ms vs ds) (h:sp (.none::ds) Qd) (k:∀d v H',Qd d->ThV (λb=>b≠hd) H' v d->Kq (some (hd,hl)) H H'->Hd H' hd hl->Q v H'):spD (.hd::ms) sp (.ref hd::vs) H Q E:=by
 have d0:=d
 obtain⟨_,_,_,_,_,_,_,_,e⟩:=d
 exact⟨λb=>b≠hd,some (hd,hl),.none::ds,Qd,⟨(λb z y=>by rw[y,e] at z;cases z),(λb xs z y=>by rw[y,e] at z;cases z)⟩,λq hq=>by cases hq;exact λz=>z rfl,λq hq=>by cases hq;exact d0,.cons ⟨_,rfl,rfl⟩ ar,h,λd v H' a b c z=>k d v H' a b c (z _ rfl)⟩
def spN (sp:DSp):Sp:=λvs H Q _=>∃ds Qd,B0 TT0 H vs ds/\sp ds Qd/\∀d v H',Qd d->ThV (O1 H) H' v d->Same H H'->Q v H'
theorem D3r {H:Hp} {p b:Addr} {o:HO} (h:upd H p o b=none):b≠p/\H b=none:=by
 by_cases e:b=p
 ·subst e;rw[B2] at h;cases h
 ·rw[B1 e] at h;exact⟨e,h⟩
theorem _root_.L2.Same.upd {H:Hp} {p:Addr} {o:HO} (h:H p=none):Same H (upd H p o):=λb o' e=>by rw[B1 (P6 e h)];exact e
theorem _root_.L2.Same.tr {H H1 H2:Hp} (a:Same H H1) (b:Same H1 H2):Same H H2:=λc o e=>b _ _ (a _ _ e)
theorem ThV.keep {F:Addr->Prop} {H H':Hp} {v:V} {d:PyData} (t:ThV F H v d) (s:Same H H'):ThV F H' v d:=t.mv λb o z e=>⟨z,s _ _ e⟩
theorem B0.keep {F:Addr->Prop} {H H':Hp} {v:List V} {d:List PyData} (t:B0 F H v d) (s:Same H H'):B0 F H' v d:=t.mv λb o z e=>⟨z,s _ _ e⟩
theorem ThV.any {F:Addr->Prop} {H:Hp} {v:V} {d:PyData} (t:ThV F H v d):ThV TT0 H v d:=t.mv λb o z e=>⟨trivial,e⟩
theorem B0.any {F:Addr->Prop} {H:Hp} {v:List V} {d:List PyData} (t:B0 F H v d):B0 TT0 H v d:=t.mv λb o z e=>⟨trivial,e⟩
section
variable {P:Program} {w:World} {K:A4} {mg:Str->Option Value} {base:Heap}
end
theorem B1o {F:Addr->Prop} {H:Hp}:∀{vs:List V} {ds:List PyData} {i:Nat} {x:V},B0 F H vs ds->vs[i]?=some x->∃d,ds[i]?=some d/\ThV F H x d
 | _,_,_,_,.nil,e=>nomatch e
 | _,_,0,_,.cons x _,e=>by cases e;exact⟨_,rfl,x⟩
 | _,_,i + 1,_,.cons _ t,e=>B1o (i:=i) t e
abbrev D3s:Sp:=spN D3m
abbrev D3t:Sp:=spN D3n
def A7g (a b:Option Int):Bool:=match b,a with
 | none,_=>true
 | some _,none=>false
 | some y,some x=>decide (x<=y)
def D3u:DSp:=λds Q=>∃a b:Option Int,ds=[oD a,oD b]/\Q (.bool (A7g a b))
def A5i (t o:Tb):List Nat:=(U8 t.length).filter λp=>!A7g (gt o p) (gt t p)
def D3v:DSp:=λds Q=>∃t o:Tb,ds=[.list (B4 t),.list (B4 o)]/\t.length=o.length/\t.length<=900/\Q (.list (numL (A5i t o)))
abbrev D3w:Sp:=spN D3v
section
variable {P:Program} {w:World} {K:A4} {mg:Str->Option Value} {base:Heap}
theorem D3x (T:Txt K mg):B9 P w K mg base CX0 1 T.bB.a T.bB.d ["store", "table"] D3s:=by
 refine T.bB.F.ok D0z (λvs H Q E h=>?_) (λcdv A outer s H vs Q E hr h=>?_)
 ·obtain⟨ds,Qd,t,⟨st,t0,rfl,_⟩,_⟩:=h
  rw[t.len];rfl
 ·obtain⟨ds,Qd,tv,⟨st,t0,rfl,hl,q⟩,told⟩:=h
  obtain⟨v1,v2,rfl,t1,t2⟩:=m6 tv
  cases t1
  obtain⟨at',ut,rfl,_,et,tut⟩:=P8 t2
  have lut:ut.length=t0.length:=by rw[tut.len,W7]
  refine⟨_,(D1 (G6 (Z3 (Q5.new (N:=["store", "table"]) (osc:=B8 B05) KK) rfl (A0p (pv 1)) (λ_=>A10) (λ_=>(B7e (T7 y9 (pv 2) A9w (E4 _)) A9w (K6 A2u (pv 0) (pv 2))))))),?_⟩
  refine⟨_,rfl,at',rfl,⟨ut,SqL.of et⟩,?_⟩
  refine A3y (xs:=ut) (λi ys Hn=>Hn=H/\B0 TT0 H ys (B4 (lkF st (t0.take i)))) ?_ ⟨rfl,.nil⟩ ?_ ?_ ?_
  ·rw[lut,sizeLine_eq];lia
  ·rintro i ys Hn hi ⟨rfl,h2⟩
   refine⟨?_,SqL.of et⟩
   rw[h2.len,W7]
   unfold lkF
   rw[D6,Z0]
   lia
  ·rintro i x ys Hn hx ⟨rfl,h2⟩ ca
   obtain⟨d,hd,tx⟩:=B1o tut hx
   unfold B4 at hd
   rw[S0] at hd
   obtain⟨o,ho,rfl⟩:=A55.mp hd
   have stp:B4 (lkF st (t0.take (i + 1)))=B4 (lkF st (t0.take i))++[oD (o.map λx=>st - x)]:=by
    rw[A54,ho]
    unfold lkF B4
    rw[V3,V3];rfl
   unfold A1z
   refine J0 ⟨_,rfl,rfl,_,rfl,?_⟩
   rw[stp]
   cases o with
   | none=>
    cases tx
    exact J0 ⟨rfl,h2.append (.cons .non .nil)⟩
   | some y=>
    cases tx
    rw[show decide (V.int y=V.non)=false from decide_eq_false λz=>by cases z]
    exact E2 ⟨_,rfl,_,rfl,_,_,rfl,rfl,rfl,h2.append (.cons (.int _) .nil)⟩
  rintro ys Hn ⟨rfl,h2⟩ p hp
  rw[lut,A71] at h2
  exact told _ _ _ q (.lst (.inl hp) B2 (M5 h2)) (Same.upd hp)
theorem B50 (T:Txt K mg):B9 P w K mg base CX0 9 T.bw.a T.bw.d ["land", "store", "goal"] D3t:=by
 have eO:=@D3x P w K mg base T
 have eP:=T.bB.b
 have dH:=@C17 P w K mg base T
 have dI:=T.br.b
 have fh:=@D2i P w K mg base T
 have fj:=T.bb.b
 refine T.bw.F.ok D00 (λvs H Q E h=>?_) (λcdv A outer s H vs Q E hr h=>?_)
 ·obtain⟨ds,Qd,t,⟨m,ws,st,g,rfl,_⟩,_⟩:=h
  rw[t.len];rfl
 ·obtain⟨ds,Qd,tv,⟨m,ws,st,g,rfl,ok,h0,hst,hg,q⟩,told⟩:=h
  cases tv with
  | @cons vl _ _ _ tl tv=>
  obtain⟨vst,vg,rfl,tst,tg⟩:=m6 tv
  cases tst
  have m2:=ok.m2
  have few:=ok.few
  have hgl:=hg.len
  refine⟨_,(D1 (G6 (B6 eO (hr.mono DD) rfl T.bB.m T.bB.F.kp eP .nil A9 (A1 (pv 1) (A1 (B6 dH (hr.mono DD) rfl (T.bX.trans T.br.m) T.br.F.kp dI .nil A9 (A1 (B6 fh (hr.mono DD) rfl T.bb.m T.bb.F.kp fj .nil A9 (A1 (pv 0) A6 A0) (he:=A0) (hpl:=A5)) (A1 (pv 1) (A1 (B6 eO (hr.mono DD) rfl T.bB.m T.bB.F.kp eP .nil A9 (A1 (pv 1) (A1 (pv 2) A6 A0) A0) (he:=A0) (hpl:=(A7 A0 A5))) A6 D5) A0) D5) (he:=D5) (hpl:=(A7 A0 (A7 D5 A5)))) A6 D5) A0) (he:=A0) (hpl:=(A7 D5 A5))))),?_⟩
  refine⟨_,rfl,_,rfl,V6 (E:=E0) (λd=>d=L8 m (ws.map A1i)) (.cons tl .nil) ⟨m,ws,rfl,OO,rfl⟩ λd v1 H1 hd t1 s1=>?_⟩
  subst hd
  refine⟨_,rfl,_,rfl,_,rfl,[.int st,.list (B4 g)],(λd=>d=.list (B4 (lkF st g))),.cons (.int _) (.cons (tg.keep s1) .nil),⟨st,g,rfl,OO,rfl⟩,λd v2 H2 hd t2 s2=>?_⟩
  subst hd
  refine V6 (E:=E0) (λd=>∃t,U3 m (ws.map A1i) st (lkF st g) t/\d=.list (B4 t)) (.cons (t1.keep s2) (.cons (.int _) (.cons t2.any .nil))) ⟨m,_,st,_,rfl,D3l ok,h0,hst,C18 hg,λt ht=>⟨t,ht,rfl⟩⟩ λd v3 H3 hd t3 s3=>?_
  obtain⟨t,ht,rfl⟩:=hd
  have htl:=ht.tab.len
  have s03:=(s1.tr s2).tr s3
  refine⟨[.int st,.list (B4 t)],(λd=>d=.list (B4 (lkF st t))),.cons (.int _) (.cons t3 .nil),⟨st,t,rfl,OO,rfl⟩,λd v4 H4 hd t4 s4=>?_⟩
  subst hd
  exact told _ _ _ (q t ht) (t4.mv λb o z e=>⟨C2a s03 z,e⟩) (s03.tr s4)
theorem D3y (T:Txt K mg):B9 P w K mg base CX0 1 T.bD.a T.bD.d ["level", "bound"] (spD [.sh,.sh] D3u):=by
 refine K0 T.bD.F D0r rfl (λC cdv A outer s H E hr=>⟨_,(E1 (F8 (B0h (A0v y9 A0y (A3 (pv 1)) N2 (E4 _)) (i7 (A0w (A0v A79 A8j (A3 (pv 0)) N2 (E4 _)) (i7 (A0v j7 C67 (A3 (pv 0)) (A3 (pv 1)) (E4 _)))))))),λds Q hl h=>?_⟩)
 obtain⟨a,b,rfl,q⟩:=h
 cases b with
 | none=>
  right
  exact q
 | some y=>
  cases a with
  | none=>
   right
   exact q
  | some x=>
   right
   exact q
theorem D3z (T:Txt K mg):B9 P w K mg base CX0 2 T.aD.a T.aD.d ["table", "other"] D3w:=by
 have fN:=@D3y P w K mg base T
 have fO:=T.bD.b
 refine T.aD.F.ok D02 (λvs H Q E h=>?_) (λcdv A outer s H vs Q E hr h=>?_)
 ·obtain⟨ds,Qd,t,⟨t0,o0,rfl,_⟩,_⟩:=h
  rw[t.len];rfl
 ·obtain⟨ds,Qd,tv,⟨t0,o0,rfl,hlen,hl,q⟩,told⟩:=h
  obtain⟨v1,v2,rfl,t1,t2⟩:=m6 tv
  obtain⟨at',ut,rfl,_,et,tut⟩:=P8 t1
  obtain⟨ao,uo,rfl,_,eo,tuo⟩:=P8 t2
  have lut:ut.length=t0.length:=by rw[tut.len,W7]
  refine⟨_,(D1 (G6 (Z3 (Q5.new (N:=["table", "other"]) (osc:=B8 B06) KK) rfl (A2t rfl T.bZ (A1 (G8 Y1 rfl T.bi W0 (A1 (pv 0) A6 A0) (he:=A0) (hpl:=A5)) A6 D5)) (λ_=>(A8d (Q8 (P3 (B6 fN (hr.mono DD) rfl T.bD.m T.bD.F.kp fO .nil A9 (A1 (G9 Q4 (pv 1) (pv 2) (λ_ _=>rfl)) (A1 (G9 Q4 (pv 0) (pv 2) (λ_ _=>rfl)) A6 C1) C1) (he:=C1) (hpl:=(A7 C1 A5))))))) (λ_=>(pv 2))))),?_⟩
  refine⟨_,rfl,at',ut,rfl,.inl (SqL.of et),_,rfl,OO,OO,?_⟩
  refine B8p (n:=((ut.length:Nat):Int).toNat) (λi ys Hn=>Same H Hn/\B0 TT0 H ys (numL ((U8 i).filter λp=>!A7g (gt o0 p) (gt t0 p)))) ?_ ⟨λ_ _ e=>e,.nil⟩ ?_ ?_ ?_
  ·rw[lut,sizeLine_eq];lia
  ·rintro i ys Hn hi ⟨h1,h2⟩
   rw[h2.len,A3f]
   exact X0 (C30 _ _) (by rw[u8];exact F7 _)
  ·rintro i ys Hn hi ⟨h1,h2⟩ ca
   rw[lut,Int.toNat_natCast] at hi
   rw[Int.zero_add]
   obtain⟨vo,hvo,tvo⟩:=B0i tuo (A2b (t:=o0) (p:=i) OO)
   obtain⟨vt,hvt,tvt⟩:=B0i tut (A2b (t:=t0) (p:=i) hi)
   refine⟨_,rfl,_,rfl,ao,uo,_,_,rfl,rfl,SqL.of (h1 _ _ eo),hvo,_,rfl,_,rfl,at',ut,_,_,rfl,rfl,SqL.of (h1 _ _ et),hvt,V6 (E:=E0) (λd=>d=.bool (A7g (gt o0 i) (gt t0 i))) (.cons (tvo.any.keep h1) (.cons (tvt.any.keep h1) .nil)) ⟨_,_,rfl,rfl⟩ λd v H' hd tv s'=>?_⟩
   subst hd
   cases tv
   refine⟨_,rfl,?_⟩
   rw[List.range_succ,C33]
   cases e:A7g (gt o0 i) (gt t0 i) with
   | true=>
    refine E2 ⟨h1.tr s',?_⟩
    rw[A7w (by rw[e];decide),B67,A2j]
    exact h2
   | false=>
    refine J0 ⟨_,rfl,h1.tr s',?_⟩
    rw[B2g (by rw[e];rfl),B67]
    unfold numL
    rw[V3]
    exact h2.append (.cons (.int _) .nil)
  rintro ys Hn ⟨h1,h2⟩ p hp
  rw[lut,Int.toNat_natCast] at h2
  exact told _ _ _ q (.lst (.inl (h1.early hp)) B2 (D3q h2)) (h1.tr (Same.upd hp))
end
abbrev Kw:=List (Int×Wy)
def D7 (kws:Kw) (k:Int):Option Wy:=(kws.find? λq=>decide (q.1=k)).map (·.2)
def W8 (kws:Kw) (k:Int) (w:Wy):Kw:=if (kws.any λq=>decide (q.1=k))=true then kws.map (λq=>if q.1=k then (q.1,w) else q) else kws++[(k,w)]
def W9 (kws:Kw) (k:Int):Kw:=kws.filter λq=>decide (q.1≠k)
def C6 (kws:Kw):List Int:=kws.map (·.1)
inductive N8 (H:Hp):List (Key×V)->Kw->Prop
 | nil:N8 H [] []
 | cons {k:Int} {v:V} {w:Wy} {kvs:List (Key×V)} {kws:Kw}:ThV TT0 H v (M7 w)->N8 H kvs kws->N8 H ((Sum.inl k,v)::kvs) ((k,w)::kws)
theorem C2b {F G:Addr->Prop} {H H':Hp}:∀{xs:List Int} {us:List V},B0 F H us (xs.map PyData.int)->B0 G H' us (xs.map PyData.int)
 | [],_,h=>by cases h;exact .nil
 | x::xs,_,h=>by
  cases h with
  | cons y r=>cases y;exact .cons (.int _) (C2b r)
theorem A5j {F G:Addr->Prop} {H H':Hp} {v:V} {w:Wy} (t:ThV F H v (M7 w)) (s:∀b xs,H b=some (.tup xs)->H' b=some (.tup xs)) (g:∀b xs,H b=some (.tup xs)->G b):ThV G H' v (M7 w):=by
 obtain⟨a,us,rfl,_,e,tu⟩:=A1b (show ThV F H v (.tuple ([((w.1:Nat):Int),((w.2.1:Nat):Int),w.2.2].map PyData.int)) from t)
 exact .tup (g _ _ e) (s _ _ e) (C2b tu)
section
variable {H H':Hp} {kvs:List (Key×V)} {kws:Kw}
theorem N8.mv (h:N8 H kvs kws) (s:∀b xs,H b=some (.tup xs)->H' b=some (.tup xs)):N8 H' kvs kws:=by
 induction h with
 | nil=>exact .nil
 | cons t _ ih=>exact .cons (A5j t s λ_ _ _=>trivial) ih
theorem N8.len (h:N8 H kvs kws):kvs.length=kws.length:=by
 induction h with
 | nil=>rfl
 | cons _ _ ih=>rw[G3,G3,ih]
theorem N8.keys (h:N8 H kvs kws):kvs.map (·.1)=(C6 kws).map Sum.inl:=by
 induction h with
 | nil=>rfl
 | cons _ _ ih=>
  unfold C6 at ih ⊢
  rw[P2,P2,P2,ih]
theorem D30 {a b:Int}:((Sum.inl a:Key)=Sum.inl b)↔a=b:=⟨λh=>Sum.inl.inj h,λh=>by rw[h]⟩
theorem j1 (q:Int×Wy) (r:Kw) (k:Int):D7 (q::r) k=if q.1=k then some q.2 else D7 r k:=by
 unfold D7
 rw[A7x]
 by_cases e:q.1=k
 ·rw[decide_eq_true e,if_pos e];rfl
 ·rw[decide_eq_false e,if_neg e]
theorem N8.val (h:N8 H kvs kws) (k:Int):(Z8 kvs (Sum.inl k:Key)=none/\D7 kws k=none)\/∃v w,Z8 kvs (Sum.inl k:Key)=some v/\D7 kws k=some w/\ThV TT0 H v (M7 w):=by
 induction h with
 | nil=>exact .inl ⟨rfl,rfl⟩
 | @cons k' v w kvs kws t _ ih=>
  rw[j1]
  by_cases e:k'=k
  ·subst e
   rw[if_pos rfl,B0v (p:=((Sum.inl k':Key),v)) rfl]
   exact .inr ⟨v,w,rfl,rfl,t⟩
  ·rw[if_neg e,B0w (p:=((Sum.inl k':Key),v)) (λz=>e (Sum.inl.inj z))]
   exact ih
theorem N8.map (h:N8 H kvs kws) {k:Int} {v:V} {w:Wy} (t:ThV TT0 H v (M7 w)):N8 H (kvs.map λkv=>if kv.1=(Sum.inl k:Key) then (kv.1,v) else kv) (kws.map λq=>if q.1=k then (q.1,w) else q):=by
 induction h with
 | nil=>exact .nil
 | @cons k' v' w' kvs kws t' _ ih=>
  rw[P2,P2]
  by_cases e:k'=k
  ·rw[if_pos (show (Sum.inl k':Key)=Sum.inl k by rw[e]),if_pos (show k'=k from e)]
   exact .cons t ih
  ·rw[if_neg (show ¬ (Sum.inl k':Key)=Sum.inl k from λz=>e (Sum.inl.inj z)),if_neg (show ¬ k'=k from e)]
   exact .cons t' ih
theorem N8.snoc (h:N8 H kvs kws) {k:Int} {v:V} {w:Wy} (t:ThV TT0 H v (M7 w)):N8 H (kvs++[(Sum.inl k,v)]) (kws++[(k,w)]):=by
 induction h with
 | nil=>exact .cons t .nil
 | cons t' _ ih=>exact .cons t' ih
theorem N8.any (h:N8 H kvs kws) (k:Int):(kvs.any λkv=>decide (kv.1=(Sum.inl k:Key)))=(kws.any λq=>decide (q.1=k)):=by
 induction h with
 | nil=>rfl
 | cons _ _ ih=>
  rw[A5z,A5z,ih]
  congr 1
  exact decide_eq_decide.mpr D30
theorem N8.put (h:N8 H kvs kws) {k:Int} {v:V} {w:Wy} (t:ThV TT0 H v (M7 w)):N8 H (U5 kvs (Sum.inl k:Key) v) (W8 kws k w):=by
 unfold U5 W8
 rw[h.any k]
 split
 ·exact h.map t
 ·exact h.snoc t
theorem N8.drop (h:N8 H kvs kws) (k:Int):N8 H (A18 kvs (Sum.inl k:Key)) (W9 kws k):=by
 unfold A18 W9
 induction h with
 | nil=>exact .nil
 | @cons k' v w kvs kws t _ ih=>
  by_cases e:k'=k
  ·rw[A7w (by simp [e]),A7w (by simp [e])]
   exact ih
  ·rw[B2g (by simp [e]),B2g (by simp [e])]
   exact .cons t ih
end
def srt (ns:List Int):List Int:=ns.mergeSort (λa b=>decide (a<=b))
theorem j2 (ns:List Int):(srt ns).Perm ns:=List.mergeSort_perm ns _
theorem C2c (ns:List Int):(srt ns).Pairwise (·<=·):=by
 have:=List.pairwise_mergeSort (le:=λa b:Int=>decide (a<=b)) (λa b c h1 h2=>by simp at *;lia) (λa b=>by simp;lia) ns
 exact this.imp λh=>by simpa using h
theorem A7h {ns ms:List Int} (p:ms.Perm ns) (h:ms.Pairwise (·<=·)):ms=srt ns:=(p.trans (j2 ns).symm).eq_of_pairwise (λa b _ _ h1 h2=>OO) h (C2c ns)
theorem C2d {ns ms:List Int} (p:ms.Perm ns):srt ms=srt ns:=A7h ((j2 ms).trans p) (C2c ms)
def wsF (kws:Kw):List Wy:=(srt (C6 kws)).map λk=>(D7 kws k).getD (0,0,0)
structure A82 (m:Nat) (w:Wy):Prop where
 st:w.1 < m
 en:w.2.1 < m
 lo:-1000000000000000000<=w.2.2
 hi:w.2.2<=1000000000000000000
structure KOk (m:Nat) (st:Int) (g:Tb) (kws:Kw):Prop where
 m1:1<=m
 m2:m<=12
 s0:0<=st
 s1:st<=100000000000000000000
 gt:K8 m st g
 nd:(C6 kws).Nodup
 few:kws.length<=40
 way:∀q∈kws,(1<=q.1/\q.1<=1000000000000000000)/\A82 m q.2
theorem A5k {kws:Kw} {k:Int} {w:Wy} (h:D7 kws k=some w):(k,w)∈kws:=by
 unfold D7 at h
 cases e:kws.find? λq=>decide (q.1=k) with
 | none=>rw[e] at h;cases h
 | some q=>
  rw[e] at h
  cases h
  have h1:=List.find?_some e
  have h2:=List.mem_of_find?_eq_some e
  have h3:q.1=k:=by simpa using h1
  rw[<-h3];exact h2
theorem A1j {kws:Kw} {k:Int} (h:k∈C6 kws):∃w,D7 kws k=some w:=by
 induction kws with
 | nil=>cases h
 | cons q r ih=>
  rw[j1]
  by_cases e:q.1=k
  ·rw[if_pos e];exact⟨_,rfl⟩
  ·rw[if_neg e]
   rcases J8.mp (show k∈q.1::C6 r from h) with z | z
   ·exact absurd z.symm e
   ·exact ih z
theorem KOk.land {m:Nat} {st:Int} {g:Tb} {kws:Kw} (o:KOk m st g kws):O9 m (wsF kws):=by
 have key:∀w∈wsF kws,A82 m w:=λw hw=>by
  unfold wsF at hw
  obtain⟨k,hk,rfl⟩:=Q2.mp hw
  obtain⟨w',hw'⟩:=A1j ((j2 _).mem_iff.mp hk)
  rw[hw']
  exact (o.way _ (A5k hw')).2
 refine⟨o.m1,o.m2,?_,λw hw=>(key w hw).st,λw hw=>(key w hw).en,λw hw=>(key w hw).lo,λw hw=>(key w hw).hi⟩
 unfold wsF
 rw[D6,(j2 _).length_eq]
 unfold C6
 rw[D6]
 exact o.few
def o7 (m:Nat) (st:Int) (g:Tb) (kws:Kw) (low:Tb):Prop:=∃t,U3 m ((wsF kws).map A1i) st (lkF st g) t/\low=lkF st t
theorem o7.uniq {m:Nat} {st:Int} {g:Tb} {kws:Kw} {a b:Tb} (h:o7 m st g kws a) (k:o7 m st g kws b):a=b:=by
 obtain⟨t,h1,rfl⟩:=h
 obtain⟨u,h2,rfl⟩:=k
 rw[h1.uniq h2]
theorem o7.tab {m:Nat} {st:Int} {g:Tb} {kws:Kw} {a:Tb} (h:o7 m st g kws a):K8 m st a:=by
 obtain⟨t,h1,rfl⟩:=h
 exact C18 h1.tab
structure Kst where
 m:Nat
 st:Int
 g:Tb
 kws:Kw
 low:Tb
def kfs (m:Nat) (st:Int) (g d l:Addr):List (Str×V):=[("many",.int ((m:Nat):Int)),("full",.int st),("wanted",.ref g),("laid",.ref d),("lowest",.ref l)]
theorem A5l {m:Nat} {st:Int} {g d l:Addr}:(kfs m st g d l).lookup ("many" : Str)=some (.int ((m:Nat):Int)):=by with_unfolding_all rfl
theorem A83 {m:Nat} {st:Int} {g d l:Addr}:(kfs m st g d l).lookup ("full" : Str)=some (.int st):=by with_unfolding_all rfl
theorem B1p {m:Nat} {st:Int} {g d l:Addr}:(kfs m st g d l).lookup ("wanted" : Str)=some (.ref g):=by with_unfolding_all rfl
theorem Y8 {m:Nat} {st:Int} {g d l:Addr}:(kfs m st g d l).lookup ("laid" : Str)=some (.ref d):=by with_unfolding_all rfl
theorem B1q {m:Nat} {st:Int} {g d l:Addr}:(kfs m st g d l).lookup ("lowest" : Str)=some (.ref l):=by with_unfolding_all rfl
theorem K4 {m:Nat} {st:Int} {g d l:Addr} {f:Str} (h:(f == "many" ||f == "full" ||f == "wanted" ||f == "laid" ||f == "lowest")=false):(kfs m st g d l).lookup f=none:=by
 simp only[Bool.or_eq_false_iff] at h
 obtain⟨⟨⟨⟨h1,h2⟩,h3⟩,h4⟩,h5⟩:=h
 unfold kfs
 rw[A02,h1,A02,h2,A02,h3,A02,h4,A02,h5]
 rfl
theorem D31 {m:Nat} {st:Int} {g d l l':Addr}:Q3 "lowest" (.ref l') (kfs m st g d l)=kfs m st g d l':=by with_unfolding_all rfl
theorem D32 {m:Nat} {st st':Int} {g d l:Addr}:Q3 "full" (.int st') (kfs m st g d l)=kfs m st' g d l:=by with_unfolding_all rfl
theorem D33 {m:Nat} {st:Int} {g g' d l:Addr}:Q3 "wanted" (.ref g') (kfs m st g d l)=kfs m st g' d l:=by with_unfolding_all rfl
structure E9 (F:Addr->Prop) (C:Addr) (H:Hp) (p d:Addr) (k:Kst):Prop where
 ob:∃dx g l ug ul,H p=some (.ins C dx (kfs k.m k.st g d l))/\F g/\H g=some (.lst ug)/\B0 TT0 H ug (B4 k.g)/\F l/\H l=some (.lst ul)/\B0 TT0 H ul (B4 k.low)
 dc:∃kvs,H d=some (.dK kvs)/\N8 H kvs k.kws
theorem E9.mv {F G:Addr->Prop} {C:Addr} {H H':Hp} {p d:Addr} {k:Kst} (h:E9 F C H p d k) (s:∀b o,H b=some o->(∀xs,o=.lst xs->F b)->H' b=some o) (hF:∀b,F b->G b):E9 G C H' p d k:=by
 obtain⟨⟨dx,g,l,ug,ul,e1,g1,e2,t2,g3,e3,t3⟩,kvs,e4,kv⟩:=h
 refine⟨⟨dx,g,l,ug,ul,s _ _ e1 (λxs z=>by cases z),hF _ g1,s _ _ e2 (λ_ _=>g1),M5 t2,hF _ g3,s _ _ e3 (λ_ _=>g3),M5 t3⟩,kvs,s _ _ e4 (λxs z=>by cases z),kv.mv λb xs e=>s _ _ e (λ_ z=>by cases z)⟩
theorem B51 {t u:DS} {D:Y3} {ρ:List Sl} (M:List Sl->Prop) (h1:t { D with nx:=M } ρ) (h2:∀ρ',M ρ'->Go (u D) ρ'):A15 (B9n t) u D ρ:=⟨M,h1,h2⟩
theorem B52 {α:Type} {o:Option α} {d:α} {f:α->Prop} (h:o=some d) (q:f d):bnd o f:=by rw[h];exact q
def M8 (m:Int):PyData->Bool
 | .int k=>decide (0<=k/\k < m)
 | _=>false
def chB:PyData->Bool
 | .int k=>decide (-1000000000000000000<=k/\k<=1000000000000000000)
 | _=>false
def A01:PyData->Bool
 | .int k=>decide (1<=k/\k<=1000000000000000000)
 | _=>false
def A2d:PyData->Bool
 | .int k=>decide (0<=k/\k<=100000000000000000000)
 | _=>false
def A0i (S:Int):PyData->Bool
 | .none=>true
 | .int x=>decide (0<=x)&&decide (x<=S)
 | _=>false
def a8 (m:Nat) (S:Int):PyData->Bool
 | .list ds=>(((ds.length:Nat):Int) == ((m:Nat):Int))&&ds.all (A0i S)
 | _=>false
theorem D34 {m:Nat} {S:Int} {t:Tb} (h:K8 m S t):a8 m S (.list (B4 t))=true:=by
 unfold a8
 rw[r8]
 refine⟨by rw[W7,h.len];simp,B2d.mpr λd hd=>?_⟩
 unfold B4 at hd
 obtain⟨o,ho,rfl⟩:=Q2.mp hd
 cases o with
 | none=>rfl
 | some x=>
  obtain⟨p,hp,e⟩:=A9k.mp ho
  have b:=h.bd p x (by unfold gt;rw[P5 hp,e];rfl)
  show (decide (0<=x)&&decide (x<=S))=true
  rw[decide_eq_true b.1,decide_eq_true b.2];rfl
def D35:DSp:=λds Q=>∃(m:Int) (d:PyData),ds=[.int m,d]/\Q (.bool (M8 m d))
def D36:DSp:=λds Q=>∃(d:PyData),ds=[d]/\Q (.bool (chB d))
def D37:DSp:=λds Q=>∃(m:Int) (a b c:PyData),ds=[.int m,.tuple [a,b,c]]/\Q (.bool (M8 m a&&(M8 m b&&chB c)))
def D38:DSp:=λds Q=>∃(d:PyData),ds=[d]/\Q (.bool (A01 d))
def D39:DSp:=λds Q=>∃(d:PyData),ds=[d]/\Q (.bool (A2d d))
def D4a:DSp:=λds Q=>∃(S:Int) (d:PyData),ds=[.int S,d]/\d≠.none/\Q (.bool (A0i S d))
def D4b:DSp:=λds Q=>∃(m:Nat) (S:Int) (d:PyData),ds=[.int (m:Nat),.int S,d]/\(∀ds,d=.list ds->ds.length<=400)/\Q (.bool (a8 m S d))
def D4c:DSp:=λds Q=>∃x:Int,ds=[.int x]/\1<=x/\x<=1000000000000000000/\Q (.bool true)
def D4d:DSp:=λds Q=>∃x:Int,ds=[.int x]/\-1000000000000000000<=x/\x<=1000000000000000000/\Q (.bool true)
def D4e:DSp:=λds Q=>∃(m:Nat) (w:Wy),ds=[.int (m:Nat),M7 w]/\A82 m w/\Q (.bool true)
def D4f:DSp:=λds Q=>∃x:Int,ds=[.int x]/\0<=x/\x<=100000000000000000000/\Q (.bool true)
def D4g:DSp:=λds Q=>∃(t:Tb) (m:Nat) (st:Int),ds=[.int (m:Nat),.int st,.list (B4 t)]/\m<=400/\K8 m st t/\Q (.bool true)
theorem C2e {α:Type} (f:α->Bool):∀xs:List α,A4m (xs.map λx=>PyData.bool (f x))=some (xs.map f)
 | []=>rfl
 | x::xs=>by
  show (A4m (xs.map λx=>PyData.bool (f x))).map (f x::·)=_
  rw[C2e f xs];rfl
theorem C2f {α:Type} (f:α->Bool):∀xs:List α,(xs.map f).all id=xs.all f
 | []=>rfl
 | x::xs=>by
  show (f x&&(xs.map f).all id)=(f x&&xs.all f)
  rw[C2f f xs]
section
variable {P:Program} {w:World} {K:A4} {mg:Str->Option Value} {base:Heap}
theorem A84 {a:Addr} {d:FuncData} {lev:Nat} {ps:List Str} {ms:List Md} {sp sp':DSp} (F:B9 P w K mg base CX0 lev a d ps (spD ms sp)) (h:∀ds Q,sp' ds Q->sp ds Q):B9 P w K mg base CX0 lev a d ps (spD ms sp'):=F.imp λvs H Q E z=>by
 obtain⟨F,hand,ds,Qd,h1,h2,h3,a,h4,h5⟩:=z
 exact⟨F,hand,ds,Qd,h1,h2,h3,a,h _ _ h4,h5⟩
theorem D4h (T:Txt K mg):B9 P w K mg base CX0 2 T.ay.a T.ay.d ["many", "thing"] (spD [.sh,.sh] D35):=by
 have aO:=@A7e P w K mg base T
 have aP:=T.ah.b
 refine K0 T.ay.F C1c rfl (λC cdv A outer s H E hr=>⟨_,(E1 (F8 (A0w (F5 (B6 aO (hr.mono DD) rfl T.ah.m T.ah.F.kp aP .nil A9 (C2 (A3 (pv 1)) F4 A0) (he:=A0) (hpl:=A5))) (i7 (A6k j7 A05 B3 (A3 (pv 1)) (A3 (pv 0))))))),λds Q hl h=>?_⟩)
 obtain⟨m,d,rfl,q⟩:=h
 left
 refine⟨_,rfl,?_⟩
 cases d with
 | int k=>
  rw[show A1h (.int k)=true from rfl]
  have q:Q (.bool (decide (0<=k/\k < m))):=q
  left
  by_cases c:0<=k
  ·rw[decide_eq_true c]
   left
   rw[show decide (0<=k/\k < m)=decide (k < m) by rw[decide_eq_decide];lia] at q
   exact q
  ·rw[decide_eq_false c]
   left
   rw[decide_eq_false (OO)] at q
   exact q
 | _=>exact q
theorem B53 (T:Txt K mg):B9 P w K mg base CX0 2 T.ax.a T.ax.d ["thing"] (spD [.sh] D36):=by
 have aO:=@A7e P w K mg base T
 have aP:=T.ah.b
 refine K0 T.ax.F D0l rfl (λC cdv A outer s H E hr=>⟨_,(E1 (F8 (A0w (F5 (B6 aO (hr.mono DD) rfl T.ah.m T.ah.F.kp aP .nil A9 (C2 (A3 (pv 0)) F4 A0) (he:=A0) (hpl:=A5))) (i7 (A6k j7 j7 (Z4 (L5 S2 Z5 B3 B3)) (A3 (pv 0)) (L5 S2 Z5 B3 B3)))))),λds Q hl h=>?_⟩)
 obtain⟨d,rfl,q⟩:=h
 left
 refine⟨_,rfl,?_⟩
 cases d with
 | int k=>
  rw[show A1h (.int k)=true from rfl]
  have q:Q (.bool (decide (-1000000000000000000<=k/\k<=1000000000000000000))):=q
  left
  refine⟨⟨DD,DD,DD⟩,?_⟩
  rw[show (-(10:Int) ^ A72 18)=-1000000000000000000 from rfl]
  by_cases c:-1000000000000000000<=k
  ·rw[decide_eq_true c]
   refine J0 ⟨⟨DD,DD,DD⟩,?_⟩
   rw[show ((10:Int) ^ A72 18)=1000000000000000000 from rfl]
   rw[show decide (-1000000000000000000<=k/\k<=1000000000000000000)=decide (k<=1000000000000000000) by rw[decide_eq_decide];lia] at q
   exact q
  ·rw[decide_eq_false c]
   rw[decide_eq_false (OO)] at q
   exact E2 q
 | _=>exact q
theorem B54 (T:Txt K mg):B9 P w K mg base CX0 2 T.ak.a T.ak.d ["thing"] (spD [.sh] D38):=by
 have aO:=@A7e P w K mg base T
 have aP:=T.ah.b
 refine K0 T.ak.F D01 rfl (λC cdv A outer s H E hr=>⟨_,(E1 (F8 (A0w (F5 (B6 aO (hr.mono DD) rfl T.ah.m T.ah.F.kp aP .nil A9 (C2 (A3 (pv 0)) F4 A0) (he:=A0) (hpl:=A5))) (i7 (A6k j7 j7 B3 (A3 (pv 0)) (L5 S2 Z5 B3 B3)))))),λds Q hl h=>?_⟩)
 obtain⟨d,rfl,q⟩:=h
 left
 refine⟨_,rfl,?_⟩
 cases d with
 | int k=>
  rw[show A1h (.int k)=true from rfl]
  have q:Q (.bool (decide (1<=k/\k<=1000000000000000000))):=q
  left
  by_cases c:1<=k
  ·rw[decide_eq_true c]
   refine J0 ⟨⟨DD,DD,DD⟩,?_⟩
   rw[show ((10:Int) ^ A72 18)=1000000000000000000 from rfl]
   rw[show decide (1<=k/\k<=1000000000000000000)=decide (k<=1000000000000000000) by rw[decide_eq_decide];lia] at q
   exact q
  ·rw[decide_eq_false c]
   rw[decide_eq_false (OO)] at q
   exact E2 q
 | _=>exact q
theorem C2g (T:Txt K mg):B9 P w K mg base CX0 2 T.aI.a T.aI.d ["thing"] (spD [.sh] D39):=by
 have aO:=@A7e P w K mg base T
 have aP:=T.ah.b
 refine K0 T.aI.F D0j rfl (λC cdv A outer s H E hr=>⟨_,(E1 (F8 (A0w (F5 (B6 aO (hr.mono DD) rfl T.ah.m T.ah.F.kp aP .nil A9 (C2 (A3 (pv 0)) F4 A0) (he:=A0) (hpl:=A5))) (i7 (A6k j7 j7 B3 (A3 (pv 0)) (L5 S2 Z5 B3 B3)))))),λds Q hl h=>?_⟩)
 obtain⟨d,rfl,q⟩:=h
 left
 refine⟨_,rfl,?_⟩
 cases d with
 | int k=>
  rw[show A1h (.int k)=true from rfl]
  have q:Q (.bool (decide (0<=k/\k<=100000000000000000000))):=q
  left
  by_cases c:0<=k
  ·rw[decide_eq_true c]
   refine J0 ⟨⟨DD,DD,DD⟩,?_⟩
   rw[show ((10:Int) ^ A72 20)=100000000000000000000 from rfl]
   rw[show decide (0<=k/\k<=100000000000000000000)=decide (k<=100000000000000000000) by rw[decide_eq_decide];lia] at q
   exact q
  ·rw[decide_eq_false c]
   rw[decide_eq_false (OO)] at q
   exact E2 q
 | _=>exact q
theorem C2h (T:Txt K mg):B9 P w K mg base CX0 3 T.aZ.a T.aZ.d ["many", "thing"] (spD [.sh,.sh] D37):=by
 have cN:=@D4h P w K mg base T
 have cO:=T.ay.b
 have cj:=@B53 P w K mg base T
 have ck:=T.ax.b
 refine K0 T.aZ.F D0m rfl (λC cdv A outer s H E hr=>⟨_,(@M6 _ _ _ _ _ _ (@U0 _ _ _ _ _ _ _ _ _ (PW.pt (@A33 _ _ _ _ _ _ _ _ (B0g (A30 (B0k C7k (G8 B0e rfl T.az A0u (A1 (pv 1) (A1 (A9x (v:=V.ty "tuple") rfl T.eG B8t rfl) A6 A0) A0) (he:=A0) (hpl:=(A7 A0 A5)))))) (A6h (O0 (A08 (M3 hr)) A0x (A0z (G8 Y1 rfl T.bi W0 (A1 (pv 1) A6 A0) (he:=A0) (hpl:=A5))) B3 (E4 _))))) (E1 (F8 A2y)) T9) (@E1 _ _ _ _ (@F8 _ _ _ _ _ (@A0w _ _ _ _ _ _ _ _ (F5 (B6 cN (hr.mono DD) rfl T.ay.m T.ay.F.kp cO .nil A9 (C2 (A3 (pv 0)) (C2 (D8 (pv 1) (E8 (D2 (v:=V.int 0) rfl T.g_START.m ⟨_,rfl⟩)) (λ_ _=>rfl)) F4 C1) A0) (he:=A0) (hpl:=(A7 C1 A5)))) (@A0w _ _ _ _ _ _ _ _ (F5 (B6 cN (hr.mono DD) rfl T.ay.m T.ay.F.kp cO .nil A9 (C2 (A3 (pv 0)) (C2 (D8 (pv 1) (E8 (D2 (v:=V.int 1) rfl T.g_END.m ⟨_,rfl⟩)) (λ_ _=>rfl)) F4 C1) A0) (he:=A0) (hpl:=(A7 C1 A5)))) (i7 (F5 (B6 cj (hr.mono DD) rfl T.ax.m T.ax.F.kp ck .nil A9 (C2 (D8 (pv 1) (E8 (D2 (v:=V.int 2) rfl T.g_CHANGE.m ⟨_,rfl⟩)) (λ_ _=>rfl)) F4 C1) (he:=C1) (hpl:=A5))))))))),λds Q hl h=>?_⟩)
 obtain⟨m,a,b,c,rfl,q⟩:=h
 left
 refine E2 ⟨rfl,rfl,A3g _ _,?_⟩
 rw[A2c]
 refine E2 ?_
 refine go ?_;left
 refine⟨m,a,rfl,?_⟩
 cases hp:M8 m a with
 | false=>
  rw[hp] at q
  exact q
 | true=>
  rw[hp] at q
  left
  refine⟨m,b,rfl,?_⟩
  cases hp2:M8 m b with
  | false=>
   rw[hp2] at q
   exact q
  | true=>
   rw[hp2] at q
   left
   exact⟨c,rfl,q⟩
theorem D4i (T:Txt K mg):B9 P w K mg base CX0 2 T.bI.a T.bI.d ["store", "thing"] (spD [.sh,.sh] D4a):=by
 have aO:=@A7e P w K mg base T
 have aP:=T.ah.b
 refine K0 T.bI.F D0k rfl (λC cdv A outer s H E hr=>⟨_,(E1 (F8 (A0w (F5 (B6 aO (hr.mono DD) rfl T.ah.m T.ah.F.kp aP .nil A9 (C2 (A3 (pv 1)) F4 A0) (he:=A0) (hpl:=A5))) (i7 (A6k j7 j7 B3 (A3 (pv 1)) (A3 (pv 0))))))),λds Q hl h=>?_⟩)
 obtain⟨S,d,rfl,hd,q⟩:=h
 left
 refine⟨d,rfl,?_⟩
 cases d with
 | int x=>
  rw[show A1h (.int x)=true from rfl]
  left
  rw[show A0i S (.int x)=(decide (0<=x)&&decide (x<=S)) from rfl] at q
  cases e:decide (0<=x) with
  | true=>
   rw[e,Bool.true_and] at q
   exact q
  | false=>
   rw[e] at q
   exact q
 | none=>exact absurd rfl hd
 | _=>exact q
theorem B55 (T:Txt K mg):B9 P w K mg base CX0 3 T.aj.a T.aj.d ["many", "store", "thing"] (spD [.sh,.sh,.sh] D4b):=by
 have fU:=@D4i P w K mg base T
 have fV:=T.bI.b
 refine K0 T.aj.F D0p rfl (λC cdv A outer s H E hr=>⟨_,(@G1 _ _ _ _ _ _ (@U0 _ _ _ _ _ _ _ _ _ (PW.pt (@A33 _ _ _ _ _ _ _ _ (B0g (A30 (B0k C7j (G8 B0e rfl T.az A0u (A1 (pv 2) (A1 (A9x (v:=V.ty "list") rfl T.bO A0t rfl) A6 A0) A0) (he:=A0) (hpl:=(A7 A0 A5)))))) (A6h (O0 (A08 (M3 hr)) A0x (A0z (G8 Y1 rfl T.bi W0 (A1 (pv 2) A6 A0) (he:=A0) (hpl:=A5))) (A3 (pv 0)) (E4 _))))) (E1 (F8 A2y)) T9) (@E1 _ _ _ _ (@F8 _ _ _ _ _ (@A0c _ _ _ _ _ _ C7c (@G8 _ _ _ _ _ _ _ _ _ (C6g rfl) rfl T.gQ C6j (@A2 _ _ _ _ _ _ (@C7 _ _ _ _ (@A43 _ _ _ _ _ _ _ _ rfl (@Z3 _ _ _ _ _ _ _ _ _ _ _ _ _ _ _ (Q5.new (N:=["many", "store", "thing"]) (osc:=B8 B01) KK) rfl (A6m (pv 2)) (λ_=>A6n) (λ_=>(B0h (A0v y9 A0y (A3 (pv 3)) N2 (E4 _)) (i7 (F5 (B6 fU (hr.mono DD) rfl T.bI.m T.bI.F.kp fV .nil A9 (C2 (A3 (pv 1)) (C2 (A3 (pv 3)) F4 A0) A0) (he:=A0) (hpl:=(A7 A0 A5))))))) (by rfl) (by rfl) (by intro _;rfl)))) B5 A09) DD DD A09 A5))))),λds Q hl h=>?_⟩)
 obtain⟨m,S,d,rfl,hT,q⟩:=h
 cases d with
 | list ds=>
  have hl2:=hT ds rfl
  left
  rw[if_neg (DD)]
  refine⟨rfl,rfl,A3g _ _,?_⟩
  rw[A2c]
  rw[show a8 m S (.list ds)=((((ds.length:Nat):Int) == ((m:Nat):Int))&&ds.all (A0i S)) from rfl] at q
  cases e:(((ds.length:Nat):Int) == ((m:Nat):Int)) with
  | false=>
   rw[e] at q
   left
   exact q
  | true=>
   rw[e,Bool.true_and] at q
   array_mem_dec
   refine⟨⟨rfl,OO⟩,?_⟩
   rw[show ds=ds.map id by simp]
   refine A62 (f:=λd=>.bool (A0i S d)) (λd hd Q' q'=>?_) ?_
   ·cases d with
    | none=>
     left
     exact q'
    | _=>
     left
     exact⟨S,_,rfl,(λz=>nomatch z),q'⟩
   rw[Z1]
   unfold gBs
   left
   rw[C2e]
   left
   rw[C2f]
   exact q
 | _=>
  left
  rw[if_pos (DD)]
  exact q
theorem C2i (T:Txt K mg):B9 P w K mg base CX0 2 T.ak.a T.ak.d ["thing"] (spD [.sh] D4c):=A84 (B54 T) λds Q z=>by
 obtain⟨x,rfl,x0,x1,q⟩:=z
 exact⟨_,rfl,by rw[show A01 (.int x)=true from decide_eq_true ⟨x0,x1⟩];exact q⟩
theorem D4j (T:Txt K mg):B9 P w K mg base CX0 2 T.ax.a T.ax.d ["thing"] (spD [.sh] D4d):=A84 (B53 T) λds Q z=>by
 obtain⟨x,rfl,x0,x1,q⟩:=z
 exact⟨_,rfl,by rw[show chB (.int x)=true from decide_eq_true ⟨x0,x1⟩];exact q⟩
theorem D4k (T:Txt K mg):B9 P w K mg base CX0 2 T.aI.a T.aI.d ["thing"] (spD [.sh] D4f):=A84 (C2g T) λds Q z=>by
 obtain⟨x,rfl,x0,x1,q⟩:=z
 exact⟨_,rfl,by rw[show A2d (.int x)=true from decide_eq_true ⟨x0,x1⟩];exact q⟩
theorem D4l (T:Txt K mg):B9 P w K mg base CX0 3 T.aZ.a T.aZ.d ["many", "thing"] (spD [.sh,.sh] D4e):=A84 (C2h T) λds Q z=>by
 obtain⟨m,w,rfl,ow,q⟩:=z
 have h1:=ow.st
 have h2:=ow.en
 refine⟨_,_,_,_,rfl,?_⟩
 rw[show M8 ((m:Nat):Int) (.int ((w.1:Nat):Int))=true from decide_eq_true ⟨OO,OO⟩,show M8 ((m:Nat):Int) (.int ((w.2.1:Nat):Int))=true from decide_eq_true ⟨OO,OO⟩,show chB (.int w.2.2)=true from decide_eq_true ⟨ow.lo,ow.hi⟩]
 exact q
theorem C2j (T:Txt K mg):B9 P w K mg base CX0 3 T.aj.a T.aj.d ["many", "store", "thing"] (spD [.sh,.sh,.sh] D4g):=A84 (B55 T) λds Q z=>by
 obtain⟨t,m,st,rfl,hm,ht,q⟩:=z
 refine⟨m,st,_,rfl,λds e=>?_,?_⟩
 ·cases e
  rw[W7,ht.len];exact hm
 ·rw[D34 ht];exact q
end
theorem E9.same {F:Addr->Prop} {C:Addr} {H H':Hp} {p d:Addr} {k:Kst} (h:E9 F C H p d k) (s:Same H H'):E9 F C H' p d k:=h.mv (λb o e _=>s _ _ e) λ_ z=>z
def TL (H:Hp) (v:V) (b:Addr):Prop:=v=.ref b\/∃a xs,v=.ref a/\H a=some (.tup xs)/\V.ref b∈xs
def Apt (C:Addr) (H:Hp) (p d:Addr) (k:Kst) (v:V):Prop:=(∀a x y,v=.ref a->H a=some (.tup [.ref x,.ref y])->x≠y)/\E9 (λb=>¬ TL H v b) C H p d k
theorem E9.ex {F:Addr->Prop} {C:Addr} {H:Hp} {p d:Addr} {k:Kst} (h:E9 F C H p d k):E9 (λb=>∃xs,H b=some (.lst xs)) C H p d k:=by
 obtain⟨⟨dx,g,l,ug,ul,e1,g1,e2,t2,g3,e3,t3⟩,z⟩:=h
 exact⟨⟨dx,g,l,ug,ul,e1,⟨_,e2⟩,e2,t2,⟨_,e3⟩,e3,t3⟩,z⟩
theorem A7i {G G':Addr->Prop} {C:Addr} {H:Hp} {p d:Addr} {k:Kst} (h:E9 G C H p d k) (n:∀b xs,G b->H b=some (.lst xs)->G' b):E9 G' C H p d k:=by
 obtain⟨⟨dx,g,l,ug,ul,e1,g1,e2,t2,g3,e3,t3⟩,z⟩:=h
 exact⟨⟨dx,g,l,ug,ul,e1,n _ _ g1 e2,e2,t2,n _ _ g3 e3,e3,t3⟩,z⟩
section
variable {G:Addr->Prop} {C:Addr} {H H0:Hp} {p d:Addr} {k:Kst} {a:Addr}
theorem D4m {i:Int} (h:E9 G C H p d k):Apt C H p d k (.int i):=⟨(λa x y e _=>by cases e),A7i h λb xs _ _ z=>by
 rcases z with z | ⟨_,_,z,_⟩ <;> cases z⟩
theorem B56 {xs:List V} (h:E9 (λb=>∃xs,H0 b=some (.lst xs)) C H p d k) (n:H0 a=none) (e:H a=some (.lst xs)):Apt C H p d k (.ref a):=⟨(λb x y e1 e2=>by
 cases e1
 rw[e] at e2;cases e2),A7i h λb xs g _ z=>by
 obtain⟨ys,g⟩:=g
 rcases z with z | ⟨_,_,z,z2,_⟩
 ·cases z
  rw[n] at g;cases g
 ·cases z
  rw[e] at z2;cases z2⟩
theorem D4n {i:Int} {l:Addr} (h:E9 (λb=>∃xs,H0 b=some (.lst xs)) C H p d k) (n:H0 a=none) (n2:H0 l=none) (e:H a=some (.tup [.int i,.ref l])):Apt C H p d k (.ref a):=⟨(λb x y e1 e2=>by
 cases e1
 rw[e] at e2;cases e2),A7i h λb xs g _ z=>by
 obtain⟨ys,g⟩:=g
 rcases z with z | ⟨_,_,z,z2,z3⟩
 ·cases z
  rw[n] at g;cases g
 ·cases z
  rw[e] at z2;cases z2
  rcases J8.mp z3 with z | z
  ·cases z
  ·cases j5.mp z
   rw[n2] at g;cases g⟩
theorem D4o {F:Addr->Prop} {v:V} {w:Wy} (h:E9 G C H p d k) (t:ThV F H v (M7 w)):Apt C H p d k v:=by
 obtain⟨a,us,rfl,_,e,tu⟩:=A1b (show ThV F H v (.tuple ([((w.1:Nat):Int),((w.2.1:Nat):Int),w.2.2].map PyData.int)) from t)
 have hu:∀{xs:List Int} {us:List V},B0 F H us (xs.map PyData.int)->∀b,V.ref b∉us:=λ{xs}=>by
  induction xs with
  | nil=>intro us t b z;cases t;cases z
  | cons x xs ih=>
   intro us t b z
   cases t with
   | cons y r=>
    cases y
    rcases J8.mp z with z | z
    ·cases z
    ·exact ih r b z
 refine⟨λb x y e1 e2=>?_,A7i h λb xs _ eb z=>?_⟩
 ·cases e1
  rw[e] at e2
  cases e2
  exact absurd D4 (hu tu x)
 ·rcases z with z | ⟨_,_,z,z2,z3⟩
  ·cases z
   rw[e] at eb;cases eb
  ·cases z
   rw[e] at z2;cases z2
   exact hu tu b z3
end
def A0j (C:Addr) (pre:Kst->List PyData->Prop) (post:Kst->List PyData->PyData->Kst->Prop):Sp:=λvs H Q _=>∃(F:Addr->Prop) (p d:Addr) (k:Kst) (us:List V) (ds:List PyData),vs=.ref p::us/\(∀b,H b=none->F b)/\E9 F C H p d k/\B0 TT0 H us ds/\pre k ds/\
 ∀r v k' H',post k ds r k'->E9 F C H' p d k'->ThV (O1 H) H' v r->(∀b o,H b=some o->b≠p->b≠d->H' b=some o)->Apt C H' p d k' v->Q v H'
def D4p (k:Kst) (ds:List PyData):Prop:=ds=[]/\(C6 k.kws).length < 64
def D4q (k:Kst) (_:List PyData) (r:PyData) (k':Kst):Prop:=r=L8 k.m (wsF k.kws)/\k'=k
def B57 (k:Kst) (ds:List PyData):Prop:=ds=[]
def D4r (k:Kst) (_:List PyData) (r:PyData) (k':Kst):Prop:=r=.list (B4 k.low)/\k'=k
def A85 (a b:Tb):PyData:=.tuple [.list (numL (A5i b a)),.list (numL (A5i a b))]
def B1r (k:Kst) (low:Tb) (r:PyData) (k':Kst):Prop:=∃b,o7 k.m k.st k.g k.kws b/\r=A85 low b/\k'={ k with low:=b }
def D4s (k:Kst) (ds:List PyData):Prop:=ds=[]/\KOk k.m k.st k.g k.kws/\k.low.length=k.m
def D4t (k:Kst) (_:List PyData) (r:PyData) (k':Kst):Prop:=B1r k k.low r k'
section
variable {P:Program} {w:World} {K:A4} {mg:Str->Option Value} {base:Heap}
theorem B1s (T:Txt K mg):B9 P w K mg base CX0 1 T.aY.a T.aY.d ["self"] (A0j T.aa D4p D4q):=by
 refine T.aY.F.ok D06 (λvs H Q E h=>?_) (λcdv A outer s H vs Q E hr h=>?_)
 ·obtain⟨F,p,d,k,us,ds,rfl,_,_,tus,⟨rfl,_⟩,_⟩:=h
  cases tus;rfl
 ·obtain⟨F,p,d,k,us,ds,rfl,hF,kp,tus,⟨rfl,hk⟩,told⟩:=h
  cases tus
  have kp0:=kp
  obtain⟨⟨dx,g,l,ug,ul,e1,g1,e2,t2,g3,e3,t3⟩,kvs,e4,kv⟩:=kp
  refine⟨_,(D1 (G6 (V0 (A1 (L1 (pv 0) rfl) (A1 (Z3 (Q5.new (N:=["self"]) (osc:=B8 B08) KK) rfl (A0p (G8 (A8t rfl) rfl T.cF A8e (A1 (L1 (pv 0) rfl) A6 G4) (he:=G4) (hpl:=A5))) (λ_=>A10) (λ_=>(A19 (u1 (M3 hr)) (L1 (pv 0) rfl) (pv 1) (λ_ _=>rfl)))) A6 A09) G4)))),?_⟩
  refine⟨_,rfl,p,_,dx,_,_,rfl,e1,T.ac,T.cf,A5l,?_⟩
  refine⟨_,rfl,p,_,dx,_,_,rfl,e1,T.ac,T.aF,Y8,d,kvs,_,rfl,e4,kv.keys,hk,λl1 ms hl1 hp hs=>?_⟩
  have ems:=A7h hp hs
  subst ems
  obtain⟨H1,hH1⟩:∃H1,H1=upd H l1 (.lst ((srt (C6 k.kws)).map V.int)):=⟨_,rfl⟩
  rw[<-hH1]
  have s1:Same H H1:=by rw[hH1];exact Same.upd hl1
  have el1:H1 l1=some (.lst ((srt (C6 k.kws)).map V.int)):=by rw[hH1];exact B2
  have lsr:(srt (C6 k.kws)).length < 64:=by rw[(j2 _).length_eq];exact hk
  refine⟨l1,rfl,⟨_,SqL.of el1⟩,?_⟩
  refine A3y (xs:=(srt (C6 k.kws)).map V.int) (λi ys Hn=>Hn=H1/\B0 (O1 H) H1 ys (((wsF k.kws).take i).map M7)) ?_ ⟨rfl,.nil⟩ ?_ ?_ ?_
  ·rw[D6,sizeLine_eq];lia
  ·rintro i ys Hn hi ⟨rfl,h2⟩
   refine⟨?_,SqL.of el1⟩
   rw[h2.len,D6,Z0]
   lia
  ·rintro i x ys Hn hx ⟨rfl,h2⟩ ca
   rw[S0] at hx
   obtain⟨n,hn,rfl⟩:=A55.mp hx
   obtain⟨w0,hw0⟩:=A1j ((j2 _).mem_iff.mp (X1 hn))
   have hwi:(wsF k.kws)[i]?=some w0:=by
    unfold wsF
    rw[S0,hn,A3s,hw0];rfl
   rcases kv.val n with ⟨_,z⟩ | ⟨v0,w1,hv,hw1,tv⟩
   ·rw[hw0] at z;cases z
   rw[hw0] at hw1
   cases hw1
   unfold A1z
   refine J0 ⟨_,rfl,p,_,dx,_,_,rfl,s1 _ _ e1,T.ac,T.aF,Y8,_,rfl,d,v0,rfl,by rw[<-hv];exact U6.k (k:=Sum.inl n) (s1 _ _ e4),rfl,?_⟩
   rw[A54,hwi,V3]
   exact h2.append (.cons (A5j tv (λb xs e=>s1 _ _ e) λb xs e=>.inr ⟨xs,e⟩) .nil)
  rintro ys Hn ⟨rfl,h2⟩ l2 hl2
  have lw:(wsF k.kws).length=(srt (C6 k.kws)).length:=by unfold wsF;rw[D6]
  rw[D6,<-lw,A71] at h2
  refine⟨by show 2<=sizeLine;decide,λr hr'=>?_⟩
  have s2:Same Hn (upd Hn l2 (.lst ys)):=Same.upd hl2
  have s3:Same (upd Hn l2 (.lst ys)) _:=Same.upd (o:=.tup [.int ((k.m:Nat):Int),.ref l2]) hr'
  have s13:=(s1.tr s2).tr s3
  refine told _ _ k _ ⟨rfl,rfl⟩ (kp0.same s13) (.tup (.inl ((s1.tr s2).early hr')) B2 (.cons (.int _) (.cons (.lst (.inl (s1.early hl2)) (s3 _ _ B2) ((h2.keep s2).keep s3)) .nil))) (λb o e _ _=>s13 _ _ e) (D4n (kp0.ex.same s13) ((s1.tr s2).early hr') (s1.early hl2) B2)
theorem B58 (T:Txt K mg):B9 P w K mg base CX0 1 T.aU.a T.aU.d ["self"] (A0j T.aa B57 D4r):=by
 refine T.aU.F.ok D07 (λvs H Q E h=>?_) (λcdv A outer s H vs Q E hr h=>?_)
 ·obtain⟨F,p,d,k,us,ds,rfl,_,_,tus,rfl,_⟩:=h
  cases tus;rfl
 ·obtain⟨F,p,d,k,us,ds,rfl,hF,kp,tus,rfl,told⟩:=h
  cases tus
  have kp0:=kp
  obtain⟨⟨dx,g,l,ug,ul,e1,g1,e2,t2,g3,e3,t3⟩,kvs,e4,kv⟩:=kp
  refine⟨_,(D1 (G6 (j9 A1y rfl T.bO A0t (A1 (L1 (pv 0) rfl) A6 G4) (he:=G4) (hpl:=A5)))),?_⟩
  refine⟨_,rfl,p,_,dx,_,_,rfl,e1,T.ac,T.bR,B1q,l,ul,rfl,.inl (SqL.of e3),λl2 hl2=>?_⟩
  exact told _ _ k _ ⟨rfl,rfl⟩ (kp0.same (Same.upd hl2)) (.lst (.inl hl2) B2 (M5 t3)) (λb o e _ _=>Same.upd hl2 _ _ e) (B56 (kp0.ex.same (Same.upd hl2)) hl2 B2)
end
theorem Q6 {F:Addr->Prop} {C:Addr} {H:Hp} {p d:Addr} {k:Kst} (h:E9 F C H p d k) {b:Addr} {xs:List V} (e:H b=some (.lst xs)):b≠p/\b≠d:=by
 obtain⟨⟨dx,g,l,ug,ul,e1,_⟩,kvs,e4,_⟩:=h
 exact⟨(λz=>by rw[z,e1] at e;cases e),λz=>by rw[z,e4] at e;cases e⟩
theorem R8 {F:Addr->Prop} {C:Addr} {H:Hp} {p d:Addr} {k:Kst} (h:E9 F C H p d k) {b:Addr} {xs:List V} (e:H b=some (.tup xs)):b≠p/\b≠d:=by
 obtain⟨⟨dx,g,l,ug,ul,e1,_⟩,kvs,e4,_⟩:=h
 exact⟨(λz=>by rw[z,e1] at e;cases e),λz=>by rw[z,e4] at e;cases e⟩
theorem A1k {F:Addr->Prop} {C:Addr} {H:Hp} {p d:Addr} {k:Kst} (h:E9 F C H p d k):p≠d/\H p≠none/\H d≠none:=by
 obtain⟨⟨dx,g,l,ug,ul,e1,_⟩,kvs,e4,_⟩:=h
 exact⟨(λz=>by rw[z,e4] at e1;cases e1),(λz=>by rw[z] at e1;cases e1),λz=>by rw[z] at e4;cases e4⟩
section
variable {P:Program} {w:World} {K:A4} {mg:Str->Option Value} {base:Heap}
theorem A1l (T:Txt K mg):B9 P w K mg base CX0 10 T.ai.a T.ai.d ["self"] (A0j T.aa D4s D4t):=by
 have cw:=@B1s P w K mg base T
 have cx:=T.aY.b
 have dh:=@B50 P w K mg base T
 have dj:=T.bw.b
 have dk:=@D3z P w K mg base T
 have dl:=T.aD.b
 refine T.ai.F.ok C1m (λvs H Q E h=>?_) (λcdv A outer s H vs Q E hr h=>?_)
 ·obtain⟨F,p,d,k,us,ds,rfl,_,_,tus,⟨rfl,_⟩,_⟩:=h
  cases tus;rfl
 ·obtain⟨F,p,d,k,us,ds,rfl,hF,kp,tus,⟨rfl,ok,hll⟩,told⟩:=h
  cases tus
  have kp0:=kp
  obtain⟨⟨dx,g,l,ug,ul,e1,g1,e2,t2,g3,e3,t3⟩,kvs,e4,kv⟩:=kp
  have fk:=ok.few
  have m2:=ok.m2
  have s1k:=ok.s1
  have lk:(C6 k.kws).length < 64:=by unfold C6;rw[D6];lia
  refine⟨_,(C0 (C4 (i:=1) C1m.nd rfl (B7 rfl) (L1 (pv 0) rfl))
   (C0 (A06 (pv 0) (B6 dh (hr.mono DD) rfl (T.ci.trans T.bw.m) T.bw.F.kp dj .nil A9 (A1 (O5 (pv 0) T.ac T.aY.m cw (hr.mono DD) cx .nil A9) (A1 (L1 (pv 0) rfl) (A1 (L1 (pv 0) rfl) A6 G4) G4) D5) (he:=D5) (hpl:=(A7 G4 (A7 G4 A5)))) rfl)
   (D1 (G6 (V0 (A1 (B6 dk (hr.mono DD) rfl T.aD.m T.aD.F.kp dl .nil A9 (A1 (L1 (pv 0) rfl) (A1 (pv 1) A6 A0) G4) (he:=G4) (hpl:=(A7 A0 A5))) (A1 (B6 dk (hr.mono DD) rfl T.aD.m T.aD.F.kp dl .nil A9 (A1 (pv 1) (A1 (L1 (pv 0) rfl) A6 G4) A0) (he:=A0) (hpl:=(A7 G4 A5))) A6 D5) D5)))))),?_⟩
  try dsimp only[O6,Cx.nox]
  refine j0 λW hW=>?_
  refine⟨_,rfl,p,_,dx,_,_,rfl,e1,T.ac,T.bR,B1q,?_⟩
  refine @K1 W _ _ _ _ _ hW λW hW=>?_
  refine⟨_,rfl,p,dx,_,rfl,e1,K4 KK,F,p,d,k,[],[],rfl,hF,kp0,.nil,⟨rfl,lk⟩,λr v k' H1 po kp1 tv fr _=>?_⟩
  obtain⟨rfl,rfl⟩:=po
  have kp1':=kp1
  obtain⟨⟨dx1,g',l',ug',ul',f1,gg1,f2,tt2,gg3,f3,tt3⟩,kvs',f4,kv'⟩:=kp1
  have n3:=Q6 kp0 e3
  have e3':=fr _ _ e3 n3.1 n3.2
  refine⟨_,rfl,p,_,dx1,_,_,rfl,f1,T.ac,T.cy,A83,_,rfl,p,_,dx1,_,_,rfl,f1,T.ac,T.bQ,B1p,?_⟩
  refine⟨[L8 k'.m (wsF k'.kws),.int k'.st,.list (B4 k'.g)],(λd=>∃t,U3 k'.m ((wsF k'.kws).map A1i) k'.st (lkF k'.st k'.g) t/\d=.list (B4 (lkF k'.st t))),.cons tv.any (.cons (.int _) (.cons (.lst trivial f2 tt2) .nil)),⟨k'.m,wsF k'.kws,k'.st,k'.g,rfl,ok.land,ok.s0,OO,ok.gt,λt ht=>⟨t,ht,rfl⟩⟩,λd' v2 H2 hd' t2' s2=>?_⟩
  obtain⟨t,ht,rfl⟩:=hd'
  obtain⟨ln,un,rfl,gn,en,tn⟩:=P8 t2'
  have lnn:H1 ln=none:=A81 s2 gn en
  refine⟨_,rfl,p,_,dx1,_,rfl,s2 _ _ f1,T.ac,T.bR,by show 5 < 1000;decide,?_⟩
  rw[D31]
  obtain⟨H3,hH3⟩:∃H3,H3=upd H2 p (.ins T.aa dx1 (kfs k'.m k'.st g' d ln)):=⟨_,rfl⟩
  rw[<-hH3]
  have f3':∀b o,H2 b=some o->b≠p->H3 b=some o:=λb o e n=>by rw[hH3,B1 n];exact e
  have pd:=A1k kp1'
  have np:∀{b:Addr} {xs:List V},H2 b=some (.lst xs)->H3 b=some (.lst xs):=λ{b xs} e=>f3' _ _ e λz=>by rw[z,s2 _ _ f1] at e;cases e
  have lb:o7 k'.m k'.st k'.g k'.kws (lkF k'.st t):=⟨t,ht,rfl⟩
  have kpF:E9 F T.aa H3 p d { k' with low:=lkF k'.st t }:=by
   refine⟨⟨dx1,g',ln,ug',un,by rw[hH3];exact B2,gg1,np (s2 _ _ f2),M5 tt2,hF _ ?_,np en,M5 tn⟩,kvs',f3' _ _ (s2 _ _ f4) pd.1.symm,kv'.mv λb xs e=>f3' _ _ (s2 _ _ e) (R8 kp1' e).1⟩
   cases z:H ln with
   | none=>rfl
   | some o=>
    by_cases c1:ln=p
    ·rw[c1,s2 _ _ f1] at en;cases en
    ·by_cases c2:ln=d
     ·rw[c2,s2 _ _ f4] at en;cases en
     ·rw[fr _ _ z c1 c2] at lnn;cases lnn
  have eH3p:H3 p=some (.ins T.aa dx1 (kfs k'.m k'.st g' d ln)):=by rw[hH3];exact B2
  have lt:=lb.tab.len
  subst hW
  refine⟨_,rfl,p,_,dx1,_,_,rfl,eH3p,T.ac,T.bR,B1q,_,rfl,[.list (B4 (lkF k'.st t)),.list (B4 k'.low)],(λd=>d=.list (numL (A5i (lkF k'.st t) k'.low))),.cons (.lst trivial (np en) (M5 tn)) (.cons (.lst trivial (np (s2 _ _ e3')) (M5 t3)) .nil),⟨_,_,rfl,by rw[lt,hll],OO,rfl⟩,λd' v4 H4 hd' t4 s4=>?_⟩
  subst hd'
  refine⟨_,rfl,_,rfl,p,_,dx1,_,_,rfl,s4 _ _ eH3p,T.ac,T.bR,B1q,[.list (B4 k'.low),.list (B4 (lkF k'.st t))],(λd=>d=.list (numL (A5i k'.low (lkF k'.st t)))),.cons (.lst trivial (s4 _ _ (np (s2 _ _ e3'))) (M5 t3)) (.cons (.lst trivial (s4 _ _ (np en)) (M5 tn)) .nil),⟨_,_,rfl,by rw[lt,hll],OO,rfl⟩,λd' v5 H5 hd' t5 s5=>?_⟩
  subst hd'
  refine⟨by show 2<=sizeLine;decide,λrr hrr=>?_⟩
  have s6:Same H5 (upd H5 rr (.tup [v4,v5])):=Same.upd hrr
  have s36:=(s4.tr s5).tr s6
  have fr3:∀b o,H b=some o->b≠p->b≠d->H3 b=some o:=λb o e n1 n2=>f3' _ _ (s2 _ _ (fr _ _ e n1 n2)) n1
  have new3:∀b,O1 H3 b->O1 H b:=λb hb=>by
   rcases hb with hb | ⟨xs,hb⟩
   ·cases z:H b with
    | none=>exact .inl z
    | some o=>
     by_cases c1:b=p
     ·rw[c1,eH3p] at hb;cases hb
     ·by_cases c2:b=d
      ·rw[c2,f3' _ _ (s2 _ _ f4) pd.1.symm] at hb;cases hb
      ·rw[fr3 _ _ z c1 c2] at hb;cases hb
   ·cases z:H b with
    | none=>exact .inl z
    | some o=>
     by_cases c1:b=p
     ·rw[c1,eH3p] at hb;cases hb
     ·by_cases c2:b=d
      ·rw[c2,f3' _ _ (s2 _ _ f4) pd.1.symm] at hb;cases hb
      ·have:=fr3 _ _ z c1 c2
       rw[hb] at this
       cases this
       exact .inr ⟨xs,z⟩
  refine told _ _ _ _ ⟨lkF k'.st t,lb,rfl,rfl⟩ (kpF.same s36) (.tup (new3 _ (.inl ((s4.tr s5).early hrr))) B2 (.cons (((t4.mv λb o z e=>⟨new3 _ z,e⟩).keep s5).keep s6) (.cons ((t5.mv λb o z e=>⟨new3 _ (C2a s4 z),e⟩).keep s6) .nil))) (λb o e n1 n2=>s36 _ _ (fr3 _ _ e n1 n2)) ⟨λa x y z1 z2=>?_,A7i (kpF.ex.same s36) λb xs g _ z=>?_⟩
  ·cases z1
   rw[B2] at z2
   cases z2
   obtain⟨_,_,ex,_,ex1,_⟩:=P8 t4
   cases ex
   obtain⟨_,_,ey,gy,ey1,_⟩:=P8 t5
   cases ey
   have:=A81 s5 gy ey1
   intro z
   rw[<-z,ex1] at this
   cases this
  ·obtain⟨ys,g⟩:=g
   rcases z with z | ⟨_,_,z,z2,z3⟩
   ·cases z
    rw[(s4.tr s5).early hrr] at g;cases g
   ·cases z
    rw[B2] at z2
    cases z2
    rcases J8.mp z3 with z | z
    ·obtain⟨_,_,ex,gx,ex1,_⟩:=P8 t4
     rw[<-z] at ex
     cases ex
     rw[A81 s4 gx ex1] at g;cases g
    ·have z:=j5.mp z
     obtain⟨_,_,ey,gy,ey1,_⟩:=P8 t5
     rw[<-z] at ey
     cases ey
     have:=A81 s5 gy ey1
     rw[s4 _ _ g] at this;cases this
end
inductive V2
 | lay (x:Int) (w:Wy)
 | lift (x:Int)
 | turn (x c:Int)
 | refill (s:Int)
 | aim (g:Tb)
def V2.args:V2->List PyData
 | .lay x w=>[.int x,.int ((w.1:Nat):Int),.int ((w.2.1:Nat):Int),.int w.2.2]
 | .lift x=>[.int x]
 | .turn x c=>[.int x,.int c]
 | .refill s=>[.int s]
 | .aim g=>[.list (B4 g)]
def A5m (kws:Kw) (x c:Int):Wy:=(((D7 kws x).getD (0,0,0)).1,((D7 kws x).getD (0,0,0)).2.1,c)
def S5 (k:Kst):V2->Kst
 | .lay x w=>{ k with kws:=W8 k.kws x w }
 | .lift x=>{ k with kws:=W9 k.kws x }
 | .turn x c=>{ k with kws:=W8 k.kws x (A5m k.kws x c) }
 | .refill s=>{ k with st:=s }
 | .aim g=>{ k with g:=g }
def T0 (x:Int):Prop:=1<=x/\x<=1000000000000000000
def A7j (k:Kst):V2->Prop
 | .lay x w=>T0 x/\D7 k.kws x=none/\A82 k.m w/\k.kws.length < 40
 | .lift x=>T0 x/\∃w,D7 k.kws x=some w
 | .turn x c=>(T0 x/\∃w,D7 k.kws x=some w)/\-1000000000000000000<=c/\c<=1000000000000000000
 | .refill s=>(0<=s/\s<=100000000000000000000)/\K8 k.m s k.g
 | .aim g=>K8 k.m k.st g
theorem A7k {kws:Kw} {x:Int} {w:Wy} (h:D7 kws x=none):W8 kws x w=kws++[(x,w)]:=by
 unfold W8
 rw[if_neg]
 intro z
 rw[List.any_eq_true] at z
 obtain⟨q,hq,e⟩:=z
 have e:q.1=x:=by simpa using e
 obtain⟨w',hw'⟩:=A1j (kws:=kws) (k:=x) (by unfold C6;exact Q2.mpr ⟨q,hq,e⟩)
 rw[h] at hw';cases hw'
theorem A86 {kws:Kw} {x:Int} {w w0:Wy} (h:D7 kws x=some w0):W8 kws x w=kws.map λq=>if q.1=x then (q.1,w) else q:=by
 unfold W8
 rw[if_pos]
 rw[List.any_eq_true]
 exact⟨_,A5k h,by simp⟩
theorem D4u {kws:Kw} {x:Int} {w w0:Wy} (h:D7 kws x=some w0):C6 (W8 kws x w)=C6 kws:=by
 rw[A86 h]
 unfold C6
 rw[A1q]
 refine A9t λq _=>?_
 show (if q.1=x then (q.1,w) else q).1=q.1
 split <;> rfl
theorem A3h {k:Kst} (o:KOk k.m k.st k.g k.kws):∀{dd:V2},A7j k dd->KOk (S5 k dd).m (S5 k dd).st (S5 k dd).g (S5 k dd).kws
 | .lay x w,⟨lx,hn,hw,hl⟩=>by
  show KOk k.m k.st k.g (W8 k.kws x w)
  rw[A7k hn]
  refine { o with nd:=?_,few:=by rw[Q1,C3v];lia,way:=λq hq=>?_ }
  ·unfold C6
   rw[V3]
   refine B66.mpr ⟨o.nd,by simp,λa ha b hb z=>?_⟩
   rw[j5.mp (show b∈[x] from hb)] at z
   obtain⟨w',hw'⟩:=A1j (kws:=k.kws) (k:=x) (z▸ha)
   rw[hn] at hw';cases hw'
  ·rcases A0l.mp hq with h | h
   ·exact o.way q h
   ·rw[j5.mp h];exact⟨lx,hw⟩
 | .lift x,_=>by
  show KOk k.m k.st k.g (W9 k.kws x)
  unfold W9
  refine { o with nd:=?_,few:=X0 (C30 _ _) o.few,way:=λq hq=>o.way q (B12.mp hq).1 }
  exact List.Nodup.sublist (List.Sublist.map _ List.filter_sublist) o.nd
 | .turn x c,⟨⟨lx,w0,hw0⟩,c0,c1⟩=>by
  show KOk k.m k.st k.g (W8 k.kws x (A5m k.kws x c))
  have wo:=(o.way _ (A5k hw0)).2
  have ht:A5m k.kws x c=(w0.1,w0.2.1,c):=by unfold A5m;rw[hw0];rfl
  refine { o with nd:=by rw[D4u hw0];exact o.nd,few:=?_,way:=λq hq=>?_ }
  ·rw[A86 hw0,D6];exact o.few
  ·rw[A86 hw0] at hq
   obtain⟨q',hq',rfl⟩:=Q2.mp hq
   split
   ·rename_i e
    refine⟨(o.way q' hq').1,?_⟩
    rw[ht]
    exact⟨wo.st,wo.en,c0,c1⟩
   ·exact o.way q' hq'
 | .refill s,⟨⟨s0,s1⟩,ht⟩=>{ o with s0:=s0,s1:=s1,gt:=ht }
 | .aim g,ht=>{ o with gt:=ht }
def A87 (D:V2->Prop) (k:Kst) (ds:List PyData):Prop:=∃dd,D dd/\ds=dd.args/\KOk k.m k.st k.g k.kws/\k.low.length=k.m/\A7j k dd
def A88 (D:V2->Prop) (k:Kst) (ds:List PyData) (r:PyData) (k':Kst):Prop:=∃dd,D dd/\ds=dd.args/\B1r (S5 k dd) k.low r k'
abbrev C2k (dd:V2):Prop:=∃x w,dd=.lay x w
abbrev C2l (dd:V2):Prop:=∃x,dd=.lift x
abbrev C2m (dd:V2):Prop:=∃x c,dd=.turn x c
abbrev C2n (dd:V2):Prop:=∃s,dd=.refill s
abbrev C2o (dd:V2):Prop:=∃g,dd=.aim g
def D4v (k:Kst) (ds:List PyData):Prop:=∃x w,ds=[.int x]/\T0 x/\D7 k.kws x=some w
def D4w (k:Kst) (ds:List PyData) (r:PyData) (k':Kst):Prop:=(∃x w,ds=[.int x]/\D7 k.kws x=some w/\r=M7 w)/\k'=k
theorem X7 {F:Addr->Prop} {H:Hp} {vs:List V} {d:PyData} (t:B0 F H vs [d]):∃v,vs=[v]/\ThV F H v d:=by
 cases t with
 | cons x t=>cases t;exact⟨_,rfl,x⟩
theorem A7l {F:Addr->Prop} {H:Hp} {vs:List V} {d1 d2 d3 d4:PyData} (t:B0 F H vs [d1,d2,d3,d4]):∃v1 v2 v3 v4,vs=[v1,v2,v3,v4]/\ThV F H v1 d1/\ThV F H v2 d2/\ThV F H v3 d3/\ThV F H v4 d4:=by
 cases t with
 | cons x1 t=>
 cases t with
 | cons x2 t=>
 obtain⟨v3,v4,rfl,t3,t4⟩:=m6 t
 exact⟨_,_,v3,v4,rfl,x1,x2,t3,t4⟩
section
variable {P:Program} {w:World} {K:A4} {mg:Str->Option Value} {base:Heap}
theorem C2p (T:Txt K mg):B9 P w K mg base CX0 3 T.aA.a T.aA.d ["self", "label"] (A0j T.aa D4v D4w):=by
 have bK:=@C2i P w K mg base T
 have bL:=T.ak.b
 refine T.aA.F.ok C1l (λvs H Q E h=>?_) (λcdv A outer s H vs Q E hr h=>?_)
 ·obtain⟨F,p,d,k,us,ds,rfl,_,_,tus,⟨x,w,rfl,_⟩,_⟩:=h
  obtain⟨v,rfl,_⟩:=X7 tus
  rfl
 ·obtain⟨F,p,d,k,us,ds,rfl,hF,kp,tus,⟨x,w0,rfl,lx,hw⟩,told⟩:=h
  obtain⟨v,rfl,tx⟩:=X7 tus
  cases tx
  have kp0:=kp
  obtain⟨⟨dx,g,l,ug,ul,e1,g1,e2,t2,g3,e3,t3⟩,kvs,e4,kv⟩:=kp
  rcases kv.val x with ⟨_,z⟩ | ⟨v0,w1,hv,hw1,tv⟩
  ·rw[hw] at z;cases z
  rw[hw] at hw1
  cases hw1
  refine⟨_,(C0 (S3 (K9 (PW.pt (A2r (Q8 (P3 (B6 bK (hr.mono DD) rfl T.ak.m T.ak.F.kp bL .nil A9 (A1 (pv 1) A6 A0) (he:=A0) (hpl:=A5)))) (A2q (A9y (C0k (u1 (M3 hr)) (pv 1) (L1 (pv 0) rfl))))))
   (D1 A11)
   M9))
   (D1 (G6 (A19 (u1 (M3 hr)) (L1 (pv 0) rfl) (pv 1) (λ_ _=>rfl))))),?_⟩
  refine⟨fun σ' H'=>σ'=[some (.ref p),some (.int x)]/\Same H H',?_,?_⟩
  ·refine⟨_,rfl,V6 (E:=E0) (λd=>d=.bool true) (.cons (.int _) .nil) ⟨x,rfl,lx.1,lx.2,rfl⟩ λd' v1 H1 hd t1 s1=>?_⟩
   subst hd
   cases t1
   refine⟨_,rfl,E2 ⟨_,rfl,_,rfl,p,_,dx,_,_,rfl,s1 _ _ e1,T.ac,T.aF,Y8,d,_,rfl,U6.k (k:=Sum.inl x) (s1 _ _ e4),_,rfl,?_⟩⟩
   rw[hv]
   exact E2 ⟨rfl,s1⟩
  rintro σ' H1 ⟨rfl,s1⟩
  refine⟨_,rfl,p,_,dx,_,_,rfl,s1 _ _ e1,T.ac,T.aF,Y8,_,rfl,d,v0,rfl,by rw[<-hv];exact U6.k (k:=Sum.inl x) (s1 _ _ e4),?_⟩
  exact told _ _ k _ ⟨⟨x,w0,rfl,hw,rfl⟩,rfl⟩ (kp0.same s1) (A5j tv (λb xs e=>s1 _ _ e) λb xs e=>.inr ⟨xs,e⟩) (λb o e _ _=>s1 _ _ e) (D4o (kp0.same s1) (A5j (G:=TT0) tv (λb xs e=>s1 _ _ e) λ_ _ _=>trivial))
theorem B59 (T:Txt K mg):B9 P w K mg base CX0 11 T.bv.a T.bv.d ["self", "label", "start", "end", "change"] (A0j T.aa (A87 C2k) (A88 C2k)):=by
 have bK:=@C2i P w K mg base T
 have bL:=T.ak.b
 have dW:=@D4l P w K mg base T
 have dX:=T.aZ.b
 have av:=@A1l P w K mg base T
 have aw:=T.ai.b
 refine T.bv.F.ok C1h (λvs H Q E h=>?_) (λcdv A outer s H vs Q E hr h=>?_)
 ·obtain⟨F,p,d,k,us,ds,rfl,_,_,tus,⟨dd,⟨x,w,rfl⟩,rfl,_⟩,_⟩:=h
  rw[G3,tus.len];rfl
 ·obtain⟨F,p,d,k,us,ds,rfl,hF,kp,tus,⟨dd,⟨x,w0,rfl⟩,rfl,ok,hll,dok⟩,told⟩:=h
  obtain⟨lx,hn,ow,hlen⟩:=id dok
  obtain⟨v1,v2,v3,v4,rfl,t1,t2',t3',t4⟩:=A7l tus
  cases t1
  cases t2'
  cases t3'
  cases t4
  have kp0:=kp
  obtain⟨⟨dx,g,l,ug,ul,e1,g1,e2,t2,g3,e3,t3⟩,kvs,e4,kv⟩:=kp
  have pd:=A1k kp0
  rcases kv.val x with ⟨hv,_⟩ | ⟨v0,w1,hv,hw1,tv⟩
  rotate_left
  ·rw[hn] at hw1;cases hw1
  refine⟨_,(C0 (S3 (K9 (Q8 (P3 (B6 bK (hr.mono DD) rfl T.ak.m T.ak.F.kp bL .nil A9 (A1 (pv 1) A6 A0) (he:=A0) (hpl:=A5))))
   (D1 A11)
   M9))
   (C0 (S3 (K9 (A9y (C0j (u1 (M3 hr)) (pv 1) (L1 (pv 0) rfl)))
   (D1 A11)
   M9))
   (C0 (S3 (K9 (Q8 (P3 (B6 dW (hr.mono DD) rfl T.aZ.m T.aZ.F.kp dX .nil A9 (A1 (L1 (pv 0) rfl) (A1 (V0 (A1 (pv 2) (A1 (pv 3) (A1 (pv 4) A6 A0) A0) A0)) A6 O3) G4) (he:=G4) (hpl:=(A7 O3 A5)))))
   (D1 A11)
   M9))
   (C0 (S3 (K9 (T7 B2x (G8 C0o rfl T.bi W0 (A1 (L1 (pv 0) rfl) A6 G4) (he:=G4) (hpl:=A5)) (D2 (v:=V.int 40) rfl T.g_MOST_WAYS.m ⟨_,rfl⟩) (E4 _))
   (D1 A11)
   M9))
   (C0 (A8s (u1 (M3 hr)) (L1 (pv 0) rfl) (pv 1) (V0 (A1 (pv 2) (A1 (pv 3) (A1 (pv 4) A6 A0) A0) A0)) rfl)
   (D1 (G6 (O5 (pv 0) T.ac T.ai.m av (hr.mono DD) aw .nil A9)))))))),?_⟩
  try dsimp only[O6,Cx.nox]
  refine j0 λW hW=>?_
  refine⟨fun σ' H'=>σ'=[some (.ref p),some (.int x),some (.int ((w0.1:Nat):Int)),some (.int ((w0.2.1:Nat):Int)),some (.int w0.2.2)]/\Same H H',?_,?_⟩
  ·refine⟨_,rfl,V6 (E:=E0) (λd=>d=.bool true) (.cons (.int _) .nil) ⟨x,rfl,lx.1,lx.2,rfl⟩ λd' v1 H1 hd t1 s1=>?_⟩
   subst hd
   cases t1
   exact⟨_,rfl,E2 ⟨rfl,s1⟩⟩
  rintro σ' H1 ⟨rfl,s1⟩
  refine @K1 W _ _ _ _ _ hW λW hW=>?_
  refine⟨fun σ' H'=>σ'=[some (.ref p),some (.int x),some (.int ((w0.1:Nat):Int)),some (.int ((w0.2.1:Nat):Int)),some (.int w0.2.2)]/\Same H H',?_,?_⟩
  ·refine⟨_,rfl,_,rfl,p,_,dx,_,_,rfl,s1 _ _ e1,T.ac,T.aF,Y8,d,_,rfl,U6.k (k:=Sum.inl x) (s1 _ _ e4),_,rfl,?_⟩
   rw[hv]
   exact E2 ⟨rfl,s1⟩
  clear s1
  rintro σ' H1 ⟨rfl,s1⟩
  refine @K1 W _ _ _ _ _ hW λW hW=>?_
  refine⟨fun σ' H'=>σ'=[some (.ref p),some (.int x),some (.int ((w0.1:Nat):Int)),some (.int ((w0.2.1:Nat):Int)),some (.int w0.2.2)]/\Same H H',?_,?_⟩
  ·refine⟨_,rfl,p,_,dx,_,_,rfl,s1 _ _ e1,T.ac,T.cf,A5l,_,rfl,_,rfl,_,rfl,by show 3<=sizeLine;decide,λt ht=>?_⟩
   have s2:=s1.tr (Same.upd (o:=.tup [.int ((w0.1:Nat):Int),.int ((w0.2.1:Nat):Int),.int w0.2.2]) ht)
   refine V6 (E:=E0) (λd=>d=.bool true) (.cons (.int _) (.cons (.tup trivial B2 (.cons (.int _) (.cons (.int _) (.cons (.int _) .nil)))) .nil)) ⟨k.m,w0,rfl,ow,rfl⟩ λd' v1 H3 hd t3 s3=>?_
   subst hd
   cases t3
   exact⟨_,rfl,E2 ⟨rfl,s2.tr s3⟩⟩
  clear s1
  rintro σ' H1 ⟨rfl,s1⟩
  refine @K1 W _ _ _ _ _ hW λW hW=>?_
  refine⟨fun σ' H'=>σ'=[some (.ref p),some (.int x),some (.int ((w0.1:Nat):Int)),some (.int ((w0.2.1:Nat):Int)),some (.int w0.2.2)]/\Same H H',?_,?_⟩
  ·refine⟨_,rfl,p,_,dx,_,_,rfl,s1 _ _ e1,T.ac,T.aF,Y8,d,kvs,rfl,s1 _ _ e4,_,_,rfl,rfl,_,rfl,?_⟩
   rw[kv.len,decide_eq_false (show ¬ (40:Int)<=((k.kws.length:Nat):Int) by lia)]
   exact E2 ⟨rfl,s1⟩
  clear s1
  rintro σ' H1 ⟨rfl,s1⟩
  refine @K1 W _ _ _ _ _ hW λW hW=>?_
  refine⟨_,rfl,_,rfl,_,rfl,by show 3<=sizeLine;decide,λt ht=>?_⟩
  obtain⟨H2,hH2⟩:∃H2,H2=upd H1 t (.tup [.int ((w0.1:Nat):Int),.int ((w0.2.1:Nat):Int),.int w0.2.2]):=⟨_,rfl⟩
  rw[<-hH2]
  have s12:Same H1 H2:=by rw[hH2];exact Same.upd ht
  have s2:=s1.tr s12
  have tw:ThV TT0 H2 (.ref t) (M7 w0):=.tup trivial (by rw[hH2];exact B2) (.cons (.int _) (.cons (.int _) (.cons (.int _) .nil)))
  clear hH2
  refine⟨_,rfl,p,_,dx,_,_,rfl,s2 _ _ e1,T.ac,T.aF,Y8,_,rfl,d,_,rfl,A48.k (k:=Sum.inl x) (s2 _ _ e4) (by rw[kv.len,sizeLine_eq];lia),?_⟩
  obtain⟨H3,hH3⟩:∃H3,H3=upd H2 d (.dK (U5 kvs (Sum.inl x:Key) (.ref t))):=⟨_,rfl⟩
  rw[<-hH3]
  have f3:∀b o,H2 b=some o->b≠d->H3 b=some o:=λb o e n=>by rw[hH3,B1 n];exact e
  have kp2:=kp0.same s2
  have kp3:E9 F T.aa H3 p d (S5 k (.lay x w0)):=by
   have nl:∀{b:Addr} {xs:List V},H2 b=some (.lst xs)->H3 b=some (.lst xs):=λe=>f3 _ _ e (Q6 kp2 e).2
   exact⟨⟨dx,g,l,ug,ul,f3 _ _ (s2 _ _ e1) pd.1,g1,nl (s2 _ _ e2),M5 t2,g3,nl (s2 _ _ e3),M5 t3⟩,_,by rw[hH3];exact B2,((kv.mv λb xs e=>s2 _ _ e).put tw).mv λb xs e=>f3 _ _ e (R8 kp2 e).2⟩
  have e1':=f3 _ _ (s2 _ _ e1) pd.1
  have bk:∀b,H3 b=none->H b=none:=λb hb=>by
   cases z:H b with
   | none=>rfl
   | some o=>
    by_cases c:b=d
    ·rw[c,hH3,B2] at hb;cases hb
    ·rw[f3 _ _ (s2 _ _ z) c] at hb;cases hb
  subst hW
  refine⟨_,rfl,p,dx,_,rfl,e1',K4 KK,F,p,d,S5 k (.lay x w0),[],[],rfl,λb hb=>hF _ (bk b hb),kp3,.nil,⟨rfl,A3h ok dok,hll⟩,λr v k' H4 po kp4 tv fr ap=>?_⟩
  refine told r v k' H4 ⟨_,⟨x,w0,rfl⟩,rfl,po⟩ kp4 (tv.mv λb o z e=>⟨?_,e⟩) (λb o e n1 n2=>fr _ _ (f3 _ _ (s2 _ _ e) n2) n1 n2) ap
  rcases z with z | ⟨xs,z⟩
  ·exact .inl (bk b z)
  ·cases y:H b with
   | none=>exact .inl y
   | some o'=>
    by_cases c:b=d
    ·rw[c,hH3,B2] at z;cases z
    ·have:=f3 _ _ (s2 _ _ y) c
     rw[z] at this
     cases this
     exact .inr ⟨xs,y⟩
end
theorem A89 {H H3:Hp} {p d:Addr} {op od:HO} (hp:H3 p=some op) (hd:H3 d=some od) (f:∀b o,H b=some o->b≠p->b≠d->H3 b=some o) {b:Addr} (z:H3 b=none):H b=none:=by
 cases y:H b with
 | none=>rfl
 | some o=>
  by_cases c1:b=p
  ·rw[c1,hp] at z;cases z
  ·by_cases c2:b=d
   ·rw[c2,hd] at z;cases z
   ·rw[f _ _ y c1 c2] at z;cases z
theorem B1t {H H3:Hp} {C dx p d:Addr} {fs:List (Str×V)} {kvs:List (Key×V)} (hp:H3 p=some (.ins C dx fs)) (hd:H3 d=some (.dK kvs)) (f:∀b o,H b=some o->b≠p->b≠d->H3 b=some o) {b:Addr} (z:O1 H3 b):O1 H b:=by
 rcases z with z | ⟨xs,z⟩
 ·exact .inl (A89 hp hd f z)
 ·cases y:H b with
  | none=>exact .inl y
  | some o=>
   by_cases c1:b=p
   ·rw[c1,hp] at z;cases z
   ·by_cases c2:b=d
    ·rw[c2,hd] at z;cases z
    ·have:=f _ _ y c1 c2
     rw[z] at this
     cases this
     exact .inr ⟨xs,y⟩
section
variable {P:Program} {w:World} {K:A4} {mg:Str->Option Value} {base:Heap}
theorem D4x (T:Txt K mg):B9 P w K mg base CX0 11 T.bG.a T.bG.d ["self", "label"] (A0j T.aa (A87 C2l) (A88 C2l)):=by
 have av:=@A1l P w K mg base T
 have aw:=T.ai.b
 have dJ:=@C2p P w K mg base T
 have bY:=T.aA.b
 refine T.bG.F.ok C1i (λvs H Q E h=>?_) (λcdv A outer s H vs Q E hr h=>?_)
 ·obtain⟨F,p,d,k,us,ds,rfl,_,_,tus,⟨dd,⟨x,rfl⟩,rfl,_⟩,_⟩:=h
  rw[G3,tus.len];rfl
 ·obtain⟨F,p,d,k,us,ds,rfl,hF,kp,tus,⟨dd,⟨x,rfl⟩,rfl,ok,hll,dok⟩,told⟩:=h
  obtain⟨lx,w0,hw⟩:=id dok
  obtain⟨v1,rfl,t1⟩:=X7 tus
  cases t1
  have kp0:=kp
  obtain⟨⟨dx,g,l,ug,ul,e1,g1,e2,t2,g3,e3,t3⟩,kvs,e4,kv⟩:=kp
  have pd:=A1k kp0
  refine⟨_,(C0 (T6 (A0b (pv 0) T.ac T.aA.m dJ (hr.mono DD) bY .nil A9 (A1 (pv 1) A6 A0) (hst:=A0) (hpl:=A5)))
   (C0 (T6 (C0m (L1 (pv 0) rfl) (pv 1) ⟨rfl,rfl,rfl,rfl⟩))
   (D1 (G6 (O5 (pv 0) T.ac T.ai.m av (hr.mono DD) aw .nil A9))))),?_⟩
  try dsimp only[O6,Cx.nox]
  refine j0 λW hW=>?_
  refine⟨_,rfl,p,dx,_,rfl,e1,K4 KK,_,rfl,F,p,d,k,[.int x],[.int x],rfl,hF,kp0,.cons (.int _) .nil,⟨x,w0,rfl,lx,hw⟩,λr v k' H1 po kp1 tv fr _=>?_⟩
  obtain⟨_,rfl⟩:=po
  have kp1':=kp1
  obtain⟨⟨dx1,g',l',ug',ul',f1,gg1,f2,tt2,gg3,f3,tt3⟩,kvs',f4,kv'⟩:=kp1
  rcases kv'.val x with ⟨_,z⟩ | ⟨v0,w1,hv,hw1,tv'⟩
  ·rw[hw] at z;cases z
  refine @K1 W _ _ _ _ _ hW λW hW=>?_
  refine⟨_,rfl,p,_,dx1,_,_,rfl,f1,T.ac,T.aF,Y8,d,rfl,.inl ⟨kvs',.inl f4⟩,_,rfl,kvs',Sum.inl x,v0,f4,rfl,hv,?_⟩
  obtain⟨H3,hH3⟩:∃H3,H3=upd H1 d (.dK (A18 kvs' (Sum.inl x:Key))):=⟨_,rfl⟩
  rw[<-hH3]
  have h3:∀b o,H1 b=some o->b≠d->H3 b=some o:=λb o e n=>by rw[hH3,B1 n];exact e
  have ed:H3 d=some (.dK (A18 kvs' (Sum.inl x:Key))):=by rw[hH3];exact B2
  have kp3:E9 F T.aa H3 p d (S5 k' (.lift x)):=by
   have nl:∀{b:Addr} {xs:List V},H1 b=some (.lst xs)->H3 b=some (.lst xs):=λe=>h3 _ _ e (Q6 kp1' e).2
   exact⟨⟨dx1,g',l',ug',ul',h3 _ _ f1 pd.1,gg1,nl f2,M5 tt2,gg3,nl f3,M5 tt3⟩,_,ed,(kv'.drop x).mv λb xs e=>h3 _ _ e (R8 kp1' e).2⟩
  have fH:∀b o,H b=some o->b≠p->b≠d->H3 b=some o:=λb o e n1 n2=>h3 _ _ (fr _ _ e n1 n2) n2
  have pH3:=h3 _ _ f1 pd.1
  have newF:∀b,O1 H3 b->O1 H b:=λb z=>B1t pH3 ed fH z
  have noF:∀b,H3 b=none->H b=none:=λb z=>A89 pH3 ed fH z
  subst hW
  refine⟨_,rfl,p,dx1,_,rfl,pH3,K4 KK,F,p,d,S5 k' (.lift x),[],[],rfl,λb hb=>hF _ (noF b hb),kp3,.nil,⟨rfl,A3h ok dok,hll⟩,λr v k2 H4 po kp4 tv fr4 ap=>?_⟩
  exact told r v k2 H4 ⟨_,⟨x,rfl⟩,rfl,po⟩ kp4 (tv.mv λb o z e=>⟨newF b z,e⟩) (λb o e n1 n2=>fr4 _ _ (fH _ _ e n1 n2) n1 n2) ap
theorem D4y (T:Txt K mg):B9 P w K mg base CX0 11 T.bH.a T.bH.d ["self", "label", "change"] (A0j T.aa (A87 C2m) (A88 C2m)):=by
 have cj:=@D4j P w K mg base T
 have ck:=T.ax.b
 have av:=@A1l P w K mg base T
 have aw:=T.ai.b
 have dJ:=@C2p P w K mg base T
 have bY:=T.aA.b
 refine T.bH.F.ok B1h (λvs H Q E h=>?_) (λcdv A outer s H vs Q E hr h=>?_)
 ·obtain⟨F,p,d,k,us,ds,rfl,_,_,tus,⟨dd,⟨x,c,rfl⟩,rfl,_⟩,_⟩:=h
  rw[G3,tus.len];rfl
 ·obtain⟨F,p,d,k,us,ds,rfl,hF,kp,tus,⟨dd,⟨x,c,rfl⟩,rfl,ok,hll,dok⟩,told⟩:=h
  obtain⟨⟨lx,w0,hw⟩,c0,c1⟩:=id dok
  obtain⟨v1,v2,rfl,t1,t2'⟩:=m6 tus
  cases t1
  cases t2'
  have kp0:=kp
  obtain⟨⟨dx,g,l,ug,ul,e1,g1,e2,t2,g3,e3,t3⟩,kvs,e4,kv⟩:=kp
  have pd:=A1k kp0
  refine⟨_,(C0 (C4 (i:=3) B1h.nd rfl (B7 rfl) (A0b (pv 0) T.ac T.aA.m dJ (hr.mono DD) bY .nil A9 (A1 (pv 1) A6 A0) (hst:=A0) (hpl:=A5)))
   (C0 (S3 (K9 (Q8 (P3 (B6 cj (hr.mono DD) rfl T.ax.m T.ax.F.kp ck .nil A9 (A1 (pv 2) A6 A0) (he:=A0) (hpl:=A5))))
   (D1 A11)
   M9))
   (C0 (A8s (u1 (M3 hr)) (L1 (pv 0) rfl) (pv 1) (V0 (A1 (G9 k9 (pv 3) (D2 (v:=V.int 0) rfl T.g_START.m ⟨_,rfl⟩) (λ_ _=>rfl)) (A1 (G9 k9 (pv 3) (D2 (v:=V.int 1) rfl T.g_END.m ⟨_,rfl⟩) (λ_ _=>rfl)) (A1 (pv 2) A6 A0) C1) C1)) rfl)
   (D1 (G6 (O5 (pv 0) T.ac T.ai.m av (hr.mono DD) aw .nil A9)))))),?_⟩
  try dsimp only[O6,Cx.nox]
  refine j0 λW hW=>?_
  refine⟨_,rfl,p,dx,_,rfl,e1,K4 KK,_,rfl,F,p,d,k,[.int x],[.int x],rfl,hF,kp0,.cons (.int _) .nil,⟨x,w0,rfl,lx,hw⟩,λr v k' H1 po kp1 tv fr _=>?_⟩
  obtain⟨⟨x',w0',ex,hw',rfl⟩,rfl⟩:=po
  cases ex
  rw[hw] at hw'
  cases hw'
  obtain⟨tw,utw,rfl,gtw,etw,ttw⟩:=A1b (show ThV (O1 H) H1 v (.tuple ([((w0.1:Nat):Int),((w0.2.1:Nat):Int),w0.2.2].map PyData.int)) from tv)
  cases ttw with
  | @cons y1 _ _ _ ty1 ttw=>
  cases ttw with
  | @cons y2 _ _ _ ty2 ttw=>
  cases ttw with
  | @cons y3 _ _ _ ty3 ttw=>
  cases ttw
  cases ty1
  cases ty2
  cases ty3
  have kp1':=kp1
  obtain⟨⟨dx1,g',l',ug',ul',f1,gg1,f2,tt2,gg3,f3,tt3⟩,kvs',f4,kv'⟩:=kp1
  refine @K1 W _ _ _ _ _ hW λW hW=>?_
  refine⟨fun σ' H'=>σ'=[some (.ref p),some (.int x),some (.int c),some (.ref tw)]/\Same H1 H',?_,?_⟩
  ·refine⟨_,rfl,V6 (E:=E0) (λd=>d=.bool true) (.cons (.int _) .nil) ⟨c,rfl,c0,c1,rfl⟩ λd' v1 H2 hd t1 s1=>?_⟩
   subst hd
   cases t1
   exact⟨_,rfl,E2 ⟨rfl,s1⟩⟩
  rintro σ' H2 ⟨rfl,s2⟩
  refine @K1 W _ _ _ _ _ hW λW hW=>?_
  refine⟨_,rfl,.inr (.inl ⟨tw,_,0,_,rfl,rfl,SqT.of (s2 _ _ etw),rfl,_,rfl,.inr (.inl ⟨tw,_,1,_,rfl,rfl,SqT.of (s2 _ _ etw),rfl,_,rfl,by show 3<=sizeLine;decide,λt ht=>?_⟩)⟩)⟩
  obtain⟨H2',hH2⟩:∃H2',H2'=upd H2 t (.tup [.int ((w0.1:Nat):Int),.int ((w0.2.1:Nat):Int),.int c]):=⟨_,rfl⟩
  rw[<-hH2]
  have s12:Same H1 H2':=s2.tr (by rw[hH2];exact Same.upd ht)
  have etr:A5m k'.kws x c=(w0.1,w0.2.1,c):=by unfold A5m;rw[hw];rfl
  have twD:ThV TT0 H2' (.ref t) (M7 (A5m k'.kws x c)):=by
   rw[etr]
   exact .tup trivial (by rw[hH2];exact B2) (.cons (.int _) (.cons (.int _) (.cons (.int _) .nil)))
  clear hH2
  refine⟨_,rfl,p,_,dx1,_,_,rfl,s12 _ _ f1,T.ac,T.aF,Y8,_,rfl,d,_,rfl,A48.k (k:=Sum.inl x) (s12 _ _ f4) (by rw[kv'.len,sizeLine_eq];have:=ok.few;lia),?_⟩
  obtain⟨H3,hH3⟩:∃H3,H3=upd H2' d (.dK (U5 kvs' (Sum.inl x:Key) (.ref t))):=⟨_,rfl⟩
  rw[<-hH3]
  have h3:∀b o,H2' b=some o->b≠d->H3 b=some o:=λb o e n=>by rw[hH3,B1 n];exact e
  have ed:H3 d=some (.dK (U5 kvs' (Sum.inl x:Key) (.ref t))):=by rw[hH3];exact B2
  have kp2:=kp1'.same s12
  have kp3:E9 F T.aa H3 p d (S5 k' (.turn x c)):=by
   have nl:∀{b:Addr} {xs:List V},H2' b=some (.lst xs)->H3 b=some (.lst xs):=λe=>h3 _ _ e (Q6 kp2 e).2
   exact⟨⟨dx1,g',l',ug',ul',h3 _ _ (s12 _ _ f1) pd.1,gg1,nl (s12 _ _ f2),M5 tt2,gg3,nl (s12 _ _ f3),M5 tt3⟩,_,ed,((kv'.mv λb xs e=>s12 _ _ e).put twD).mv λb xs e=>h3 _ _ e (R8 kp2 e).2⟩
  have fH:∀b o,H b=some o->b≠p->b≠d->H3 b=some o:=λb o e n1 n2=>h3 _ _ (s12 _ _ (fr _ _ e n1 n2)) n2
  have pH3:=h3 _ _ (s12 _ _ f1) pd.1
  have newF:∀b,O1 H3 b->O1 H b:=λb z=>B1t pH3 ed fH z
  have noF:∀b,H3 b=none->H b=none:=λb z=>A89 pH3 ed fH z
  subst hW
  refine⟨_,rfl,p,dx1,_,rfl,pH3,K4 KK,F,p,d,S5 k' (.turn x c),[],[],rfl,λb hb=>hF _ (noF b hb),kp3,.nil,⟨rfl,A3h ok dok,hll⟩,λr v k2 H4 po kp4 tv fr4 ap=>?_⟩
  exact told r v k2 H4 ⟨_,⟨x,c,rfl⟩,rfl,po⟩ kp4 (tv.mv λb o z e=>⟨newF b z,e⟩) (λb o e n1 n2=>fr4 _ _ (fH _ _ e n1 n2) n1 n2) ap
theorem D4z (T:Txt K mg):B9 P w K mg base CX0 11 T.bj.a T.bj.d ["self", "store"] (A0j T.aa (A87 C2n) (A88 C2n)):=by
 have dy:=@D4k P w K mg base T
 have dz:=T.aI.b
 have bM:=@C2j P w K mg base T
 have bN:=T.aj.b
 have av:=@A1l P w K mg base T
 have aw:=T.ai.b
 refine T.bj.F.ok C1j (λvs H Q E h=>?_) (λcdv A outer s H vs Q E hr h=>?_)
 ·obtain⟨F,p,d,k,us,ds,rfl,_,_,tus,⟨dd,⟨x,rfl⟩,rfl,_⟩,_⟩:=h
  rw[G3,tus.len];rfl
 ·obtain⟨F,p,d,k,us,ds,rfl,hF,kp,tus,⟨dd,⟨x,rfl⟩,rfl,ok,hll,dok⟩,told⟩:=h
  obtain⟨⟨x0,x1⟩,htab⟩:=id dok
  obtain⟨v1,rfl,t1⟩:=X7 tus
  cases t1
  have m2:=ok.m2
  have kp0:=kp
  obtain⟨⟨dx,g,l,ug,ul,e1,g1,e2,t2,g3,e3,t3⟩,kvs,e4,kv⟩:=kp
  have pd:=A1k kp0
  refine⟨_,(C0 (S3 (K9 (PW.pt (A2r (Q8 (P3 (B6 dy (hr.mono DD) rfl T.aI.m T.aI.F.kp dz .nil A9 (A1 (pv 1) A6 A0) (he:=A0) (hpl:=A5)))) (A2q (Q8 (P3 (B6 bM (hr.mono DD) rfl T.aj.m T.aj.F.kp bN .nil A9 (A1 (L1 (pv 0) rfl) (A1 (pv 1) (A1 (L1 (pv 0) rfl) A6 G4) A0) G4) (he:=G4) (hpl:=(A7 A0 (A7 G4 A5)))))))))
   (D1 A11)
   M9))
   (C0 (A06 (pv 0) (pv 1) rfl)
   (D1 (G6 (O5 (pv 0) T.ac T.ai.m av (hr.mono DD) aw .nil A9))))),?_⟩
  try dsimp only[O6,Cx.nox]
  refine j0 λW hW=>?_
  refine⟨fun σ' H'=>σ'=[some (.ref p),some (.int x)]/\Same H H',?_,?_⟩
  ·refine⟨_,rfl,V6 (E:=E0) (λd=>d=.bool true) (.cons (.int _) .nil) ⟨x,rfl,x0,x1,rfl⟩ λd' v1 H1 hd t1 s1=>?_⟩
   subst hd
   cases t1
   refine⟨_,rfl,E2 ⟨_,rfl,p,_,dx,_,_,rfl,s1 _ _ e1,T.ac,T.cf,A5l,_,rfl,_,rfl,p,_,dx,_,_,rfl,s1 _ _ e1,T.ac,T.bQ,B1p,V6 (E:=E0) (λd=>d=.bool true) (.cons (.int _) (.cons (.int _) (.cons (.lst trivial (s1 _ _ e2) (M5 t2)) .nil))) ⟨k.g,k.m,x,rfl,OO,htab,rfl⟩ λd' v1 H2 hd t1 s2=>?_⟩⟩
   subst hd
   cases t1
   exact⟨_,rfl,E2 ⟨rfl,s1.tr s2⟩⟩
  rintro σ' H1 ⟨rfl,s1⟩
  refine @K1 W _ _ _ _ _ hW λW hW=>?_
  refine⟨_,rfl,_,rfl,p,_,dx,_,rfl,s1 _ _ e1,T.ac,T.cy,by show 5 < 1000;decide,?_⟩
  rw[D32]
  obtain⟨H3,hH3⟩:∃H3,H3=upd H1 p (.ins T.aa dx (kfs k.m x g d l)):=⟨_,rfl⟩
  rw[<-hH3]
  have h3:∀b o,H1 b=some o->b≠p->H3 b=some o:=λb o e n=>by rw[hH3,B1 n];exact e
  have pH3:H3 p=some (.ins T.aa dx (kfs k.m x g d l)):=by rw[hH3];exact B2
  have kp1:=kp0.same s1
  have ed:=h3 _ _ (s1 _ _ e4) pd.1.symm
  have kp3:E9 F T.aa H3 p d (S5 k (.refill x)):=by
   have nl:∀{b:Addr} {xs:List V},H1 b=some (.lst xs)->H3 b=some (.lst xs):=λe=>h3 _ _ e (Q6 kp1 e).1
   exact⟨⟨dx,g,l,ug,ul,pH3,g1,nl (s1 _ _ e2),M5 t2,g3,nl (s1 _ _ e3),M5 t3⟩,_,ed,kv.mv λb xs e=>h3 _ _ (s1 _ _ e) (R8 kp1 (s1 _ _ e)).1⟩
  have fH:∀b o,H b=some o->b≠p->b≠d->H3 b=some o:=λb o e n1 n2=>h3 _ _ (s1 _ _ e) n1
  have newF:∀b,O1 H3 b->O1 H b:=λb z=>B1t pH3 ed fH z
  have noF:∀b,H3 b=none->H b=none:=λb z=>A89 pH3 ed fH z
  subst hW
  refine⟨_,rfl,p,dx,_,rfl,pH3,K4 KK,F,p,d,S5 k (.refill x),[],[],rfl,λb hb=>hF _ (noF b hb),kp3,.nil,⟨rfl,A3h ok dok,hll⟩,λr v k2 H4 po kp4 tv fr4 ap=>?_⟩
  exact told r v k2 H4 ⟨_,⟨x,rfl⟩,rfl,po⟩ kp4 (tv.mv λb o z e=>⟨newF b z,e⟩) (λb o e n1 n2=>fr4 _ _ (fH _ _ e n1 n2) n1 n2) ap
theorem D40 (T:Txt K mg):B9 P w K mg base CX0 11 T.cg.a T.cg.d ["self", "goal"] (A0j T.aa (A87 C2o) (A88 C2o)):=by
 have bM:=@C2j P w K mg base T
 have bN:=T.aj.b
 have av:=@A1l P w K mg base T
 have aw:=T.ai.b
 refine T.cg.F.ok C1k (λvs H Q E h=>?_) (λcdv A outer s H vs Q E hr h=>?_)
 ·obtain⟨F,p,d,k,us,ds,rfl,_,_,tus,⟨dd,⟨x,rfl⟩,rfl,_⟩,_⟩:=h
  rw[G3,tus.len];rfl
 ·obtain⟨F,p,d,k,us,ds,rfl,hF,kp,tus,⟨dd,⟨x,rfl⟩,rfl,ok,hll,dok⟩,told⟩:=h
  have htab:K8 k.m k.st x:=dok
  obtain⟨v1,rfl,t1⟩:=X7 tus
  obtain⟨ag,uag,rfl,_,eag,tag⟩:=P8 t1
  have m2:=ok.m2
  have kp0:=kp
  obtain⟨⟨dx,g,l,ug,ul,e1,g1,e2,t2,g3,e3,t3⟩,kvs,e4,kv⟩:=kp
  have pd:=A1k kp0
  refine⟨_,(C0 (S3 (K9 (Q8 (P3 (B6 bM (hr.mono DD) rfl T.aj.m T.aj.F.kp bN .nil A9 (A1 (L1 (pv 0) rfl) (A1 (L1 (pv 0) rfl) (A1 (pv 1) A6 A0) G4) G4) (he:=G4) (hpl:=(A7 G4 (A7 A0 A5))))))
   (D1 A11)
   M9))
   (C0 (A06 (pv 0) (j9 A1y rfl T.bO A0t (A1 (pv 1) A6 A0) (he:=A0) (hpl:=A5)) rfl)
   (D1 (G6 (O5 (pv 0) T.ac T.ai.m av (hr.mono DD) aw .nil A9))))),?_⟩
  try dsimp only[O6,Cx.nox]
  refine j0 λW hW=>?_
  refine⟨fun σ' H'=>σ'=[some (.ref p),some (.ref ag)]/\Same H H',?_,?_⟩
  ·refine⟨_,rfl,p,_,dx,_,_,rfl,e1,T.ac,T.cf,A5l,_,rfl,p,_,dx,_,_,rfl,e1,T.ac,T.cy,A83,_,rfl,V6 (E:=E0) (λd=>d=.bool true) (.cons (.int _) (.cons (.int _) (.cons (.lst trivial eag tag) .nil))) ⟨x,k.m,k.st,rfl,OO,htab,rfl⟩ λd' v1 H2 hd t1 s2=>?_⟩
   subst hd
   cases t1
   exact⟨_,rfl,E2 ⟨rfl,s2⟩⟩
  rintro σ' H1 ⟨rfl,s1⟩
  refine @K1 W _ _ _ _ _ hW λW hW=>?_
  refine⟨_,rfl,ag,uag,rfl,.inl (SqL.of (s1 _ _ eag)),λln hln=>?_⟩
  obtain⟨H2,hH2⟩:∃H2,H2=upd H1 ln (.lst uag):=⟨_,rfl⟩
  rw[<-hH2]
  have s2:Same H H2:=s1.tr (by rw[hH2];exact Same.upd hln)
  have eln:H2 ln=some (.lst uag):=by rw[hH2];exact B2
  clear hH2
  refine⟨_,rfl,p,_,dx,_,rfl,s2 _ _ e1,T.ac,T.bQ,by show 5 < 1000;decide,?_⟩
  rw[D33]
  obtain⟨H3,hH3⟩:∃H3,H3=upd H2 p (.ins T.aa dx (kfs k.m k.st ln d l)):=⟨_,rfl⟩
  rw[<-hH3]
  have h3:∀b o,H2 b=some o->b≠p->H3 b=some o:=λb o e n=>by rw[hH3,B1 n];exact e
  have pH3:H3 p=some (.ins T.aa dx (kfs k.m k.st ln d l)):=by rw[hH3];exact B2
  have kp2:=kp0.same s2
  have ed:=h3 _ _ (s2 _ _ e4) pd.1.symm
  have kp3:E9 F T.aa H3 p d (S5 k (.aim x)):=by
   have nl:∀{b:Addr} {xs:List V},H2 b=some (.lst xs)->H3 b=some (.lst xs):=λe=>h3 _ _ e (Q6 kp2 e).1
   exact⟨⟨dx,ln,l,uag,ul,pH3,hF _ (s1.early hln),nl eln,M5 tag,g3,nl (s2 _ _ e3),M5 t3⟩,_,ed,kv.mv λb xs e=>h3 _ _ (s2 _ _ e) (R8 kp2 (s2 _ _ e)).1⟩
  have fH:∀b o,H b=some o->b≠p->b≠d->H3 b=some o:=λb o e n1 n2=>h3 _ _ (s2 _ _ e) n1
  have newF:∀b,O1 H3 b->O1 H b:=λb z=>B1t pH3 ed fH z
  have noF:∀b,H3 b=none->H b=none:=λb z=>A89 pH3 ed fH z
  subst hW
  refine⟨_,rfl,p,dx,_,rfl,pH3,K4 KK,F,p,d,S5 k (.aim x),[],[],rfl,λb hb=>hF _ (noF b hb),kp3,.nil,⟨rfl,A3h ok dok,hll⟩,λr v k2 H4 po kp4 tv fr4 ap=>?_⟩
  exact told r v k2 H4 ⟨_,⟨x,rfl⟩,rfl,po⟩ kp4 (tv.mv λb o z e=>⟨newF b z,e⟩) (λb o e n1 n2=>fr4 _ _ (fH _ _ e n1 n2) n1 n2) ap
end
def D41 (C:Addr):Sp:=λvs H Q _=>∃(p dx:Addr) (m:Nat) (st:Int) (g:Tb) (vg:V),vs=[.ref p,.int ((m:Nat):Int),.int st,vg]/\H p=some (.ins C dx [])/\ThV TT0 H vg (.list (B4 g))/\KOk m st g []/\
 ∀d low H',o7 m st g [] low->H d=none->E9 (λb=>H b=none) C H' p d ⟨m,st,g,[],low⟩->(∀b o,H b=some o->b≠p->H' b=some o)->Q .non H'
def kf1 (m:Nat):List (Str×V):=[("many",.int ((m:Nat):Int))]
def kf2 (m:Nat) (st:Int):List (Str×V):=[("many",.int ((m:Nat):Int)),("full",.int st)]
def kf3 (m:Nat) (st:Int) (g:Addr):List (Str×V):=[("many",.int ((m:Nat):Int)),("full",.int st),("wanted",.ref g)]
def kf4 (m:Nat) (st:Int) (g d:Addr):List (Str×V):=[("many",.int ((m:Nat):Int)),("full",.int st),("wanted",.ref g),("laid",.ref d)]
theorem D42 {m:Nat}:Q3 "many" (.int ((m:Nat):Int)) []=kf1 m:=rfl
theorem D43 {m:Nat} {st:Int}:Q3 "full" (.int st) (kf1 m)=kf2 m st:=by with_unfolding_all rfl
theorem D44 {m:Nat} {st:Int} {g:Addr}:Q3 "wanted" (.ref g) (kf2 m st)=kf3 m st g:=by with_unfolding_all rfl
theorem D45 {m:Nat} {st:Int} {g d:Addr}:Q3 "laid" (.ref d) (kf3 m st g)=kf4 m st g d:=by with_unfolding_all rfl
theorem D46 {m:Nat} {st:Int} {g d l:Addr}:Q3 "lowest" (.ref l) (kf4 m st g d)=kfs m st g d l:=by with_unfolding_all rfl
theorem D47:wsF []=[]:=by unfold wsF srt C6;rw[A9j,List.mergeSort_nil];rfl
section
variable {P:Program} {w:World} {K:A4} {mg:Str->Option Value} {base:Heap}
theorem D48 (T:Txt K mg):B9 P w K mg base CX0 10 T.cG.a T.cG.d ["self", "many", "store", "goal"] (D41 T.aa):=by
 have dh:=@B50 P w K mg base T
 have dj:=T.bw.b
 refine T.cG.F.ok D03 (λvs H Q E h=>?_) (λcdv A outer s H vs Q E hr h=>?_)
 ·obtain⟨p,dx,m,st,g,vg,rfl,_⟩:=h
  rfl
 ·obtain⟨p,dx,m,st,g,vg,rfl,ep,tg,ok,told⟩:=h
  obtain⟨ag,ug,rfl,_,eg,tug⟩:=P8 tg
  have m2:=ok.m2
  have s1k:=ok.s1
  refine⟨_,(C0 (A06 (pv 0) (pv 1) rfl)
   (C0 (A06 (pv 0) (pv 2) rfl)
   (C0 (A06 (pv 0) (j9 A1y rfl T.bO A0t (A1 (pv 3) A6 A0) (he:=A0) (hpl:=A5)) rfl)
   (C0 (A06 (pv 0) C0l rfl)
   (D1 (A06 (pv 0) (B6 dh (hr.mono DD) rfl (T.ci.trans T.bw.m) T.bw.F.kp dj .nil A9 (A1 (V0 (A1 (pv 1) (A1 (P7 A6) A6 E6) A0)) (A1 (pv 2) (A1 (pv 3) A6 A0) A0) O3) (he:=O3) (hpl:=(A7 A0 (A7 A0 A5)))) rfl)))))),?_⟩
  try dsimp only[O6,Cx.nox]
  refine j0 λW hW=>?_
  refine⟨_,rfl,_,rfl,p,_,dx,_,rfl,ep,T.ac,T.cf,by show 0 < 1000;decide,?_⟩
  rw[D42]
  obtain⟨H1,hH1⟩:∃H1,H1=upd H p (.ins T.aa dx (kf1 m)):=⟨_,rfl⟩
  rw[<-hH1]
  have p1:H1 p=some (.ins T.aa dx (kf1 m)):=by rw[hH1];exact B2
  have f1:∀b o,H b=some o->b≠p->H1 b=some o:=λb o e n=>by rw[hH1,B1 n];exact e
  clear hH1
  refine @K1 W _ _ _ _ _ hW λW hW=>?_
  refine⟨_,rfl,_,rfl,p,_,dx,_,rfl,p1,T.ac,T.cy,by show 1 < 1000;decide,?_⟩
  rw[D43]
  obtain⟨H2,hH2⟩:∃H2,H2=upd H1 p (.ins T.aa dx (kf2 m st)):=⟨_,rfl⟩
  rw[<-hH2]
  have p2:H2 p=some (.ins T.aa dx (kf2 m st)):=by rw[hH2];exact B2
  have f2:∀b o,H b=some o->b≠p->H2 b=some o:=λb o e n=>by rw[hH2,B1 n];exact f1 _ _ e n
  clear hH2
  have npg:ag≠p:=λz=>by rw[z,ep] at eg;cases eg
  refine @K1 W _ _ _ _ _ hW λW hW=>?_
  refine⟨_,rfl,ag,ug,rfl,.inl (SqL.of (f2 _ _ eg npg)),λl2 hl2=>?_⟩
  have n2:l2≠p:=λz=>by rw[z,p2] at hl2;cases hl2
  refine⟨_,rfl,p,_,dx,_,rfl,by rw[B1 n2.symm];exact p2,T.ac,T.bQ,by show 2 < 1000;decide,?_⟩
  rw[D44]
  obtain⟨H3,hH3⟩:∃H3,H3=upd (upd H2 l2 (.lst ug)) p (.ins T.aa dx (kf3 m st l2)):=⟨_,rfl⟩
  rw[<-hH3]
  have p3:H3 p=some (.ins T.aa dx (kf3 m st l2)):=by rw[hH3];exact B2
  have g3:H3 l2=some (.lst ug):=by rw[hH3,B1 n2];exact B2
  have f3:∀b o,H b=some o->b≠p->H3 b=some o:=λb o e n=>by rw[hH3,B1 n];exact Same.upd hl2 _ _ (f2 _ _ e n)
  have l2n:H l2=none:=by
   cases z:H l2 with
   | none=>rfl
   | some o=>rw[f2 _ _ z n2] at hl2;cases hl2
  clear hH3
  refine @K1 W _ _ _ _ _ hW λW hW=>?_
  intro d hd
  have nd:d≠p:=λz=>by rw[z,p3] at hd;cases hd
  refine⟨_,rfl,p,_,dx,_,rfl,by rw[B1 nd.symm];exact p3,T.ac,T.aF,by show 3 < 1000;decide,?_⟩
  rw[D45]
  obtain⟨H4,hH4⟩:∃H4,H4=upd (upd H3 d (.dK [])) p (.ins T.aa dx (kf4 m st l2 d)):=⟨_,rfl⟩
  rw[<-hH4]
  have p4:H4 p=some (.ins T.aa dx (kf4 m st l2 d)):=by rw[hH4];exact B2
  have d4:H4 d=some (.dK []):=by rw[hH4,B1 nd];exact B2
  have f34:∀b o,H3 b=some o->b≠p->H4 b=some o:=λb o e n=>by rw[hH4,B1 n];exact Same.upd hd _ _ e
  have f4:∀b o,H b=some o->b≠p->H4 b=some o:=λb o e n=>f34 _ _ (f3 _ _ e n) n
  have dn:H d=none:=by
   cases z:H d with
   | none=>rfl
   | some o=>rw[f3 _ _ z nd] at hd;cases hd
  clear hH4
  subst hW
  refine⟨_,rfl,by show 0<=sizeLine;decide,λl5 hl5=>⟨by show 2<=sizeLine;decide,λt6 ht6=>?_⟩⟩
  have s5:Same H4 (upd H4 l5 (.lst [])):=Same.upd hl5
  have s6:=s5.tr (Same.upd (o:=.tup [.int ((m:Nat):Int),.ref l5]) ht6)
  obtain⟨H6,hH6⟩:∃H6,H6=upd (upd H4 l5 (.lst [])) t6 (.tup [.int ((m:Nat):Int),.ref l5]):=⟨_,rfl⟩
  rw[<-hH6] at s6 ⊢
  have tl:ThV TT0 H6 (.ref t6) (L8 m (wsF [])):=by
   have e5:H6 l5=some (.lst []):=by rw[hH6];exact Same.upd ht6 _ _ B2
   rw[D47]
   exact .tup trivial (by rw[hH6];exact B2) (.cons (.int _) (.cons (.lst trivial e5 .nil) .nil))
  clear hH6
  refine⟨_,rfl,_,rfl,[L8 m (wsF []),.int st,.list (B4 g)],(λd=>∃t,U3 m ((wsF []).map A1i) st (lkF st g) t/\d=.list (B4 (lkF st t))),.cons tl (.cons (.int _) (.cons (.lst trivial (s6 _ _ (f4 _ _ eg npg)) (M5 tug)) .nil)),⟨m,wsF [],st,g,rfl,ok.land,ok.s0,OO,ok.gt,λt ht=>⟨t,ht,rfl⟩⟩,λd' v7 H7 hd' t7 s7=>?_⟩
  obtain⟨t,ht,rfl⟩:=hd'
  obtain⟨ln,un,rfl,gn,en,tn⟩:=P8 t7
  have lnn:H6 ln=none:=A81 s7 gn en
  have s67:=s6.tr s7
  refine⟨_,rfl,p,_,dx,_,rfl,s67 _ _ p4,T.ac,T.bR,by show 4 < 1000;decide,?_⟩
  rw[D46]
  have nln:ln≠p:=λz=>by rw[z,s6 _ _ p4] at lnn;cases lnn
  have hln:H ln=none:=by
   cases z:H ln with
   | none=>rfl
   | some o=>rw[s6 _ _ (f4 _ _ z nln)] at lnn;cases lnn
  have f8:∀b o,H7 b=some o->b≠p->upd H7 p (.ins T.aa dx (kfs m st l2 d ln)) b=some o:=λb o e n=>by rw[B1 n];exact e
  exact told d (lkF st t) _ ⟨t,ht,rfl⟩ dn ⟨⟨dx,l2,ln,ug,un,B2,l2n,f8 _ _ (s67 _ _ (f34 _ _ g3 n2)) n2,M5 tug,hln,f8 _ _ en nln,M5 tn⟩,[],f8 _ _ (s67 _ _ d4) nd,.nil⟩ λb o e n=>f8 _ _ (s67 _ _ (f4 _ _ e n)) n
end
def D49:DSp:=λds Q=>∃d,ds=[d]/\∀r:Int,1<=r->r<=1000000000000000000->Q (.int r)
def C2q:DSp:=λds Q=>∃(d:PyData) (sc:Int),ds=[d,.int sc]/\0<=sc/\sc<=1000000000000000000/\∀r:Int,-sc<=r->r<=sc->Q (.int r)
def D5a:DSp:=λds Q=>∃(d:PyData) (sc:Int),ds=[d,.int sc]/\0<=sc/\sc<=1000000000000000000/\∀r:Int,0<=r->r<=100000000000000000000->Q (.int r)
def D5b:DSp:=λds Q=>∃(d:PyData) (m:Nat) (st:Int),ds=[d,.int (m:Nat),.int st]/\m<=12/\0<=st/\st<=1000000000000000000000/\∀t,K8 m st t->Q (.list (B4 t))
def ODs (st:Int) (d:PyData):Prop:=∃o:Option Int,d=oD o/\∀x,o=some x->0<=x/\x<=st
theorem C2r {st:Int}:∀{ds:List PyData},(∀d∈ds,ODs st d)->∃t:Tb,ds=B4 t/\K8 ds.length st t
 | [],_=>⟨[],rfl,rfl,λp x e=>by rw[B30 (P0 _)] at e;cases e⟩
 | d::ds,h=>by
  obtain⟨t,rfl,ht⟩:=C2r (ds:=ds) λe he=>h e (C8 _ he)
  obtain⟨o,rfl,ho⟩:=h d D4
  refine⟨o::t,rfl,⟨by rw[G3,G3,W7],λp x e=>?_⟩⟩
  cases p with
  | zero=>exact ho x e
  | succ p=>exact ht.bd p x e
theorem lt2 {r:Int} (h0:0<=r) (h1:r < 2):r=0\/r=1:=by lia
section
variable {P:Program} {w:World} {K:A4} {mg:Str->Option Value} {base:Heap}
theorem D5c (T:Txt K mg):B9 P w K mg base CX0 4 T.cH.a T.cH.d ["_law_hand_here"] (spD [.hd] D49):=by
 have aq:=@A5h P w K mg base T
 have au:=T.ae.b
 refine K0 T.cH.F D1b rfl (λC cdv A outer s H E hr=>⟨_,(@E1 _ _ _ _ (@F8 _ _ _ _ _ (@P4 _ _ _ _ _ _ _ (C7 (E3 (A2 B3 (A2 B3 (A2 B3 (A2 B3 (A2 (L5 S2 Z5 B3 B3) (A2 (L5 S2 Z5 B3 B3) B5 L7) L7) A8) A8) A8) A8))) (F5 (B6 aq (hr.mono DD) rfl T.ae.m T.ae.F.kp au .nil A9 (V1 (pv 0) (C2 B3 F4 A8) A0) (he:=A0) (hpl:=(A7 A8 A5)))) (λ_ _=>rfl)))),λds Q hl h=>?_⟩)
 obtain⟨d,rfl,q⟩:=h
 left
 refine⟨⟨DD,DD,DD⟩,⟨DD,DD,DD⟩,DD,rfl,6,rfl,DD,DD,λr r0 r1=>?_⟩
 left
 have hr':r=0\/r=1\/r=2\/r=3\/r=4\/r=5:=by lia
 rcases hr' with rfl | rfl | rfl | rfl | rfl | rfl
 all_goals exact q _ DD (DD)
theorem D5d (T:Txt K mg):B9 P w K mg base CX0 4 T.cu.a T.cu.d ["_law_hand_here", "_law_scale_here"] (spD [.hd,.sh] C2q):=by
 have aq:=@A5h P w K mg base T
 have au:=T.ae.b
 refine K0 T.cu.F D1c rfl (λC cdv A outer s H E hr=>⟨_,(E1 (F8 (L5 A2u A8i (F5 (B6 aq (hr.mono DD) rfl T.ae.m T.ae.F.kp au .nil A9 (V1 (pv 0) (C2 (L5 Q9 i8 (L5 A1v B3i B3 (A3 (pv 1))) B3) F4 L7) A0) (he:=A0) (hpl:=(A7 L7 A5)))) (A3 (pv 1))))),λds Q hl h=>?_⟩)
 obtain⟨d,sc,rfl,s0,s1,q⟩:=h
 left
 refine⟨rfl,.inl ⟨DD,DD⟩,2 * sc + 1,rfl,OO,OO,λr r0 r1=>?_⟩
 left
 exact q _ OO (OO)
theorem D5e (T:Txt K mg):B9 P w K mg base CX0 4 T.cI.a T.cI.d ["_law_hand_here", "_law_scale_here"] (spD [.hd,.sh] D5a):=by
 have aq:=@A5h P w K mg base T
 have au:=T.ae.b
 refine K0 T.cI.F C1n rfl (λC cdv A outer s H E hr=>⟨_,(@G1 _ _ _ _ _ _ (G5 (C4 (i:=2) C1n.nd rfl (B7 rfl) (F5 (B6 aq (hr.mono DD) rfl T.ae.m T.ae.F.kp au .nil A9 (V1 (pv 0) (C2 B3 F4 A8) A0) (he:=A0) (hpl:=(A7 A8 A5)))))) (@G1 _ _ _ _ _ _ (U0 (O0 (A6e (M3 hr)) A0x (A3 (pv 2)) B3 (E4 _))
   (E1 (F8 (F5 (B6 aq (hr.mono DD) rfl T.ae.m T.ae.F.kp au .nil A9 (V1 (pv 0) (C2 B3 F4 A8) A0) (he:=A0) (hpl:=(A7 A8 A5))))))
   T9) (@G1 _ _ _ _ _ _ (@U0 _ _ _ _ _ _ _ _ _ (O0 (A6e (M3 hr)) A0x (A3 (pv 2)) B3 (E4 _)) (E1 (F8 (P4 (C7 (E3 (A2 (L5 S2 Z5 B3 B3) (A2 (L5 S2 Z5 B3 B3) B5 L7) L7))) (F5 (B6 aq (hr.mono DD) rfl T.ae.m T.ae.F.kp au .nil A9 (V1 (pv 0) (C2 B3 F4 A8) A0) (he:=A0) (hpl:=(A7 A8 A5)))) (λ_ _=>rfl)))) T9) (@E1 _ _ _ _ (@F8 _ _ _ _ _ (@A0c _ _ _ _ _ _ B0j (@G8 _ _ _ _ _ _ _ _ _ (A94 rfl) rfl T.eh B0c (A2 (L5 S2 Z5 B3 B3) (A2 (F5 (B6 aq (hr.mono DD) rfl T.ae.m T.ae.F.kp au .nil A9 (V1 (pv 0) (C2 (L5 Q9 i8 (L5 A1v B3i B3 (A3 (pv 1))) B3) F4 L7) A0) (he:=A0) (hpl:=(A7 L7 A5)))) B5 D5) L7) DD DD L7 ((A7 D5 A5))))))))),λds Q hl h=>?_⟩)
 obtain⟨d,sc,rfl,s0,s1,q⟩:=h
 left
 refine⟨rfl,6,rfl,DD,DD,λr r0 r1=>?_⟩
 left
 refine⟨rfl,rfl,A3g _ _,?_⟩
 rw[A2c]
 by_cases c0:r=0
 ·rw[c0,show ((0:Int) == 0)=true from rfl]
  left
  refine⟨rfl,4,rfl,DD,DD,λr r0 r1=>?_⟩
  exact q _ r0 (OO)
 ·rw[beq_eq_false_iff_ne.mpr c0]
  left
  refine⟨rfl,rfl,A3g _ _,?_⟩
  rw[A2c]
  by_cases c1:r=1
  ·rw[c1,show ((1:Int) == 1)=true from rfl]
   left
   refine⟨⟨DD,DD,DD⟩,⟨DD,DD,DD⟩,DD,rfl,2,rfl,DD,DD,λr r0 r1=>?_⟩
   left
   rcases lt2 r0 r1 with rfl | rfl
   all_goals exact q _ DD (DD)
  ·rw[beq_eq_false_iff_ne.mpr c1]
   left
   refine⟨⟨DD,DD,DD⟩,rfl,.inl ⟨DD,DD⟩,4 * sc + 1,rfl,OO,OO,λr r0 r1=>?_⟩
   left
   refine q _ ?_ ?_
   ·split
    ·exact r0
    ·decide
   ·split
    ·lia
    ·decide
theorem D5f (T:Txt K mg):B9 P w K mg base CX0 4 T.cJ.a T.cJ.d ["_law_hand_here", "_law_many", "_law_store_here"] (spD [.hd,.sh,.sh] D5b):=by
 have aq:=@A5h P w K mg base T
 have au:=T.ae.b
 refine K0 T.cJ.F C1o rfl (λC cdv A outer s H E hr=>⟨_,(@G1 _ _ _ _ _ _ (G5 (C4 (i:=3) C1o.nd rfl (Or.inr rfl) (L5 Q9 i8 B3 (L5 A1v B3i B3 (F5 (B6 aq (hr.mono DD) rfl T.ae.m T.ae.F.kp au .nil A9 (V1 (pv 0) (C2 B3 F4 A8) A0) (he:=A0) (hpl:=(A7 A8 A5)))))))) (@E1 _ _ _ _ (@F8 _ _ _ _ _ (@C7 _ _ _ _ (@A43 _ _ _ _ _ _ _ _ rfl (@Z3 _ _ _ _ _ _ _ _ _ _ _ _ _ _ _ (Q5.new (N:=["_law_hand_here", "_law_many", "_law_store_here", "_law_rare"]) (osc:=B8 B09) KK) rfl (A8o (A2t rfl T.bZ (A2 (A3 (pv 1)) B5 A0))) (λ_=>A6n) (λ_=>(@P4 _ _ _ _ _ _ _ (C7 (E3 (A2 (F5 (B6 aq (hr.mono DD) rfl T.ae.m T.ae.F.kp au .nil A9 (V1 (pv 0) (C2 (L5 Q9 i8 (A3 (pv 2)) B3) F4 L7) A0) (he:=A0) (hpl:=(A7 L7 A5)))) (A2 N2 B5 A8) D5))) (A0c C69 (j9 B7r rfl T.fm B3c (A2 (A0v A3t A6j (F5 (B6 aq (hr.mono DD) rfl T.ae.m T.ae.F.kp au .nil A9 (V1 (pv 0) (C2 (A3 (pv 3)) F4 A0) A0) (he:=A0) (hpl:=(A7 A0 A5)))) B3 (E4 _)) B5 B8v) (he:=B8v) (hpl:=A5))) (λ_ _=>rfl))) (by rfl) (by rfl) (by intro _;rfl))))))),λds Q hl h=>?_⟩)
 obtain⟨d,m,st,rfl,m2,s0,s1,q⟩:=h
 left
 refine⟨rfl,_,rfl,DD,DD,λr r0 r1=>?_⟩
 array_mem_dec
 refine⟨.inl ⟨DD,DD⟩,⟨OO,OO⟩,⟨rfl,by unfold V4;rw[D6,u8];lia⟩,?_⟩
 refine B9w (R:=ODs st) (λx hx Q' q'=>?_) λds hl2 hR=>?_
 ·left
  refine⟨rfl,_,rfl,OO,OO,λu u0 u1=>?_⟩
  left
  refine⟨DD,rfl,_,rfl,OO,OO,λv v0 v1=>?_⟩
  left
  cases decide (0 < v) with
  | true=>
   exact q' _ ⟨none,rfl,λx e=>nomatch e⟩
  | false=>
   exact q' _ ⟨some u,rfl,λx e=>by cases e;exact⟨u0,OO⟩⟩
 ·obtain⟨t,e,ht⟩:=C2r hR
  rw[Z1,e]
  have hlen:ds.length=m:=by rw[hl2];unfold V4;rw[D6,u8];simp
  rw[hlen] at ht
  exact q t ht
end
def A5n (a b:Option Int):Bool:=match a,b with
 | none,_=>false
 | some _,none=>true
 | some x,some y=>decide (x < y)
theorem D5g (a b:Option Int):A5n a b=!A7g b a:=by
 cases a with
 | none=>cases b <;> rfl
 | some x=>
  cases b with
  | none=>rfl
  | some y=>
   show decide (x < y)=!decide (y<=x)
   by_cases h:x < y
   ·rw[decide_eq_true h,decide_eq_false (OO)];rfl
   ·rw[decide_eq_false h,decide_eq_true (show y<=x by lia)];rfl
def D5h:DSp:=λds Q=>∃a b:Option Int,ds=[oD a,oD b]/\Q (.bool (A5n a b))
def D5i:DSp:=λds Q=>∃a b:Tb,ds=[.list (B4 a),.list (B4 b)]/\a.length=b.length/\a.length<=900/\Q (A85 a b)
theorem C2s (t o:Tb):A5i t o=(U8 t.length).filter λp=>A5n (gt t p) (gt o p):=by
 unfold A5i
 congr 1
 funext p
 exact (D5g _ _).symm
section
variable {P:Program} {w:World} {K:A4} {mg:Str->Option Value} {base:Heap}
theorem D5j (T:Txt K mg):B9 P w K mg base CX0 1 T.cD.a T.cD.d ["_law_one", "_law_other"] (spD [.sh,.sh] D5h):=by
 refine K0 T.cD.F D1d rfl (λC cdv A outer s H E hr=>⟨_,(G1 (U0 (O0 y9 A0y (A3 (pv 0)) N2 (E4 _))
   (E1 (F8 A2y))
   T9)
   (E1 (F8 (B0h (A0v y9 A0y (A3 (pv 1)) N2 (E4 _)) (i7 (A0v A05 A6i (A3 (pv 0)) (A3 (pv 1)) (E4 _))))))),λds Q hl h=>?_⟩)
 obtain⟨a,b,rfl,q⟩:=h
 cases a with
 | none=>
  right
  exact q
 | some x=>
  cases b with
  | none=>
   right
   exact q
  | some y=>
   right
   exact q
theorem D5k (T:Txt K mg):B9 P w K mg base CX0 2 T.cK.a T.cK.d ["_law_old", "_law_new"] (spD [.sh,.sh] D5i):=by
 have gj:=@D5j P w K mg base T
 have gk:=T.cD.b
 refine K0 T.cK.F C1p rfl (λC cdv A outer s H E hr=>⟨_,(@M6 _ _ _ _ _ _ (@B9o _ _ _ _ _ _ _ _ _ rfl (@B0b _ _ _ _ _ _ _ _ _ _ _ _ _ 2 _ _ _ _ _ C1p.nd rfl (B7 rfl) (Q5.new (N:=["_law_old", "_law_new", "_law_fell"]) (osc:=B8 A8v) KK) rfl (A8o (A2t rfl T.bZ (A2 (A0z (G8 Y1 rfl T.bi W0 (A1 (pv 0) A6 A0) (he:=A0) (hpl:=A5))) B5 D5))) (λ_=>(A8d (A30 (F5 (B6 gj (hr.mono DD) rfl T.cD.m T.cD.F.kp gk .nil A9 (C2 (D8 (pv 1) (A3 (pv 3)) (λ_ _=>rfl)) (C2 (D8 (pv 0) (A3 (pv 3)) (λ_ _=>rfl)) F4 C1) C1) (he:=C1) (hpl:=(A7 C1 A5))))))) (λ_=>(A3 (pv 3))) (by rfl) (by first | exact .inl rfl | exact .inr rfl | assumption) (by rfl) (by rfl) (by intro _;rfl))) (@E1 _ _ _ _ (@F8 _ _ _ _ _ (@M4 _ _ _ _ _ _ (@A2 _ _ _ _ _ _ (A3 (pv 2)) (@A2 _ _ _ _ _ _ (@C7 _ _ _ _ (@A43 _ _ _ _ _ _ _ _ rfl (@Z3 _ _ _ _ _ _ _ _ _ _ _ _ _ _ _ (Q5.new (N:=["_law_old", "_law_new", "_law_fell"]) (osc:=B8 A8v) KK) rfl (A8o (A2t rfl T.bZ (A2 (A0z (G8 Y1 rfl T.bi W0 (A1 (pv 0) A6 A0) (he:=A0) (hpl:=A5))) B5 D5))) (λ_=>(A8d (A30 (F5 (B6 gj (hr.mono DD) rfl T.cD.m T.cD.F.kp gk .nil A9 (C2 (D8 (pv 0) (A3 (pv 3)) (λ_ _=>rfl)) (C2 (D8 (pv 1) (A3 (pv 3)) (λ_ _=>rfl)) F4 C1) C1) (he:=C1) (hpl:=(A7 C1 A5))))))) (λ_=>(A3 (pv 3))) (by rfl) (by rfl) (by intro _;rfl)))) B5 A09) A0))))),λds Q hl h=>?_⟩)
 obtain⟨a,b,rfl,hl,hm,q⟩:=h
 have q2:Q (.tuple [.list (numL ((U8 a.length).filter λp=>A5n (gt b p) (gt a p))),.list (numL ((U8 a.length).filter λp=>A5n (gt a p) (gt b p)))]):=by
  unfold A85 at q
  rw[C2s,C2s,<-hl] at q
  exact q
 array_get_dec
 rw[W7]
 refine⟨⟨OO,OO⟩,⟨rfl,by unfold V4;rw[D6,u8];lia⟩,?_⟩
 unfold V4
 rw[show ((a.length:Nat):Int).toNat=a.length by simp]
 refine A63 (p:=λi=>A5n (gt b i) (gt a i)) (f:=λi=>.int (0 + ((i:Nat):Int))) (λi hi Q' q'=>?_) (λi hi _ Q' q'=>?_) ?_
 ·have hi':=p6.mp hi
  left
  rw[show (0:Int) + ((i:Nat):Int)=((i:Nat):Int) by lia] at q' ⊢
  rw[A2b (OO)]
  left
  rw[A2b hi']
  left
  exact⟨_,_,rfl,q'⟩
 ·exact q'
 rw[Z1]
 refine go ?_
 array_get_dec
 rw[W7]
 refine⟨⟨OO,OO⟩,⟨rfl,by unfold V4;rw[D6,u8];lia⟩,?_⟩
 unfold V4
 rw[show ((a.length:Nat):Int).toNat=a.length by simp]
 refine A63 (p:=λi=>A5n (gt a i) (gt b i)) (f:=λi=>.int (0 + ((i:Nat):Int))) (λi hi Q' q'=>?_) (λi hi _ Q' q'=>?_) ?_
 ·have hi':=p6.mp hi
  left
  rw[show (0:Int) + ((i:Nat):Int)=((i:Nat):Int) by lia] at q' ⊢
  rw[A2b hi']
  left
  rw[A2b (OO)]
  left
  exact⟨_,_,rfl,q'⟩
 ·exact q'
 rw[Z1]
 refine⟨DD,?_⟩
 have ez:∀l:List Nat,l.map (λi=>PyData.int (0 + ((i:Nat):Int)))=numL l:=λl=>by
  unfold numL
  refine A9t λi _=>?_
  rw[Int.zero_add]
 rw[ez,ez]
 exact q2
end
def kwD (x:Int) (w:Wy):PyData:=.tuple [.int x,.int ((w.1:Nat):Int),.int ((w.2.1:Nat):Int),.int w.2.2]
def A1m (kws:Kw):List PyData:=(srt (C6 kws)).map λk=>kwD k ((D7 kws k).getD (0,0,0))
def D5l (k:Kst) (ds:List PyData):Prop:=ds=[]/\(C6 k.kws).length < 64
def D5m (k:Kst) (_:List PyData) (r:PyData) (k':Kst):Prop:=r=.list (A1m k.kws)/\k'=k
def D5n (k:Kst) (_:List PyData) (r:PyData) (k':Kst):Prop:=r=.int k.st/\k'=k
def D5o (k:Kst) (_:List PyData) (r:PyData) (k':Kst):Prop:=r=.list (B4 k.g)/\k'=k
theorem C2t {F:Addr->Prop} {H:Hp} {vs:List V} {d1 d2 d3:PyData} (t:B0 F H vs [d1,d2,d3]):∃v1 v2 v3,vs=[v1,v2,v3]/\ThV F H v1 d1/\ThV F H v2 d2/\ThV F H v3 d3:=by
 cases t with
 | cons x1 t=>
 obtain⟨v2,v3,rfl,t2,t3⟩:=m6 t
 exact⟨_,v2,v3,rfl,x1,t2,t3⟩
section
variable {P:Program} {w:World} {K:A4} {mg:Str->Option Value} {base:Heap}
theorem B6a (T:Txt K mg):B9 P w K mg base CX0 1 T.aT.a T.aT.d ["self"] (A0j T.aa B57 D5n):=by
 refine T.aT.F.ok D04 (λvs H Q E h=>?_) (λcdv A outer s H vs Q E hr h=>?_)
 ·obtain⟨F,p,d,k,us,ds,rfl,_,_,tus,rfl,_⟩:=h
  cases tus;rfl
 ·obtain⟨F,p,d,k,us,ds,rfl,hF,kp,tus,rfl,told⟩:=h
  cases tus
  have kp0:=kp
  obtain⟨⟨dx,g,l,ug,ul,e1,g1,e2,t2,g3,e3,t3⟩,kvs,e4,kv⟩:=kp
  refine⟨_,(D1 (G6 (L1 (pv 0) rfl))),?_⟩
  refine⟨_,rfl,p,_,dx,_,_,rfl,e1,T.ac,T.cy,A83,?_⟩
  exact told _ _ k _ ⟨rfl,rfl⟩ kp0 (.int _) (λb o e _ _=>e) (D4m kp0)
theorem B6b (T:Txt K mg):B9 P w K mg base CX0 1 T.bx.a T.bx.d ["self"] (A0j T.aa B57 D5o):=by
 refine T.bx.F.ok D05 (λvs H Q E h=>?_) (λcdv A outer s H vs Q E hr h=>?_)
 ·obtain⟨F,p,d,k,us,ds,rfl,_,_,tus,rfl,_⟩:=h
  cases tus;rfl
 ·obtain⟨F,p,d,k,us,ds,rfl,hF,kp,tus,rfl,told⟩:=h
  cases tus
  have kp0:=kp
  obtain⟨⟨dx,g,l,ug,ul,e1,g1,e2,t2,g3,e3,t3⟩,kvs,e4,kv⟩:=kp
  refine⟨_,(D1 (G6 (j9 A1y rfl T.bO A0t (A1 (L1 (pv 0) rfl) A6 G4) (he:=G4) (hpl:=A5)))),?_⟩
  refine⟨_,rfl,p,_,dx,_,_,rfl,e1,T.ac,T.bQ,B1p,g,ug,rfl,.inl (SqL.of e2),λl2 hl2=>?_⟩
  exact told _ _ k _ ⟨rfl,rfl⟩ (kp0.same (Same.upd hl2)) (.lst (.inl hl2) B2 (M5 t2)) (λb o e _ _=>Same.upd hl2 _ _ e) (B56 (kp0.ex.same (Same.upd hl2)) hl2 B2)
theorem C2u (T:Txt K mg):B9 P w K mg base CX0 1 T.bS.a T.bS.d ["self"] (A0j T.aa D5l D5m):=by
 refine T.bS.F.ok B1i (λvs H Q E h=>?_) (λcdv A outer s H vs Q E hr h=>?_)
 ·obtain⟨F,p,d,k,us,ds,rfl,_,_,tus,⟨rfl,_⟩,_⟩:=h
  cases tus;rfl
 ·obtain⟨F,p,d,k,us,ds,rfl,hF,kp,tus,⟨rfl,hk⟩,told⟩:=h
  cases tus
  have kp0:=kp
  obtain⟨⟨dx,g,l,ug,ul,e1,g1,e2,t2,g3,e3,t3⟩,kvs,e4,kv⟩:=kp
  refine⟨_,(C0 (C4 (i:=1) B1i.nd rfl (B7 rfl) (P7 A6))
   (C0 (A1u A0o rfl (A0p (G8 (A8t rfl) rfl T.cF A8e (A1 (L1 (pv 0) rfl) A6 G4) (he:=G4) (hpl:=A5))) (c9 (i:=2) B1i.nd rfl (B7 rfl))
   (C0 (C4 (i:=3) B1i.nd rfl (B7 rfl) (A19 (u1 (M3 hr)) (L1 (pv 0) rfl) (pv 2) (λ_ _=>rfl)))
   (D1 (T6 (A07 A1p A56 A57 A2x (pv 1) (A1 (V0 (A1 (pv 2) (A1 (G9 k9 (pv 3) (D2 (v:=V.int 0) rfl T.g_START.m ⟨_,rfl⟩) (λ_ _=>rfl)) (A1 (G9 k9 (pv 3) (D2 (v:=V.int 1) rfl T.g_END.m ⟨_,rfl⟩) (λ_ _=>rfl)) (A1 (G9 k9 (pv 3) (D2 (v:=V.int 2) rfl T.g_CHANGE.m ⟨_,rfl⟩) (λ_ _=>rfl)) A6 C1) C1) C1) A0)) A6 O3))))))
   (D1 (G6 (pv 1))))),?_⟩
  try dsimp only[O6,Cx.nox]
  refine j0 λW hW=>?_
  refine⟨by show 0<=sizeLine;decide,λtl htl=>?_⟩
  have s1:Same H (upd H tl (.lst [])):=Same.upd htl
  refine @K1 W _ _ _ _ _ hW λW hW=>?_
  refine⟨_,rfl,p,_,dx,_,_,rfl,s1 _ _ e1,T.ac,T.aF,Y8,d,kvs,_,rfl,s1 _ _ e4,kv.keys,hk,λl1 ms hl1 hp hs=>?_⟩
  have ems:=A7h hp hs
  subst ems
  obtain⟨H2,hH2⟩:∃H2,H2=upd (upd H tl (.lst [])) l1 (.lst ((srt (C6 k.kws)).map V.int)):=⟨_,rfl⟩
  rw[<-hH2]
  have s2:Same H H2:=by rw[hH2];exact s1.tr (Same.upd hl1)
  have el1:H2 l1=some (.lst ((srt (C6 k.kws)).map V.int)):=by rw[hH2];exact B2
  have etl:H2 tl=some (.lst []):=by rw[hH2];exact Same.upd hl1 _ _ B2
  have nlt:l1≠tl:=λz=>by rw[z,B2] at hl1;cases hl1
  have lsr:(srt (C6 k.kws)).length < 64:=by rw[(j2 _).length_eq];exact hk
  have lkw:(A1m k.kws).length=(srt (C6 k.kws)).length:=by unfold A1m;rw[D6]
  clear hH2
  refine⟨l1,rfl,⟨_,SqL.of el1⟩,?_⟩
  refine B7m (xs:=(srt (C6 k.kws)).map V.int) (λi σ' H'=>∃ys x2 x3,σ'=[some (.ref p),some (.ref tl),x2,x3]/\Same H H'/\H' tl=some (.lst ys)/\H' l1=some (.lst ((srt (C6 k.kws)).map V.int))/\B0 (λb=>O1 H b/\b≠tl) H' ys ((A1m k.kws).take i)) ⟨[],none,none,rfl,s2,etl,el1,.nil⟩ ?_ ?_ ?_
  ·rintro i σ' H' hi ⟨ys,x2,x3,rfl,sH,et,el,ty⟩
   exact SqL.of el
  ·rintro i x σ' H' hx ⟨ys,x2,x3,rfl,sH,et,el,ty⟩
   rw[S0] at hx
   obtain⟨n,hn,rfl⟩:=A55.mp hx
   obtain⟨w0,hw0⟩:=A1j ((j2 _).mem_iff.mp (X1 hn))
   have hwi:(A1m k.kws)[i]?=some (kwD n w0):=by
    unfold A1m
    rw[S0,hn,A3s,hw0];rfl
   rcases kv.val n with ⟨_,z⟩ | ⟨v0,w1,hv,hw1,tv⟩
   ·rw[hw0] at z;cases z
   rw[hw0] at hw1
   cases hw1
   obtain⟨tw,uw,rfl,_,ew,tuw⟩:=A1b (show ThV TT0 H v0 (.tuple [.int ((w0.1:Nat):Int),.int ((w0.2.1:Nat):Int),.int w0.2.2]) from tv)
   obtain⟨v1,v2,v3,rfl,tv1,tv2,tv3⟩:=C2t tuw
   cases tv1
   cases tv2
   cases tv3
   have ew':=sH _ _ ew
   refine⟨_,rfl,p,_,dx,_,_,rfl,sH _ _ e1,T.ac,T.aF,Y8,_,rfl,d,_,rfl,by rw[<-hv];exact U6.k (k:=Sum.inl n) (sH _ _ e4),?_⟩
   refine⟨_,rfl,.inl ⟨rfl,_,SqL.of et⟩,_,rfl,_,rfl,.inr (.inl ⟨tw,_,0,_,rfl,rfl,SqT.of ew',rfl,_,rfl,.inr (.inl ⟨tw,_,1,_,rfl,rfl,SqT.of ew',rfl,_,rfl,.inr (.inl ⟨tw,_,2,_,rfl,rfl,SqT.of ew',rfl,by show 4<=sizeLine;decide,λq hq=>?_⟩)⟩)⟩)⟩
   have s3:Same H' (upd H' q (.tup [.int n,.int ((w0.1:Nat):Int),.int ((w0.2.1:Nat):Int),.int w0.2.2])):=Same.upd hq
   have nq:q≠tl:=λz=>by rw[z,et] at hq;cases hq
   have lys:ys.length<=63:=by rw[ty.len,Z0,lkw];lia
   refine⟨tl,ys,_,rfl,rfl,s3 _ _ et,by rw[sizeLine_eq];lia,?_⟩
   have k4:∀b o,upd H' q (.tup [.int n,.int ((w0.1:Nat):Int),.int ((w0.2.1:Nat):Int),.int w0.2.2]) b=some o->b≠tl->upd (upd H' q (.tup [.int n,.int ((w0.1:Nat):Int),.int ((w0.2.1:Nat):Int),.int w0.2.2])) tl (.lst (ys++[.ref q])) b=some o:=λb o e n=>by rw[B1 n];exact e
   refine⟨_,_,_,rfl,λb o e=>k4 _ _ (s3 _ _ (sH _ _ e)) (λz=>by rw[z,htl] at e;cases e),B2,k4 _ _ (s3 _ _ el) nlt,?_⟩
   rw[A54,hwi]
   refine (ty.mv λb o z e=>⟨z,k4 _ _ (s3 _ _ e) z.2⟩).append (.cons (.tup ⟨.inl (sH.early hq),nq⟩ (k4 _ _ B2 nq) (.cons (.int _) (.cons (.int _) (.cons (.int _) (.cons (.int _) .nil))))) .nil)
  ·rintro σ' H' ⟨ys,x2,x3,rfl,sH,et,el,ty⟩
   rw[D6,<-lkw,A71] at ty
   subst hW
   refine⟨_,rfl,?_⟩
   exact told _ _ k _ ⟨rfl,rfl⟩ (kp0.same sH) (.lst (.inl htl) et (ty.mv λb o z e=>⟨z.1,e⟩)) (λb o e _ _=>sH _ _ e) (B56 (kp0.ex.same sH) htl et)
end
def clR {K:A4} {mg:Str->Option Value} (T:Txt K mg):List Addr:=[T.aG,T.bu,T.aX,T.aK,T.aW,T.aH,T.aQ]
def o8:Nat->Option Str
 | 1=>some "label"
 | 3=>some "most"
 | 4=>some "label"
 | _=>none
def FldAt (f:Option Str) (v:V) (dd:Option Addr) (H:Hp):Prop:=match f with
 | none=>dd=none
 | some f=>∃dx,dd=some dx/\H dx=some (.xd [(f,v)])
def Rzd {K:A4} {mg:Str->Option Value} (T:Txt K mg) (r:Nat) (v:V) (H:Hp) (E:XK):Prop:=∀c dd H',(clR T)[r]?=some c->Same H H'->FldAt (o8 r) v dd H'->E (.ref c) dd H'
def NoW (k:Kst) (a:PyData):Prop:=A01 a=false\/∃x,a=.int x/\T0 x/\D7 k.kws x=none
abbrev Why:=Kst->List V->List PyData->Nat->V->Prop
def C2v:Why:=λk us ds r v=>∃a b c e,ds=[a,b,c,e]/\((A01 a=false/\r=0)\/∃x,a=.int x/\T0 x/\((∃w,D7 k.kws x=some w/\r=1/\v=.int x)\/(D7 k.kws x=none/\
 (((M8 ((k.m:Nat):Int) b&&(M8 ((k.m:Nat):Int) c&&chB e))=false/\r=2)\/((M8 ((k.m:Nat):Int) b&&(M8 ((k.m:Nat):Int) c&&chB e))=true/\40<=k.kws.length/\r=3/\v=.int 40)))))
def C2w:Why:=λk us ds r v=>∃a,ds=[a]/\NoW k a/\r=4/\us=[v]
def C2x:Why:=λk us ds r v=>∃a c,ds=[a,c]/\((NoW k a/\r=4/\∃u,us=[v,u])\/∃x w,a=.int x/\T0 x/\D7 k.kws x=some w/\chB c=false/\r=2)
def C2y:Why:=λk us ds r v=>∃a,ds=[a]/\(A2d a=false\/∃x,a=.int x/\(0<=x/\x<=100000000000000000000)/\a8 k.m x (.list (B4 k.g))=false)/\r=5
def C2z:Why:=λk us ds r v=>∃a,ds=[a]/\(∀ds,a=.list ds->ds.length<=400)/\a8 k.m k.st a=false/\r=6
def spX {K:A4} {mg:Str->Option Value} (T:Txt K mg) (why:Why):Sp:=λvs H _ E=>∃(F:Addr->Prop) (p d:Addr) (k:Kst) (us:List V) (ds:List PyData) (r:Nat) (v:V),vs=.ref p::us/\E9 F T.aa H p d k/\B0 TT0 H us ds/\k.g.length<=400/\why k us ds r v/\Rzd T r v H E
def D5p {K:A4} {mg:Str->Option Value} (T:Txt K mg):Sp:=λvs H Q E=>∃(F:Addr->Prop) (p d:Addr) (k:Kst) (u:V) (a:PyData),vs=[.ref p,u]/\E9 F T.aa H p d k/\ThV TT0 H u a/\
 ((∃x w,a=.int x/\T0 x/\D7 k.kws x=some w/\∀v' H',ThV TT0 H' v' (M7 w)->Same H H'->Q v' H')\/(NoW k a/\Rzd T 4 u H E))
theorem B6c {x:Int} (h:T0 x):A01 (.int x)=true:=decide_eq_true ⟨h.1,h.2⟩
section
variable {P:Program} {w:World} {K:A4} {mg:Str->Option Value} {base:Heap}
theorem A9a {a:Addr} {d:FuncData} {lev:Nat} {ps:List Str} {sp:Sp} (F:B9 P w K mg base CX0 lev a d ps sp):B9 P w K mg base (CXe P w) lev a d ps sp:=by
 refine⟨F.len,λA outer s H args us vs Q E hr e0 hb r z=>codeAny_mono (F.run A outer s H args us vs Q E hr e0 hb r z) λr s' q=>?_⟩
 cases r with
 | error e=>exact q.elim
 | ok f=>cases f <;> exact q
theorem A9b {CX:CXT} {a:Addr} {d:FuncData} {lev:Nat} {ps:List Str} {sp0 sp1:Sp} (F0:B9 P w K mg base CX lev a d ps sp0) (F1:B9 P w K mg base CX lev a d ps sp1):B9 P w K mg base CX lev a d ps (λvs H Q E=>sp0 vs H Q E\/sp1 vs H Q E):=
 ⟨λvs H Q E z=>z.elim (F0.len vs H Q E) (F1.len vs H Q E),λA outer s H args us vs Q E hr e0 hb r z=>z.elim (F0.run A outer s H args us vs Q E hr e0 hb r) (F1.run A outer s H args us vs Q E hr e0 hb r)⟩
theorem C20 (T:Txt K mg):B9 P w K mg base (CXe P w) 4 T.aA.a T.aA.d ["self", "label"] (D5p T):=by
 have bK:=@B54 P w K mg base T
 have bL:=T.ak.b
 refine T.aA.F.okX C1l (λvs H Q E h=>?_) (λcdv A outer s H vs Q E hr h=>?_)
 ·obtain⟨F,p,d,k,u,a,rfl,_⟩:=h
  rfl
 ·obtain⟨F,p,d,k,u,a,rfl,kp,tu,h⟩:=h
  have kp0:=kp
  obtain⟨⟨dx,g,l,ug,ul,e1,g1,e2,t2,g3,e3,t3⟩,kvs,e4,kv⟩:=kp
  refine⟨_,(C0 (K9 (PW.pt (A2r (Q8 (P3 (B6 bK (hr.mono DD) rfl T.ak.m T.ak.F.kp bL .nil A9 (A1 (pv 1) A6 A0) (he:=A0) (hpl:=A5)))) (A2q (A9y (C0k (u1 (M3 hr)) (pv 1) (L1 (pv 0) rfl))))))
   (D1 (B4a A1g rfl rfl (k:=1) (hr.mono DD) rfl T.dR T.x_NoWay.xc.kp T.x_NoWay.xc.xc (D1m T) T.x_NoWay.xc.fi T.x_NoWay.xc.fn (A1 (pv 1) A6 A0)))
   M9)
   (D1 (G6 (A19 (u1 (M3 hr)) (L1 (pv 0) rfl) (pv 1) (λ_ _=>rfl))))),?_⟩
  refine⟨_,rfl,V6 (E:=E0) (λd=>d=.bool (A01 a)) (.cons tu .nil) ⟨a,rfl,rfl⟩ λd' v1 H1 hd t1 s1=>?_⟩
  subst hd
  cases t1
  refine⟨_,rfl,?_⟩
  have rz:(NoW k a->Rzd T 4 u H E)->NoW k a->∀dx,H1 dx=none->E (.ref T.aW) (some dx) (upd H1 dx (.xd [("label",u)])):=λq z dx hd=>q z _ _ _ rfl (s1.tr (Same.upd hd)) ⟨dx,rfl,B2⟩
  rcases h with ⟨x,w0,rfl,lx,hw,q⟩ | ⟨nw,q⟩
  ·cases tu
   rcases kv.val x with ⟨_,z⟩ | ⟨v0,w1,hv,hw1,tv⟩
   ·rw[hw] at z;cases z
   rw[hw] at hw1
   cases hw1
   rw[B6c lx]
   refine E2 ⟨_,rfl,_,rfl,p,_,dx,_,_,rfl,s1 _ _ e1,T.ac,T.aF,Y8,d,_,rfl,U6.k (k:=Sum.inl x) (s1 _ _ e4),_,rfl,?_⟩
   rw[hv]
   refine E2 ?_
   refine⟨_,rfl,p,_,dx,_,_,rfl,s1 _ _ e1,T.ac,T.aF,Y8,_,rfl,d,v0,rfl,by rw[<-hv];exact U6.k (k:=Sum.inl x) (s1 _ _ e4),?_⟩
   exact q _ _ (A5j tv (λb xs e=>s1 _ _ e) λ_ _ _=>trivial) s1
  ·rcases id nw with nl | ⟨x,rfl,lx,hn⟩
   ·rw[nl]
    exact J0 (J0 ⟨_,rfl,_,rfl,rz (λ_=>q) nw⟩)
   ·cases tu
    rcases kv.val x with ⟨hv,_⟩ | ⟨v0,w1,hv,hw1,tv⟩
    rotate_left
    ·rw[hn] at hw1;cases hw1
    rw[B6c lx]
    refine E2 ⟨_,rfl,_,rfl,p,_,dx,_,_,rfl,s1 _ _ e1,T.ac,T.aF,Y8,d,_,rfl,U6.k (k:=Sum.inl x) (s1 _ _ e4),_,rfl,?_⟩
    rw[hv]
    exact J0 ⟨_,rfl,_,rfl,rz (λ_=>q) nw⟩
theorem D5q (T:Txt K mg):B9 P w K mg base (CXe P w) 11 T.bv.a T.bv.d ["self", "label", "start", "end", "change"] (spX T C2v):=by
 have bK:=@B54 P w K mg base T
 have bL:=T.ak.b
 have dW:=@C2h P w K mg base T
 have dX:=T.aZ.b
 have av:=@A1l P w K mg base T
 have aw:=T.ai.b
 refine T.bv.F.okX C1h (λvs H Q E h=>?_) (λcdv A outer s H vs Q E hr h=>?_)
 ·obtain⟨F,p,d,k,us,ds,r,v,rfl,_,tus,_,⟨a,b,c,e,rfl,_⟩,_⟩:=h
  rw[G3,tus.len];rfl
 ·obtain⟨F,p,d,k,us,ds,r,v,rfl,kp,tus,_,⟨a,b,c,e,rfl,why⟩,rz⟩:=h
  obtain⟨y1,y2,y3,y4,rfl,t1,t2',t3',t4⟩:=A7l tus
  obtain⟨⟨dx,g,l,ug,ul,e1,g1,e2,t2,g3,e3,t3⟩,kvs,e4,kv⟩:=kp
  refine⟨_,(C0 (K9 (Q8 (P3 (B6 bK (hr.mono DD) rfl T.ak.m T.ak.F.kp bL .nil A9 (A1 (pv 1) A6 A0) (he:=A0) (hpl:=A5))))
   (D1 (A8u A1g rfl rfl rfl T.cY T.xc_BadLabel.kp T.xc_BadLabel.xc (A1 O4 A6 A8)))
   M9)
   (C0 (K9 (A9y (C0j (u1 (M3 hr)) (pv 1) (L1 (pv 0) rfl)))
   (D1 (B4a A1g rfl rfl (k:=1) (hr.mono DD) rfl T.dQ T.x_Taken.xc.kp T.x_Taken.xc.xc (D1i T) T.x_Taken.xc.fi T.x_Taken.xc.fn (A1 (pv 1) A6 A0)))
   M9)
   (C0 (K9 (Q8 (P3 (B6 dW (hr.mono DD) rfl T.aZ.m T.aZ.F.kp dX .nil A9 (A1 (L1 (pv 0) rfl) (A1 (V0 (A1 (pv 2) (A1 (pv 3) (A1 (pv 4) A6 A0) A0) A0)) A6 O3) G4) (he:=G4) (hpl:=(A7 O3 A5)))))
   (D1 (A8u A1g rfl rfl rfl T.cW T.xc_BadWay.kp T.xc_BadWay.xc (A1 O4 A6 A8)))
   M9)
   (C0 (K9 (T7 B2x (G8 C0o rfl T.bi W0 (A1 (L1 (pv 0) rfl) A6 G4) (he:=G4) (hpl:=A5)) (D2 (v:=V.int 40) rfl T.g_MOST_WAYS.m ⟨_,rfl⟩) (E4 _))
   (D1 (B4a A1g rfl rfl (k:=1) (hr.mono DD) rfl T.du T.x_TooMany.xc.kp T.x_TooMany.xc.xc (D1k T) T.x_TooMany.xc.fi T.x_TooMany.xc.fn (A1 (D2 (v:=V.int 40) rfl T.g_MOST_WAYS.m ⟨_,rfl⟩) A6 A0)))
   M9)
   (C0 (A8s (u1 (M3 hr)) (L1 (pv 0) rfl) (pv 1) (V0 (A1 (pv 2) (A1 (pv 3) (A1 (pv 4) A6 A0) A0) A0)) rfl)
   (D1 (G6 (O5 (pv 0) T.ac T.ai.m av (hr.mono DD) aw .nil A9)))))))),?_⟩
  refine⟨_,rfl,V6 (E:=E0) (λd=>d=.bool (A01 a)) (.cons t1 .nil) ⟨a,rfl,rfl⟩ λd' v1 H1 hd t1' s1=>?_⟩
  subst hd
  cases t1'
  refine⟨_,rfl,?_⟩
  rcases why with ⟨nl,rfl⟩ | ⟨x,rfl,lx,why⟩
  ·rw[nl]
   exact J0 ⟨⟨_,rfl⟩,rz _ _ _ rfl s1 rfl⟩
  rw[B6c lx]
  cases t1
  refine E2 ⟨_,rfl,_,rfl,p,_,dx,_,_,rfl,s1 _ _ e1,T.ac,T.aF,Y8,d,_,rfl,U6.k (k:=Sum.inl x) (s1 _ _ e4),_,rfl,?_⟩
  rcases why with ⟨w0,hw,rfl,rfl⟩ | ⟨hn,why⟩
  ·rcases kv.val x with ⟨_,z⟩ | ⟨v0,w1,hv,hw1,tv⟩
   ·rw[hw] at z;cases z
   rw[hv]
   exact J0 ⟨_,rfl,_,rfl,λdx hd=>rz _ _ _ rfl (s1.tr (Same.upd hd)) ⟨dx,rfl,B2⟩⟩
  rcases kv.val x with ⟨hv,_⟩ | ⟨v0,w1,hv,hw1,tv⟩
  rotate_left
  ·rw[hn] at hw1;cases hw1
  rw[hv]
  refine E2 ⟨_,rfl,p,_,dx,_,_,rfl,s1 _ _ e1,T.ac,T.cf,A5l,_,rfl,_,rfl,_,rfl,by show 3<=sizeLine;decide,λt ht=>?_⟩
  have s2:=s1.tr (Same.upd (o:=.tup [y2,y3,y4]) ht)
  refine V6 (E:=E0) (λd=>d=.bool (M8 ((k.m:Nat):Int) b&&(M8 ((k.m:Nat):Int) c&&chB e))) (.cons (.int _) (.cons (.tup trivial B2 (.cons (t2'.keep s2) (.cons (t3'.keep s2) (.cons (t4.keep s2) .nil)))) .nil)) ⟨_,b,c,e,rfl,rfl⟩ λd' v1 H3 hd t5 s3=>?_
  subst hd
  cases t5
  have s4:=s2.tr s3
  refine⟨_,rfl,?_⟩
  rcases why with ⟨nw,rfl⟩ | ⟨yw,h40,rfl,rfl⟩
  ·rw[nw]
   exact J0 ⟨⟨_,rfl⟩,rz _ _ _ rfl s4 rfl⟩
  rw[yw]
  refine E2 ⟨_,rfl,p,_,dx,_,_,rfl,s4 _ _ e1,T.ac,T.aF,Y8,d,kvs,rfl,s4 _ _ e4,_,_,rfl,rfl,_,rfl,?_⟩
  rw[kv.len,decide_eq_true (show (40:Int)<=((k.kws.length:Nat):Int) by lia)]
  exact J0 ⟨_,rfl,λdx hd=>rz _ _ _ rfl (s4.tr (Same.upd hd)) ⟨dx,rfl,B2⟩⟩
theorem D5r (T:Txt K mg):B9 P w K mg base (CXe P w) 11 T.bG.a T.bG.d ["self", "label"] (spX T C2w):=by
 have dA:=@C20 P w K mg base T
 have bY:=T.aA.b
 have av:=@A1l P w K mg base T
 have aw:=T.ai.b
 refine T.bG.F.okX C1i (λvs H Q E h=>?_) (λcdv A outer s H vs Q E hr h=>?_)
 ·obtain⟨F,p,d,k,us,ds,r,v,rfl,_,tus,_,⟨a,rfl,_⟩,_⟩:=h
  rw[G3,tus.len];rfl
 ·obtain⟨F,p,d,k,us,ds,r,v,rfl,kp,tus,_,⟨a,rfl,nw,rfl,rfl⟩,rz⟩:=h
  obtain⟨y1,e0,t1⟩:=X7 tus
  cases e0
  have kp0:=kp
  obtain⟨⟨dx,g,l,ug,ul,e1,g1,e2,t2,g3,e3,t3⟩,kvs,e4,kv⟩:=kp
  refine⟨_,(C0 (T6 (A0b (pv 0) T.ac T.aA.m dA (hr.mono DD) bY .nil (A5d rfl A1g) (A1 (pv 1) A6 A0) (hst:=A0) (hpl:=A5)))
   (C0 (T6 (C0m (L1 (pv 0) rfl) (pv 1) ⟨rfl,rfl,rfl,rfl⟩))
   (D1 (G6 (O5 (pv 0) T.ac T.ai.m av (hr.mono DD) aw .nil A9))))),?_⟩
  exact⟨_,rfl,p,dx,_,rfl,e1,K4 KK,_,rfl,F,p,d,k,v,a,rfl,kp0,t1,.inr ⟨nw,rz⟩⟩
theorem D5s (T:Txt K mg):B9 P w K mg base (CXe P w) 11 T.bH.a T.bH.d ["self", "label", "change"] (spX T C2x):=by
 have dA:=@C20 P w K mg base T
 have bY:=T.aA.b
 have cj:=@B53 P w K mg base T
 have ck:=T.ax.b
 have av:=@A1l P w K mg base T
 have aw:=T.ai.b
 refine T.bH.F.okX B1h (λvs H Q E h=>?_) (λcdv A outer s H vs Q E hr h=>?_)
 ·obtain⟨F,p,d,k,us,ds,r,v,rfl,_,tus,_,⟨a,c,rfl,_⟩,_⟩:=h
  rw[G3,tus.len];rfl
 ·obtain⟨F,p,d,k,us,ds,r,v,rfl,kp,tus,_,⟨a,c,rfl,why⟩,rz⟩:=h
  obtain⟨y1,y2,rfl,t1,tc⟩:=m6 tus
  have kp0:=kp
  obtain⟨⟨dx,g,l,ug,ul,e1,g1,e2,t2,g3,e3,t3⟩,kvs,e4,kv⟩:=kp
  refine⟨_,(C0 (C4 (i:=3) B1h.nd rfl (B7 rfl) (A0b (pv 0) T.ac T.aA.m dA (hr.mono DD) bY .nil (A5d rfl A1g) (A1 (pv 1) A6 A0) (hst:=A0) (hpl:=A5)))
   (C0 (K9 (Q8 (P3 (B6 cj (hr.mono DD) rfl T.ax.m T.ax.F.kp ck .nil A9 (A1 (pv 2) A6 A0) (he:=A0) (hpl:=A5))))
   (D1 (A8u A1g rfl rfl rfl T.cW T.xc_BadWay.kp T.xc_BadWay.xc (A1 O4 A6 A8)))
   M9)
   (C0 (A8s (u1 (M3 hr)) (L1 (pv 0) rfl) (pv 1) (V0 (A1 (G9 k9 (pv 3) (D2 (v:=V.int 0) rfl T.g_START.m ⟨_,rfl⟩) (λ_ _=>rfl)) (A1 (G9 k9 (pv 3) (D2 (v:=V.int 1) rfl T.g_END.m ⟨_,rfl⟩) (λ_ _=>rfl)) (A1 (pv 2) A6 A0) C1) C1)) rfl)
   (D1 (G6 (O5 (pv 0) T.ac T.ai.m av (hr.mono DD) aw .nil A9)))))),?_⟩
  refine⟨_,rfl,p,dx,_,rfl,e1,K4 KK,_,rfl,F,p,d,k,y1,a,rfl,kp0,t1,?_⟩
  rcases why with ⟨nw,rfl,u,e0⟩ | ⟨x,w0,rfl,lx,hw,nc,rfl⟩
  ·cases e0
   exact .inr ⟨nw,rz⟩
  ·refine .inl ⟨x,w0,rfl,lx,hw,λv' H1 tv s1=>?_⟩
   refine⟨_,rfl,V6 (E:=E0) (λd=>d=.bool (chB c)) (.cons (tc.keep s1) .nil) ⟨c,rfl,rfl⟩ λd' v1 H2 hd t5 s2=>?_⟩
   subst hd
   cases t5
   refine⟨_,rfl,?_⟩
   rw[nc]
   exact J0 ⟨⟨_,rfl⟩,rz _ _ _ rfl (s1.tr s2) rfl⟩
theorem D5t (T:Txt K mg):B9 P w K mg base (CXe P w) 11 T.bj.a T.bj.d ["self", "store"] (spX T C2y):=by
 have dy:=@C2g P w K mg base T
 have dz:=T.aI.b
 have bM:=@B55 P w K mg base T
 have bN:=T.aj.b
 have av:=@A1l P w K mg base T
 have aw:=T.ai.b
 refine T.bj.F.okX C1j (λvs H Q E h=>?_) (λcdv A outer s H vs Q E hr h=>?_)
 ·obtain⟨F,p,d,k,us,ds,r,v,rfl,_,tus,_,⟨a,rfl,_⟩,_⟩:=h
  rw[G3,tus.len];rfl
 ·obtain⟨F,p,d,k,us,ds,r,v,rfl,kp,tus,hg4,⟨a,rfl,why,rfl⟩,rz⟩:=h
  obtain⟨y1,rfl,t1⟩:=X7 tus
  obtain⟨⟨dx,g,l,ug,ul,e1,g1,e2,t2,g3,e3,t3⟩,kvs,e4,kv⟩:=kp
  refine⟨_,(C0 (K9 (PW.pt (A2r (Q8 (P3 (B6 dy (hr.mono DD) rfl T.aI.m T.aI.F.kp dz .nil A9 (A1 (pv 1) A6 A0) (he:=A0) (hpl:=A5)))) (A2q (Q8 (P3 (B6 bM (hr.mono DD) rfl T.aj.m T.aj.F.kp bN .nil A9 (A1 (L1 (pv 0) rfl) (A1 (pv 1) (A1 (L1 (pv 0) rfl) A6 G4) A0) G4) (he:=G4) (hpl:=(A7 A0 (A7 G4 A5)))))))))
   (D1 (A8u A1g rfl rfl rfl T.cZ T.xc_BadStore.kp T.xc_BadStore.xc (A1 O4 A6 A8)))
   M9)
   (C0 (A06 (pv 0) (pv 1) rfl)
   (D1 (G6 (O5 (pv 0) T.ac T.ai.m av (hr.mono DD) aw .nil A9))))),?_⟩
  refine⟨_,rfl,V6 (E:=E0) (λd=>d=.bool (A2d a)) (.cons t1 .nil) ⟨a,rfl,rfl⟩ λd' v1 H1 hd t5 s1=>?_⟩
  subst hd
  cases t5
  refine⟨_,rfl,?_⟩
  rcases why with ns | ⟨x,rfl,⟨x0,x1⟩,nt⟩
  ·rw[ns]
   exact J0 (J0 ⟨⟨_,rfl⟩,rz _ _ _ rfl s1 rfl⟩)
  ·rw[show A2d (.int x)=true from decide_eq_true ⟨x0,x1⟩]
   cases t1
   refine E2 ⟨_,rfl,p,_,dx,_,_,rfl,s1 _ _ e1,T.ac,T.cf,A5l,_,rfl,_,rfl,p,_,dx,_,_,rfl,s1 _ _ e1,T.ac,T.bQ,B1p,V6 (E:=E0) (λd=>d=.bool (a8 k.m x (.list (B4 k.g)))) (.cons (.int _) (.cons (.int _) (.cons (.lst trivial (s1 _ _ e2) (M5 t2)) .nil))) ⟨k.m,x,_,rfl,λds e=>by cases e;rw[W7];exact hg4,rfl⟩ λd' v1 H2 hd t5 s2=>?_⟩
   subst hd
   cases t5
   refine⟨_,rfl,?_⟩
   rw[nt]
   exact J0 ⟨⟨_,rfl⟩,rz _ _ _ rfl (s1.tr s2) rfl⟩
theorem D5u (T:Txt K mg):B9 P w K mg base (CXe P w) 11 T.cg.a T.cg.d ["self", "goal"] (spX T C2z):=by
 have bM:=@B55 P w K mg base T
 have bN:=T.aj.b
 have av:=@A1l P w K mg base T
 have aw:=T.ai.b
 refine T.cg.F.okX C1k (λvs H Q E h=>?_) (λcdv A outer s H vs Q E hr h=>?_)
 ·obtain⟨F,p,d,k,us,ds,r,v,rfl,_,tus,_,⟨a,rfl,_⟩,_⟩:=h
  rw[G3,tus.len];rfl
 ·obtain⟨F,p,d,k,us,ds,r,v,rfl,kp,tus,_,⟨a,rfl,ha,nt,rfl⟩,rz⟩:=h
  obtain⟨y1,rfl,t1⟩:=X7 tus
  obtain⟨⟨dx,g,l,ug,ul,e1,g1,e2,t2,g3,e3,t3⟩,kvs,e4,kv⟩:=kp
  refine⟨_,(C0 (K9 (Q8 (P3 (B6 bM (hr.mono DD) rfl T.aj.m T.aj.F.kp bN .nil A9 (A1 (L1 (pv 0) rfl) (A1 (L1 (pv 0) rfl) (A1 (pv 1) A6 A0) G4) G4) (he:=G4) (hpl:=(A7 G4 (A7 A0 A5))))))
   (D1 (A8u A1g rfl rfl rfl T.dv T.xc_BadGoal.kp T.xc_BadGoal.xc (A1 O4 A6 A8)))
   M9)
   (C0 (A06 (pv 0) (j9 A1y rfl T.bO A0t (A1 (pv 1) A6 A0) (he:=A0) (hpl:=A5)) rfl)
   (D1 (G6 (O5 (pv 0) T.ac T.ai.m av (hr.mono DD) aw .nil A9))))),?_⟩
  refine⟨_,rfl,p,_,dx,_,_,rfl,e1,T.ac,T.cf,A5l,_,rfl,p,_,dx,_,_,rfl,e1,T.ac,T.cy,A83,_,rfl,V6 (E:=E0) (λd=>d=.bool (a8 k.m k.st a)) (.cons (.int _) (.cons (.int _) (.cons t1 .nil))) ⟨k.m,k.st,a,rfl,ha,rfl⟩ λd' v1 H2 hd t5 s2=>?_⟩
  subst hd
  cases t5
  refine⟨_,rfl,?_⟩
  rw[nt]
  exact J0 ⟨⟨_,rfl⟩,rz _ _ _ rfl s2 rfl⟩
end
abbrev Frp (p d:Addr) (H H':Hp):Prop:=∀b o,H b=some o->b≠p->b≠d->H' b=some o
theorem a9 {F:Addr->Prop} {C:Addr} {H H':Hp} {p d:Addr} {k:Kst} (kp:E9 F C H' p d k) (fr:Frp p d H H') {b:Addr} (hb:H' b=none):H b=none:=by
 cases z:H b with
 | none=>rfl
 | some o=>
  have pd:=A1k kp
  by_cases c1:b=p
  ·rw[c1] at hb;exact absurd hb pd.2.1
  ·by_cases c2:b=d
   ·rw[c2] at hb;exact absurd hb pd.2.2
   ·rw[fr _ _ z c1 c2] at hb;cases hb
def V2.word:V2->Str
 | .lay _ _=> "lay"
 | .lift _=> "lift"
 | .turn _ _=> "turn"
 | .refill _=> "refill"
 | .aim _=> "aim"
theorem C21 {H H':Hp} {p:Addr} {o:HO} (k:∀b o,H b=some o->H' b=some o) (n:H' p=none):∀b u,H b=some u->upd H' p o b=some u:=λb u z=>by
 have z':=k b u z
 rw[B1 (P6 z' n)];exact z'
structure B6d {K:A4} {mg:Str->Option Value} (T:Txt K mg) (c:Addr) (r:Nat):Prop where
 cl:XCl K c
 em:A70 K (.ref c) (.ref T.af)=some true
 k0:K5 K (.ref c) (.ref T.aG)=some (r == 0)
 k1:K5 K (.ref c) (.ref T.bu)=some (r == 1)
 k2:K5 K (.ref c) (.ref T.aX)=some (r == 2)
 k3:K5 K (.ref c) (.ref T.aK)=some (r == 3)
 k4:K5 K (.ref c) (.ref T.aW)=some (r == 4)
 k5:K5 K (.ref c) (.ref T.aH)=some (r == 5)
 k6:K5 K (.ref c) (.ref T.aQ)=some (r == 6)
 na:∀f,o8 r=some f->d7 K c f
theorem A5o {K:A4} {mg:Str->Option Value} (T:Txt K mg) {c:Addr} {r:Nat} (h:(clR T)[r]?=some c) (cl:XCl K c) (em:A70 K (.ref c) (.ref T.af)=some true) (na:∀f,o8 r=some f->d7 K c f):B6d T c r:=
 ⟨cl,em,T.kits.at (j:=0) h rfl,T.kits.at (j:=1) h rfl,T.kits.at (j:=2) h rfl,T.kits.at (j:=3) h rfl,T.kits.at (j:=4) h rfl,T.kits.at (j:=5) h rfl,T.kits.at (j:=6) h rfl,na⟩
theorem D5v {K:A4} {mg:Str->Option Value} (T:Txt K mg) {c:Addr}:∀{r:Nat},(clR T)[r]?=some c->B6d T c r
 | 0,h=>by cases h;exact A5o T rfl T.xc_BadLabel.cl T.xc_BadLabel.em λf z=>nomatch z
 | 1,h=>by cases h;exact A5o T rfl T.x_Taken.xc.cl T.x_Taken.xc.em λf z=>by cases z;exact T.x_Taken.xc.f2
 | 2,h=>by cases h;exact A5o T rfl T.xc_BadWay.cl T.xc_BadWay.em λf z=>nomatch z
 | 3,h=>by cases h;exact A5o T rfl T.x_TooMany.xc.cl T.x_TooMany.xc.em λf z=>by cases z;exact T.x_TooMany.xc.f2
 | 4,h=>by cases h;exact A5o T rfl T.x_NoWay.xc.cl T.x_NoWay.xc.em λf z=>by cases z;exact T.x_NoWay.xc.f2
 | 5,h=>by cases h;exact A5o T rfl T.xc_BadStore.cl T.xc_BadStore.em λf z=>nomatch z
 | 6,h=>by cases h;exact A5o T rfl T.xc_BadGoal.cl T.xc_BadGoal.em λf z=>nomatch z
 | n + 7,h=>by cases h
def C22 (k:Kst) (wd:Str) (us:List V) (ds:List PyData) (r:Nat) (v:V):Prop:=(wd = "lay" /\C2v k us ds r v)\/(wd = "lift" /\C2w k us ds r v)\/(wd = "turn" /\C2x k us ds r v)\/(wd = "refill" /\C2y k us ds r v)\/(wd = "aim" /\C2z k us ds r v)
def A7m (r:Nat):List Bool:=[r == 0,r == 1,r == 2,r == 3,r == 4,r == 5,r == 6]
def B6e (H:Hp) (Q:VK) (r:Nat) (v:V):Prop:=∀t p l H',H' t=some (.tup [.ref p,.ref l])->H' p=some (.lst ((A7m r).map V.bl))->H' l=some (.lst (if (o8 r).isSome=true then [v] else []))->Same H H'->Q (.ref t) H'
def C23 {K:A4} {mg:Str->Option Value} (T:Txt K mg):Sp:=λvs H Q _=>∃(F:Addr->Prop) (p d:Addr) (k:Kst) (wd:Str) (l:Addr) (us:List V) (ds:List PyData),vs=[.ref p,.str wd,.ref l]/\(∀b,H b=none->F b)/\E9 F T.aa H p d k/\H l=some (.lst us)/\B0 TT0 H us ds/\k.g.length<=400/\
 ((∃dd:V2,wd=dd.word/\ds=dd.args/\KOk k.m k.st k.g k.kws/\k.low.length=k.m/\A7j k dd/\∀v k' H',(∃r,B1r (S5 k dd) k.low r k')->E9 F T.aa H' p d k'->ThV TT0 H' v (.tuple [.list [],.list []])->Frp p d H H'->Q v H')\/
  (∃r v,C22 k wd us ds r v/\B6e H Q r v))
theorem A2e {X:Cx} {pn:List (Addr×Obj)} {E:Value->Shared->Prop}:IxR (X.pinned pn E) (d8 X.K):=Q4
theorem B6f:∀{a b:Tb},B4 a=B4 b->a=b
 | [],[],_=>rfl
 | [],_::_,h=>by cases h
 | _::_,[],h=>by cases h
 | x::a,y::b,h=>by
  injection h with h1 h2
  have e:x=y:=by
   cases x with
   | none=>cases y with
    | none=>rfl
    | some _=>cases h1
   | some u=>cases y with
    | none=>cases h1
    | some v=>cases h1;rfl
  rw[e,B6f h2]
theorem B6g {x x':Int} {w w':Wy} (h:V2.args (.lay x w)=V2.args (.lay x' w')):x=x'/\w=w':=by
 obtain⟨a,b,c⟩:=w
 obtain⟨a',b',c'⟩:=w'
 injection h with h1 h
 injection h with h2 h
 injection h with h3 h
 injection h with h4 h
 have h1:=PyData.int.inj h1
 have h2:((a:Nat):Int)=((a':Nat):Int):=PyData.int.inj h2
 have h3:((b:Nat):Int)=((b':Nat):Int):=PyData.int.inj h3
 have h4:c=c':=PyData.int.inj h4
 have h2:a=a':=by lia
 have h3:b=b':=by lia
 exact⟨h1,by rw[h2,h3,h4]⟩
section
variable {K:A4} {σ:L2.St} {H:Hp} {D:X3} {p l dx C:Addr} {fs:List (Str×V)} {m:Str} {sp:Sp} {E:XK} {ta tb:TS} {x c:Str} {a b e f:V}
theorem A2f (h:σ[1]?=some (some (.str x))) (n:x=c) (q:ta D σ H):A75 (A92 (tOp rEq (G0 1) (tC (.str c)))) ta tb D σ H:=by
 refine⟨_,h,rfl,_,rfl,?_⟩
 rw[n,show decide (V.str c=V.str c)=true from decide_eq_true rfl]
 exact J0 q
theorem U7 (h:σ[1]?=some (some (.str x))) (n:x≠c) (q:tb D σ H):A75 (A92 (tOp rEq (G0 1) (tC (.str c)))) ta tb D σ H:=by
 refine⟨_,h,rfl,_,rfl,?_⟩
 rw[show decide (V.str x=V.str c)=false from decide_eq_false λz=>n (V.str.inj z)]
 exact E2 q
theorem A7n (h0:σ[0]?=some (some (.ref p))) (h2:σ[2]?=some (some (.ref l))) (e1:H p=some (.ins C dx fs)) (hn:fs.lookup m=none) (el:H l=some (.lst [a])) (q:sp [.ref p,a] H (λ_ H'=>D.nx σ H') E) :
  A73 (A8b C m sp [] E (G0 0) (D9 (tOp (d8 K) (G0 2) (tC (V.int 0))) G7)) D σ H:=
 ⟨_,h0,p,dx,fs,rfl,e1,hn,_,h2,l,_,_,_,rfl,rfl,SqL.of el,rfl,q⟩
theorem C24 (h0:σ[0]?=some (some (.ref p))) (h2:σ[2]?=some (some (.ref l))) (e1:H p=some (.ins C dx fs)) (hn:fs.lookup m=none) (el:H l=some (.lst [a,b])) (q:sp [.ref p,a,b] H (λ_ H'=>D.nx σ H') E) :
  A73 (A8b C m sp [] E (G0 0) (D9 (tOp (d8 K) (G0 2) (tC (V.int 0))) (D9 (tOp (d8 K) (G0 2) (tC (V.int 1))) G7))) D σ H:=
 ⟨_,h0,p,dx,fs,rfl,e1,hn,_,h2,l,_,_,_,rfl,rfl,SqL.of el,rfl,_,h2,l,_,_,_,rfl,rfl,SqL.of el,rfl,q⟩
theorem C25 (h0:σ[0]?=some (some (.ref p))) (h2:σ[2]?=some (some (.ref l))) (e1:H p=some (.ins C dx fs)) (hn:fs.lookup m=none) (el:H l=some (.lst [a,b,e,f])) (q:sp [.ref p,a,b,e,f] H (λ_ H'=>D.nx σ H') E) :
  A73 (A8b C m sp [] E (G0 0) (D9 (tOp (d8 K) (G0 2) (tC (V.int 0))) (D9 (tOp (d8 K) (G0 2) (tC (V.int 1))) (D9 (tOp (d8 K) (G0 2) (tC (V.int 2))) (D9 (tOp (d8 K) (G0 2) (tC (V.int 3))) G7))))) D σ H:=
 ⟨_,h0,p,dx,fs,rfl,e1,hn,_,h2,l,_,_,_,rfl,rfl,SqL.of el,rfl,_,h2,l,_,_,_,rfl,rfl,SqL.of el,rfl,_,h2,l,_,_,_,rfl,rfl,SqL.of el,rfl,_,h2,l,_,_,_,rfl,rfl,SqL.of el,rfl,q⟩
theorem D5w {Q:VK} {nx:L2.St->Hp->Prop} (q:∀v H',ThV TT0 H' v (.tuple [.list [],.list []])->Same H H'->Q v H'):A74 (A8a (D9 (A0a G7) (D9 (A0a G7) G7))) { nx:=nx,rt:=Q } σ H:=by
 refine⟨by show 0<=sizeLine;decide,λl1 h1=>⟨by show 0<=sizeLine;decide,λl2 h2=>⟨by show 2<=sizeLine;decide,λt ht=>?_⟩⟩⟩
 have s1:Same H (upd H l1 (.lst [])):=Same.upd h1
 have s2:Same (upd H l1 (.lst [])) (upd (upd H l1 (.lst [])) l2 (.lst [])):=Same.upd h2
 have s3:=Same.upd (o:=.tup [.ref l1,.ref l2]) ht
 exact q _ _ (.tup trivial B2 (.cons (.lst trivial (s3 _ _ (s2 _ _ B2)) .nil) (.cons (.lst trivial (s3 _ _ B2) .nil) .nil))) ((s1.tr s2).tr s3)
end
section
variable {K:A4} {mg:Str->Option Value} {T:Txt K mg} {a c:Addr} {dd:Option Addr} {H:Hp} {r:Nat} {v:V} {Q:VK} {nx:L2.St->Hp->Prop}
theorem ixS {σ:L2.St} {H:Hp} {p:Addr} {xs:List V} {n:Nat} {b:Bool} {Q:Bool->Hp->Prop} (h:σ[4]?=some (some (.ref p))) (hp:H p=some (.lst xs)) (hx:xs[n]?=some (.bl b)) (q:Q b H):tB (tOp (d8 K) (G0 4) (tC (.int ((n:Nat):Int)))) σ H Q:=
 ⟨_,h,p,xs,_,_,rfl,rfl,SqL.of hp,A0q hx,_,rfl,q⟩
theorem _root_.My.FldAt.mv {f:Option Str} {v:V} {dd:Option Addr} {H H':Hp} (h:FldAt f v dd H) (s:Same H H'):FldAt f v dd H':=by
 cases f with
 | none=>exact h
 | some f=>
  obtain⟨dx,z1,z2⟩:=h
  exact⟨dx,z1,s _ _ z2⟩
theorem _root_.My.FldAt.ex {f:Option Str} {v:V} {dx:Addr} {H:Hp} (h:FldAt f v (some dx) H):∃o,H dx=some o:=by
 cases f with
 | none=>cases h
 | some f=>
  obtain⟨dx',z1,z2⟩:=h
  cases z1
  exact⟨_,z2⟩
section
variable {K:A4} {σ:L2.St} {H:Hp} {a C:Addr} {dd:Option Addr}
theorem D5x {T1 T2 T3 T4:Addr} {b1 b2 b3 b4:Bool} {Q:VK} (h:Xat K H a C dd) (h3:σ[3]?=some (some (.ref a))) (k1:K5 K (.ref C) (.ref T1)=some b1) (k2:K5 K (.ref C) (.ref T2)=some b2) (k3:K5 K (.ref C) (.ref T3)=some b3) (k4:K5 K (.ref C) (.ref T4)=some b4) (q:∀p,H p=none->Q (.ref p) (upd H p (.lst [.bl b1,.bl b2,.bl b3,.bl b4]))):(A0a (D9 (tCB (Y6 K) (D9 (G0 3) (D9 (tC (.ref T1)) G7))) (D9 (tCB (Y6 K) (D9 (G0 3) (D9 (tC (.ref T2)) G7))) (D9 (tCB (Y6 K) (D9 (G0 3) (D9 (tC (.ref T3)) G7))) (D9 (tCB (Y6 K) (D9 (G0 3) (D9 (tC (.ref T4)) G7))) G7))))) σ H Q:=
 h.isx h3 k1 (h.isx h3 k2 (h.isx h3 k3 (h.isx h3 k4 ⟨by show 4<=sizeLine;decide,q⟩)))
theorem D5y {T1 T2 T3:Addr} {b1 b2 b3:Bool} {Q:VK} (h:Xat K H a C dd) (h3:σ[3]?=some (some (.ref a))) (k1:K5 K (.ref C) (.ref T1)=some b1) (k2:K5 K (.ref C) (.ref T2)=some b2) (k3:K5 K (.ref C) (.ref T3)=some b3) (q:∀p,H p=none->Q (.ref p) (upd H p (.lst [.bl b1,.bl b2,.bl b3]))):(A0a (D9 (tCB (Y6 K) (D9 (G0 3) (D9 (tC (.ref T1)) G7))) (D9 (tCB (Y6 K) (D9 (G0 3) (D9 (tC (.ref T2)) G7))) (D9 (tCB (Y6 K) (D9 (G0 3) (D9 (tC (.ref T3)) G7))) G7)))) σ H Q:=
 h.isx h3 k1 (h.isx h3 k2 (h.isx h3 k3 ⟨by show 3<=sizeLine;decide,q⟩))
theorem D5z {r:TS} {D:X3} {T1 T2 T3 T4:Addr} {b1 b2 b3 b4:Bool} (h:Xat K H a C dd) (h3:σ[3]?=some (some (.ref a))) (k1:K5 K (.ref C) (.ref T1)=some b1) (k2:K5 K (.ref C) (.ref T2)=some b2) (k3:K5 K (.ref C) (.ref T3)=some b3) (k4:K5 K (.ref C) (.ref T4)=some b4) (q:∀p,H p=none->r D (σ.set 4 (some (.ref p))) (upd H p (.lst [.bl b1,.bl b2,.bl b3,.bl b4]))):X8 (x6 (A0a (D9 (tCB (Y6 K) (D9 (G0 3) (D9 (tC (.ref T1)) G7))) (D9 (tCB (Y6 K) (D9 (G0 3) (D9 (tC (.ref T2)) G7))) (D9 (tCB (Y6 K) (D9 (G0 3) (D9 (tC (.ref T3)) G7))) (D9 (tCB (Y6 K) (D9 (G0 3) (D9 (tC (.ref T4)) G7))) G7))))) (c8 4)) r D σ H:=by
 unfold X8 x6 c8
 exact D5x (Q:=λx H1=>r D (σ.set 4 (some x)) H1) h h3 k1 k2 k3 k4 q
theorem D50 {r:TS} {D:X3} {T1 T2 T3 p0:Addr} {xs:List V} {b1 b2 b3:Bool} (h:Xat K H a C dd) (h3:σ[3]?=some (some (.ref a))) (hp:σ[4]?=some (some (.ref p0))) (hx:H p0=some (.lst xs)) (hl:xs.length<=100) (k1:K5 K (.ref C) (.ref T1)=some b1) (k2:K5 K (.ref C) (.ref T2)=some b2) (k3:K5 K (.ref C) (.ref T3)=some b3)
  (q:∀p H',Same H H'->H' p=some (.lst (xs++[.bl b1,.bl b2,.bl b3]))->r D (σ.set 4 (some (.ref p))) H'):X8 (x6 (tOp B26 (G0 4) (A0a (D9 (tCB (Y6 K) (D9 (G0 3) (D9 (tC (.ref T1)) G7))) (D9 (tCB (Y6 K) (D9 (G0 3) (D9 (tC (.ref T2)) G7))) (D9 (tCB (Y6 K) (D9 (G0 3) (D9 (tC (.ref T3)) G7))) G7))))) (c8 4)) r D σ H:=by
 unfold X8 x6 c8 tOp G0
 refine⟨_,hp,D5y (Q:=λy H2=>B26 (.ref p0) y H2 λx H1=>r D (σ.set 4 (some x)) H1) h h3 k1 k2 k3 λp1 n1=>⟨p0,p1,xs,_,rfl,rfl,by rw[B1 (P6 hx n1)];exact hx,B2,?_,λp n=>q p _ (C21 (C21 (λb o z=>z) n1) n) B2⟩⟩
 exact X0 (Nat.add_le_add_right hl 3) (by show 103<=sizeLine;decide)
end
set_option maxHeartbeats 400000 in
theorem D51 {p:Addr} (D:B6d T c r) (hr7:r < 7) (hX:Xat K H a c dd) (hp:H p=some (.lst ((A7m r).map V.bl))) (fl:FldAt (o8 r) v dd H) (q:∀t l H',H' t=some (.tup [.ref p,.ref l])->H' l=some (.lst (if (o8 r).isSome=true then [v] else []))->Same H H'->Q (.ref t) H') :
  (X8 (x6 (A0a G7) (c8 5))
    (X8
     (A75 (tOr (tB (tOp (d8 K) (G0 4) (tC (V.int 1)))) (tB (tOp (d8 K) (G0 4) (tC (V.int 4)))))
      (x6 (A0a (D9 (tXf K (G0 3) "label") G7)) (c8 5)) B2o)
     (X8
      (A75 (tB (tOp (d8 K) (G0 4) (tC (V.int 3))))
       (x6 (A0a (D9 (tXf K (G0 3) "most") G7)) (c8 5)) B2o)
      (A74 (A8a (D9 (G0 4) (D9 (G0 5) G7))))))) { nx:=nx,rt:=Q } [none,none,none,some (.ref a),some (.ref p),none] H:=by
 refine⟨by show 0<=sizeLine;decide,λl0 h0=>?_⟩
 have s0:Same H (upd H l0 (.lst [])):=Same.upd h0
 obtain⟨H1,hH1⟩:∃H1,H1=upd H l0 (.lst []):=⟨_,rfl⟩
 have el0:H1 l0=some (.lst []):=by rw[hH1];exact B2
 rw[<-hH1] at s0
 show X8 _ _ _ [none,none,none,some (.ref a),some (.ref p),some (.ref l0)] (upd H l0 (.lst []))
 rw[<-hH1]
 clear hH1
 have hX1:=hX.keep s0
 have hp1:=s0 _ _ hp
 have fin:∀l H2,Same H1 H2->H2 l=some (.lst (if (o8 r).isSome=true then [v] else []))->A74 (A8a (D9 (G0 4) (D9 (G0 5) G7))) { nx:=nx,rt:=Q } [none,none,none,some (.ref a),some (.ref p),some (.ref l)] H2:=λl H2 s2 e2=>
  ⟨_,rfl,_,rfl,by show 2<=sizeLine;decide,λt ht=>q t l _ B2 (Same.upd ht _ _ e2) ((s0.tr s2).tr (Same.upd ht))⟩
 rcases (show r=0\/r=1\/r=2\/r=3\/r=4\/r=5\/r=6 by lia) with rfl | rfl | rfl | rfl | rfl | rfl | rfl
 ·exact ixS (n:=1) rfl hp1 rfl (E2 (ixS (n:=4) rfl hp1 rfl (E2 (ixS (n:=3) rfl hp1 rfl (E2 (fin _ _ (λ_ _ z=>z) el0))))))
 ·obtain⟨dx,e,ex⟩:=(show ∃dx,dd=some dx/\H dx=some (.xd [("label",v)]) from fl)
  subst e
  exact ixS (n:=1) rfl hp1 rfl (J0 (J0 ⟨_,rfl,a,c,dx,v,rfl,hX1.h1,s0 _ _ ex,hX1.cl,D.na _ rfl,by show 1<=sizeLine;decide,λl hl=>ixS (n:=3) rfl (Same.upd hl _ _ hp1) rfl (E2 (fin l _ (Same.upd hl) B2))⟩))
 ·exact ixS (n:=1) rfl hp1 rfl (E2 (ixS (n:=4) rfl hp1 rfl (E2 (ixS (n:=3) rfl hp1 rfl (E2 (fin _ _ (λ_ _ z=>z) el0))))))
 ·obtain⟨dx,e,ex⟩:=(show ∃dx,dd=some dx/\H dx=some (.xd [("most",v)]) from fl)
  subst e
  exact ixS (n:=1) rfl hp1 rfl (E2 (ixS (n:=4) rfl hp1 rfl (E2 (ixS (n:=3) rfl hp1 rfl (J0 ⟨_,rfl,a,c,dx,v,rfl,hX1.h1,s0 _ _ ex,hX1.cl,D.na _ rfl,by show 1<=sizeLine;decide,λl hl=>fin l _ (Same.upd hl) B2⟩)))))
 ·obtain⟨dx,e,ex⟩:=(show ∃dx,dd=some dx/\H dx=some (.xd [("label",v)]) from fl)
  subst e
  exact ixS (n:=1) rfl hp1 rfl (E2 (ixS (n:=4) rfl hp1 rfl (J0 ⟨_,rfl,a,c,dx,v,rfl,hX1.h1,s0 _ _ ex,hX1.cl,D.na _ rfl,by show 1<=sizeLine;decide,λl hl=>ixS (n:=3) rfl (Same.upd hl _ _ hp1) rfl (E2 (fin l _ (Same.upd hl) B2))⟩)))
 ·exact ixS (n:=1) rfl hp1 rfl (E2 (ixS (n:=4) rfl hp1 rfl (E2 (ixS (n:=3) rfl hp1 rfl (E2 (fin _ _ (λ_ _ z=>z) el0))))))
 ·exact ixS (n:=1) rfl hp1 rfl (E2 (ixS (n:=4) rfl hp1 rfl (E2 (ixS (n:=3) rfl hp1 rfl (E2 (fin _ _ (λ_ _ z=>z) el0))))))
end
def E0T {K:A4} {mg:Str->Option Value} (T:Txt K mg) (H:Hp) (Q:VK):XK:=λx dd H'=>∃c r v,x=.ref c/\(clR T)[r]?=some c/\Same H H'/\FldAt (o8 r) v dd H'/\B6e H Q r v
theorem D52 {K:A4} {mg:Str->Option Value} {T:Txt K mg} {H:Hp} {Q:VK} {r:Nat} {v:V} (b:B6e H Q r v):Rzd T r v H (E0T T H Q):=λc dd H' hc s f=>⟨c,r,v,rfl,hc,s,f,b⟩
section
variable {P:Program} {w:World} {K:A4} {mg:Str->Option Value} {base:Heap}
set_option maxHeartbeats 800000 in
theorem D53 (T:Txt K mg):B9 P w K mg base CX0 12 T.aL.a T.aL.d ["_law_keeper", "_law_word", "_law_things"] (C23 T):=by
 have gF:=A9b (A9a (@B59 P w K mg base T)) (D5q T)
 have dq:=T.bv.b
 have gm:=A9b (A9a (@D4x P w K mg base T)) (D5r T)
 have gG:=T.bG.b
 have gp:=A9b (A9a (@D4y P w K mg base T)) (D5s T)
 have gH:=T.bH.b
 have fP:=A9b (A9a (@D4z P w K mg base T)) (D5t T)
 have fW:=T.bj.b
 have gJ:=A9b (A9a (@D40 P w K mg base T)) (D5u T)
 have gR:=T.cg.b
 refine T.aL.F.ok A5f (λvs H Q E h=>?_) (λcdv A outer s H vs Q E hr h=>?_)
 ·obtain⟨F,p,d,k,wd,l,us,ds,rfl,_⟩:=h
  rfl
 ·obtain⟨F,p,d,k,wd,l,us,ds,rfl,hF,kp,el,tus,hg4,h⟩:=h
  refine⟨_,C0 (C97 (E:=E0T T H Q) (TE:=T.af) (i:=3) A5f.nd rfl rfl rfl rfl rfl rfl T.de (λpn Eh R=>(D1 (K9 (T7 y8 (pv 1) O4 (E4 _))
   (D1 (T6 (A0b (pv 0) T.ac T.bv.m gF (hr.mono DD) dq .nil (A5d rfl R) (A1 (G9 A2e (pv 2) C3 (λ_ _=>rfl)) (A1 (G9 A2e (pv 2) C3 (λ_ _=>rfl)) (A1 (G9 A2e (pv 2) C3 (λ_ _=>rfl)) (A1 (G9 A2e (pv 2) C3 (λ_ _=>rfl)) A6 C1) C1) C1) C1) (hst:=C1) (hpl:=(A7 C1 (A7 C1 (A7 C1 A5)))))))
   (D1 (K9 (T7 y8 (pv 1) O4 (E4 _))
   (D1 (T6 (A0b (pv 0) T.ac T.bG.m gm (hr.mono DD) gG .nil (A5d rfl R) (A1 (G9 A2e (pv 2) C3 (λ_ _=>rfl)) A6 C1) (hst:=C1) (hpl:=A5))))
   (D1 (K9 (T7 y8 (pv 1) O4 (E4 _))
   (D1 (T6 (A0b (pv 0) T.ac T.bH.m gp (hr.mono DD) gH .nil (A5d rfl R) (A1 (G9 A2e (pv 2) C3 (λ_ _=>rfl)) (A1 (G9 A2e (pv 2) C3 (λ_ _=>rfl)) A6 C1) C1) (hst:=C1) (hpl:=(A7 C1 A5)))))
   (D1 (K9 (T7 y8 (pv 1) O4 (E4 _))
   (D1 (T6 (A0b (pv 0) T.ac T.bj.m fP (hr.mono DD) fW .nil (A5d rfl R) (A1 (G9 A2e (pv 2) C3 (λ_ _=>rfl)) A6 C1) (hst:=C1) (hpl:=A5))))
   (D1 (T6 (A0b (pv 0) T.ac T.cg.m gJ (hr.mono DD) gR .nil (A5d rfl R) (A1 (G9 A2e (pv 2) C3 (λ_ _=>rfl)) A6 C1) (hst:=C1) (hpl:=A5))))))))))))) (λa=>(C0 (C4 (i:=4) A5f.nd rfl (B7 rfl) (P7 (A1 (G8 A5e rfl T.az A0u (A1 (pv 3) (A1 (D2 (v:=V.ref T.aG) rfl T.cY rfl) A6 A0) A0) (he:=A0) (hpl:=(A7 A0 A5))) (A1 (G8 A5e rfl T.az A0u (A1 (pv 3) (A1 (D2 (v:=V.ref T.bu) rfl T.dQ rfl) A6 A0) A0) (he:=A0) (hpl:=(A7 A0 A5))) (A1 (G8 A5e rfl T.az A0u (A1 (pv 3) (A1 (D2 (v:=V.ref T.aX) rfl T.cW rfl) A6 A0) A0) (he:=A0) (hpl:=(A7 A0 A5))) (A1 (G8 A5e rfl T.az A0u (A1 (pv 3) (A1 (D2 (v:=V.ref T.aK) rfl T.du rfl) A6 A0) A0) (he:=A0) (hpl:=(A7 A0 A5))) A6 D5) D5) D5) D5)))
   (C0 (C4 (i:=4) A5f.nd rfl (B7 rfl) (K6 B8i (pv 4) (P7 (A1 (G8 A5e rfl T.az A0u (A1 (pv 3) (A1 (D2 (v:=V.ref T.aW) rfl T.dR rfl) A6 A0) A0) (he:=A0) (hpl:=(A7 A0 A5))) (A1 (G8 A5e rfl T.az A0u (A1 (pv 3) (A1 (D2 (v:=V.ref T.aH) rfl T.cZ rfl) A6 A0) A0) (he:=A0) (hpl:=(A7 A0 A5))) (A1 (G8 A5e rfl T.az A0u (A1 (pv 3) (A1 (D2 (v:=V.ref T.aQ) rfl T.dv rfl) A6 A0) A0) (he:=A0) (hpl:=(A7 A0 A5))) A6 D5) D5) D5))))
   (C0 (C4 (i:=5) A5f.nd rfl (B7 rfl) (P7 A6))
   (C0 (K9 (PW.pt (A2r (P3 (G9 Q4 (pv 4) C3 (λ_ _=>rfl))) (A2q (P3 (G9 Q4 (pv 4) C3 (λ_ _=>rfl))))))
   (D1 (C4 (i:=5) A5f.nd rfl (B7 rfl) (P7 (A1 (C0z (pv 3) rfl) A6 G4))))
   M9)
   (C0 (K9 (P3 (G9 Q4 (pv 4) C3 (λ_ _=>rfl)))
   (D1 (C4 (i:=5) A5f.nd rfl (B7 rfl) (P7 (A1 (C0z (pv 3) rfl) A6 G4))))
   M9)
   (D1 (G6 (V0 (A1 (pv 4) (A1 (pv 5) A6 A0) A0))))))))))) (D1 (G6 (V0 (A1 (P7 A6) (A1 (P7 A6) A6 E6) E6)))),?_,?_⟩
  ·try dsimp only[O6,Cx.nox]
   have kp0:=kp
   obtain⟨⟨dx,g,lw,ug,ul,e1,g1,e2,t2,g3,e3,t3⟩,kvs,e4,kv⟩:=kp
   rcases h with ⟨dd,rfl,rfl,ok,hll,dok,told⟩ | ⟨r,v,why,bc⟩
   ·have fin:∀k' H1,(∃r,B1r (S5 k dd) k.low r k')->E9 F T.aa H1 p d k'->Frp p d H H1->∀σ nx,A74 (A8a (D9 (A0a G7) (D9 (A0a G7) G7))) { nx:=nx,rt:=Q } σ H1:=λk' H1 mv kp1 fr σ nx=>D5w λv H' tv s=>told v k' H' mv (kp1.same s) tv λb o z n1 n2=>s _ _ (fr _ _ z n1 n2)
    cases dd with
    | lay x w0=>
     obtain⟨y1,y2,y3,y4,rfl,_⟩:=A7l tus
     refine A2f (x:= "lay") rfl rfl (C25 rfl rfl e1 (K4 KK) el (.inl ⟨F,p,d,k,_,_,rfl,hF,kp0,tus,⟨_,⟨x,w0,rfl⟩,rfl,ok,hll,dok⟩,λr v k' H1 po kp1 tv fr ap=>?_⟩))
     obtain⟨_,⟨x',w',rfl⟩,h2,po⟩:=po
     obtain⟨rfl,rfl⟩:=B6g h2
     exact fin k' H1 ⟨r,po⟩ kp1 fr _ _
    | lift x=>
     obtain⟨y1,rfl,_⟩:=X7 tus
     refine U7 (x:= "lift") rfl DD (A2f (x:= "lift") rfl rfl (A7n rfl rfl e1 (K4 KK) el (.inl ⟨F,p,d,k,_,_,rfl,hF,kp0,tus,⟨_,⟨x,rfl⟩,rfl,ok,hll,dok⟩,λr v k' H1 po kp1 tv fr ap=>?_⟩)))
     obtain⟨_,⟨x',rfl⟩,h2,po⟩:=po
     cases h2
     exact fin k' H1 ⟨r,po⟩ kp1 fr _ _
    | turn x c=>
     obtain⟨y1,y2,rfl,_⟩:=m6 tus
     refine U7 (x:= "turn") rfl DD (U7 (x:= "turn") rfl DD (A2f (x:= "turn") rfl rfl (C24 rfl rfl e1 (K4 KK) el (.inl ⟨F,p,d,k,_,_,rfl,hF,kp0,tus,⟨_,⟨x,c,rfl⟩,rfl,ok,hll,dok⟩,λr v k' H1 po kp1 tv fr ap=>?_⟩))))
     obtain⟨_,⟨x',c',rfl⟩,h2,po⟩:=po
     cases h2
     exact fin k' H1 ⟨r,po⟩ kp1 fr _ _
    | refill x=>
     obtain⟨y1,rfl,_⟩:=X7 tus
     refine U7 (x:= "refill") rfl DD (U7 (x:= "refill") rfl DD (U7 (x:= "refill") rfl DD (A2f (x:= "refill") rfl rfl (A7n rfl rfl e1 (K4 KK) el (.inl ⟨F,p,d,k,_,_,rfl,hF,kp0,tus,⟨_,⟨x,rfl⟩,rfl,ok,hll,dok⟩,λr v k' H1 po kp1 tv fr ap=>?_⟩)))))
     obtain⟨_,⟨x',rfl⟩,h2,po⟩:=po
     cases h2
     exact fin k' H1 ⟨r,po⟩ kp1 fr _ _
    | aim x=>
     obtain⟨y1,rfl,_⟩:=X7 tus
     refine U7 (x:= "aim") rfl DD (U7 (x:= "aim") rfl DD (U7 (x:= "aim") rfl DD (U7 (x:= "aim") rfl DD (A7n rfl rfl e1 (K4 KK) el (.inl ⟨F,p,d,k,_,_,rfl,hF,kp0,tus,⟨_,⟨x,rfl⟩,rfl,ok,hll,dok⟩,λr v k' H1 po kp1 tv fr ap=>?_⟩)))))
     obtain⟨_,⟨x',rfl⟩,h2,po⟩:=po
     cases B6f (PyData.list.inj (List.cons.inj h2).1)
     exact fin k' H1 ⟨r,po⟩ kp1 fr _ _
   ·have rz:=D52 (T:=T) bc
    rcases why with ⟨rfl,why⟩ | ⟨rfl,why⟩ | ⟨rfl,why⟩ | ⟨rfl,why⟩ | ⟨rfl,why⟩
    ·obtain⟨a,b,c,e,rfl,_⟩:=id why
     obtain⟨y1,y2,y3,y4,rfl,_⟩:=A7l tus
     exact A2f rfl rfl (C25 rfl rfl e1 (K4 KK) el (.inr ⟨F,p,d,k,_,_,r,v,rfl,kp0,tus,hg4,why,rz⟩))
    ·obtain⟨a,rfl,_⟩:=id why
     obtain⟨y1,rfl,_⟩:=X7 tus
     exact U7 rfl DD (A2f rfl rfl (A7n rfl rfl e1 (K4 KK) el (.inr ⟨F,p,d,k,_,_,r,v,rfl,kp0,tus,hg4,why,rz⟩)))
    ·obtain⟨a,c,rfl,_⟩:=id why
     obtain⟨y1,y2,rfl,_⟩:=m6 tus
     exact U7 rfl DD (U7 rfl DD (A2f rfl rfl (C24 rfl rfl e1 (K4 KK) el (.inr ⟨F,p,d,k,_,_,r,v,rfl,kp0,tus,hg4,why,rz⟩))))
    ·obtain⟨a,rfl,_⟩:=id why
     obtain⟨y1,rfl,_⟩:=X7 tus
     exact U7 rfl DD (U7 rfl DD (U7 rfl DD (A2f rfl rfl (A7n rfl rfl e1 (K4 KK) el (.inr ⟨F,p,d,k,_,_,r,v,rfl,kp0,tus,hg4,why,rz⟩)))))
    ·obtain⟨a,rfl,_⟩:=id why
     obtain⟨y1,rfl,_⟩:=X7 tus
     exact U7 rfl DD (U7 rfl DD (U7 rfl DD (U7 rfl DD (A7n rfl rfl e1 (K4 KK) el (.inr ⟨F,p,d,k,_,_,r,v,rfl,kp0,tus,hg4,why,rz⟩)))))
  ·rintro C dd H1 a ⟨c,r,v,e1,hc,s1,fl,bc⟩ na
   cases e1
   have D:=D5v T hc
   have hr7:r < 7:=(A2h.mp hc).1
   refine⟨D.em,?_⟩
   try dsimp only[O6,Cx.nox]
   have ka:Same H1 (upd H1 a (XO a C dd)):=Same.upd na
   have ka0:=s1.tr ka
   have fl1:FldAt (o8 r) v dd (upd H1 a (XO a C dd)):=fl.mv ka
   have hXa:Xat K (upd H1 a (XO a C dd)) a C dd:=⟨B2,λdx z=>by subst z;exact fl1.ex,D.cl⟩
   clear fl
   obtain⟨H2,hH2⟩:∃H2,H2=upd H1 a (XO a C dd):=⟨_,rfl⟩
   rw[<-hH2] at ka0 fl1 hXa ⊢
   clear hH2 ka
   refine D5z hXa rfl D.k0 D.k1 D.k2 D.k3 λp1 h1=>?_
   have s3:=Same.upd (o:=.lst [.bl (r == 0),.bl (r == 1),.bl (r == 2),.bl (r == 3)]) h1
   refine D50 (hXa.keep s3) rfl rfl B2 (by show 4<=100;decide) D.k4 D.k5 D.k6 λp2 H4 s4 e4=>?_
   have s5:=s3.tr s4
   exact D51 D hr7 (hXa.keep s5) e4 (fl1.mv s5) λt l H' et el' s6=>bc t p2 l H' et (s6 _ _ e4) el' ((ka0.tr s5).tr s6)
end
section
open PySem.Spec
variable {X:Cx}
def D54:R2:=λx y H Q=>∃(F:Addr->Prop) (ds:List PyData),ThV F H x (.tuple ds)/\ThV F H y (.tuple ds)/\X6 ds=true/\(PyData.tuple ds).depth<=50/\Q (.bl true) H
theorem C26 (hu:X.A.units + 64 < cLine):OpR X (compareOp .Eq) D54:=by
 intro pins s σ H x y v u Q I rx ry h
 obtain⟨F,ds,t1,t2,ok,dp,q⟩:=h
 obtain⟨a,vs,rfl,_,e1,s1⟩:=A1b t1
 obtain⟨b,ws,rfl,_,e2,s2⟩:=A1b t2
 cases rx
 cases ry
 obtain⟨its1,q1,p1,_⟩:=I.tuple (SqT.of e1)
 obtain⟨its2,q2,p2,_⟩:=I.tuple (SqT.of e2)
 have hl:its1.length=its2.length:=by rw[<-q1.length,<-q2.length,s1.len,s2.len]
 have:=SeqAt.RcAt.tuples (A:=X.A) (s:=s) (e:=λ_=>true) p1 p2 OO (B0x I (X.A.in1) s1 s2 q1 q2 ok (by simp only[PyData.depth] at dp;show X.A.units + 1 + _ + 2 < cLine;lia))
 rw[B39,show ((its1.toArray.size == its2.toArray.size)=true) from by simpa using hl] at this
 exact this _ _ _ _ ⟨.bl true,H,I,rfl,q⟩
end
def A2g:Nat->Str
 | 0=> "bad label"
 | 1=> "taken"
 | 2=> "bad way"
 | 3=> "too many"
 | 4=> "no way"
 | 5=> "bad store"
 | _=> "bad goal"
def A3i:List Str:=["bad label", "taken", "bad way", "too many", "no way", "bad store", "bad goal"]
theorem D55 {r:Nat} (h:r < 7):A3i.map (λo=>decide (V.str (A2g r)=V.str o))=A7m r:=by
 rcases (show r=0\/r=1\/r=2\/r=3\/r=4\/r=5\/r=6 by lia) with rfl | rfl | rfl | rfl | rfl | rfl | rfl <;> decide +kernel
theorem D56 {r:Nat} (h:r < 7):A2g r≠ "done" :=by
 rcases (show r=0\/r=1\/r=2\/r=3\/r=4\/r=5\/r=6 by lia) with rfl | rfl | rfl | rfl | rfl | rfl | rfl <;> decide +kernel
theorem C27:∀bs:List Bool,X6 (bs.map PyData.bool)=true
 | []=>rfl
 | b::bs=>by
  show X6 (PyData.bool b::bs.map PyData.bool)=true
  rw[X6,okS,C27 bs];rfl
theorem C28:∀bs:List Bool,PyData.depthAll (bs.map PyData.bool)=0
 | []=>by simp [PyData.depthAll]
 | b::bs=>by simp [PyData.depthAll,PyData.depth,C28 bs]
theorem D57 {ds:List PyData} {bs:List Bool} (h:PyData.depthAll ds<=40):(PyData.tuple [.list (bs.map PyData.bool),.list ds]).depth<=50:=by
 simp only[PyData.depth,PyData.depthAll,C28];lia
def D58:Sp:=λvs H Q _=>∃(vt vf:V) (kd:Str) (ds:List PyData),vs=[vt,.str kd,vf]/\X6 ds=true/\PyData.depthAll ds<=40/\ThV TT0 H vf (.list ds)/\
 ((kd = "done" /\ThV TT0 H vt (.tuple [.list [],.list []]))\/∃r,r < 7/\kd=A2g r/\ThV TT0 H vt (.tuple [.list ((A7m r).map PyData.bool),.list ds]))/\∀H',Same H H'->Q (.bl true) H'
theorem B6h {F:Addr->Prop} {H:Hp}:∀bs:List Bool,B0 F H (bs.map V.bl) (bs.map PyData.bool)
 | []=>.nil
 | b::bs=>.cons (.bl b) (B6h bs)
section
variable {P:Program} {w:World} {K:A4} {mg:Str->Option Value} {base:Heap}
theorem D59 (T:Txt K mg):B9 P w K mg base CX0 1 T.bW.a T.bW.d ["_law_told", "_law_kind", "_law_fields"] D58:=by
 refine T.bW.F.ok C1q (λvs H Q E h=>?_) (λcdv A outer s H vs Q E hr h=>?_)
 ·obtain⟨vt,vf,kd,ds,rfl,_⟩:=h
  rfl
 ·obtain⟨vt,vf,kd,ds,rfl,hok,hdp,tf,h,told⟩:=h
  refine⟨_,(C0 (C4 (i:=3) C1q.nd rfl (B7 rfl) (P7 (A1 O4 (A1 O4 (A1 O4 (A1 O4 (A1 O4 (A1 O4 (A1 O4 A6 A8) A8) A8) A8) A8) A8) A8)))
   (C0 (S3 (K9 (T7 y8 (pv 1) O4 (E4 _))
   (D1 (G6 (A3u (C26 (M3 hr)) (pv 0) (V0 (A1 (P7 A6) (A1 (P7 A6) A6 E6) E6)) (E4 _))))
   M9))
   (D1 (G6 (A3u (C26 (M3 hr)) (pv 0) (V0 (A1 (Z3 (Q5.new (N:=["_law_told", "_law_kind", "_law_fields", "_law_kinds"]) (osc:=B8 B1a) KK) rfl (A0p (pv 3)) (λ_=>A10) (λ_=>(A3u y8 (pv 1) (pv 4) (E4 _)))) (A1 (pv 2) A6 A0) A09)) (E4 _)))))),?_⟩
  try dsimp only[O6,Cx.nox]
  refine j0 λW hW=>?_
  refine⟨by show 7<=sizeLine;decide,λlk hlk=>?_⟩
  have s1:=Same.upd (o:=.lst (A3i.map V.str)) hlk
  obtain⟨H1,hH1⟩:∃H1,H1=upd H lk (.lst (A3i.map V.str)):=⟨_,rfl⟩
  rw[<-hH1] at s1
  have ek:H1 lk=some (.lst (A3i.map V.str)):=by rw[hH1];exact B2
  show W _ [some vt,some (.str kd),some vf,some (.ref lk)] (upd H lk (.lst (A3i.map V.str)))
  rw[<-hH1]
  clear hH1
  refine @K1 W _ _ _ _ _ hW λW hW=>?_
  rcases h with ⟨rfl,tt⟩ | ⟨r,hr7,rfl,tt⟩
  ·refine⟨λ_ _=>False,A2f (x:= "done") rfl rfl ⟨_,rfl,by show 0<=sizeLine;decide,λl1 h1=>⟨by show 0<=sizeLine;decide,λl2 h2=>⟨by show 2<=sizeLine;decide,λt ht=>?_⟩⟩⟩,λ_ _ z=>z.elim⟩
   have s2:Same H1 (upd H1 l1 (.lst [])):=Same.upd h1
   have s3:Same (upd H1 l1 (.lst [])) (upd (upd H1 l1 (.lst [])) l2 (.lst [])):=Same.upd h2
   have s4:=Same.upd (o:=.tup [.ref l1,.ref l2]) ht
   have s5:=(s2.tr s3).tr s4
   exact⟨TT0,[.list [],.list []],tt.keep (s1.tr s5),.tup trivial B2 (.cons (.lst trivial (s4 _ _ (s3 _ _ B2)) .nil) (.cons (.lst trivial (s4 _ _ B2) .nil) .nil)),rfl,DD,told _ (s1.tr s5)⟩
  ·refine⟨fun σ' H'=>σ'=[some vt,some (.str (A2g r)),some vf,some (.ref lk)]/\H1=H',U7 (x:=A2g r) rfl (D56 hr7) ⟨rfl,rfl⟩,?_⟩
   rintro σ' _ ⟨rfl,rfl⟩
   subst hW
   refine⟨_,rfl,?_⟩
   refine⟨_,rfl,lk,rfl,⟨_,SqL.of ek⟩,?_⟩
   refine A3y (xs:=A3i.map V.str) (λi ys Hn=>Hn=H1/\ys=(A3i.take i).map λo=>V.bl (decide (V.str (A2g r)=V.str o))) (by show 7 < sizeLine;decide) ⟨rfl,rfl⟩ ?_ ?_ ?_
   ·rintro i ys Hn hi ⟨rfl,rfl⟩
    refine⟨?_,SqL.of ek⟩
    rw[D6,Z0]
    exact Nat.min_le_left _ _
   ·rintro i x ys Hn hx ⟨rfl,rfl⟩ ca
    rw[S0] at hx
    obtain⟨n,hn,rfl⟩:=A55.mp hx
    unfold A1z
    refine J0 ⟨_,rfl,_,rfl,rfl,rfl,?_⟩
    rw[A54,hn,V3]
    rfl
   rintro ys Hn ⟨rfl,rfl⟩ l2 hl2
   rw[D6,A71,show A3i.map (λo=>V.bl (decide (V.str (A2g r)=V.str o)))=(A7m r).map V.bl by rw[<-D55 hr7,A1q];rfl]
   have s2:=Same.upd (o:=.lst ((A7m r).map V.bl)) hl2
   refine⟨_,rfl,by show 2<=sizeLine;decide,λt ht=>?_⟩
   have s3:=Same.upd (o:=.tup [.ref l2,vf]) ht
   have s4:=s2.tr s3
   exact⟨TT0,_,tt.keep (s1.tr s4),.tup trivial B2 (.cons (.lst trivial (s3 _ _ B2) (B6h _)) (.cons (tf.keep (s1.tr s4)) .nil)),by rw[X6,okS,X6,okS,X6,hok,C27];rfl,D57 hdp,told _ (s1.tr s4)⟩
end
def D6a (C:Addr) (pre:Kst->List PyData->Prop) (post:Kst->List PyData->PyData->Prop):Sp:=λvs H Q _=>∃(F:Addr->Prop) (p d:Addr) (k:Kst) (us:List V) (ds:List PyData),vs=.ref p::us/\(∀b,H b=none->F b)/\E9 F C H p d k/\B0 TT0 H us ds/\pre k ds/\
 ∀r v H',post k ds r->E9 F C H' p d k->ThV TT0 H' v r->Frp p d H H'->Q v H'
def D6b (k:Kst) (ds:List PyData):Prop:=∃b:Tb,ds=[.list (B4 b)]/\K8 k.m k.st b/\KOk k.m k.st k.g k.kws
def D6c (k:Kst) (ds:List PyData) (r:PyData):Prop:=∃b t:Tb,ds=[.list (B4 b)]/\U3 k.m (wsF k.kws) k.st b t/\r=.list (B4 t)
abbrev PD (p d:Addr):Addr->Prop:=λb=>b≠p/\b≠d
theorem kpi {F:Addr->Prop} {C:Addr} {H:Hp} {p d:Addr} {k:Kst} (h:E9 F C H p d k):∃dx g l,H p=some (.ins C dx (kfs k.m k.st g d l)):=by
 obtain⟨⟨dx,g,l,_,_,e1,_⟩,_⟩:=h
 exact⟨dx,g,l,e1⟩
section
variable {F:Addr->Prop} {C p d:Addr} {H H' H2:Hp} {k:Kst} {v:V} {x:PyData}
theorem C29 (kp:E9 F C H p d k) {b:Addr} (z:O1 H b):b≠p/\b≠d:=by
 have pd:=A1k kp
 refine⟨λe=>?_,λe=>?_⟩
 ·subst e
  rcases z with z | ⟨xs,z⟩
  ·exact pd.2.1 z
  ·exact (R8 kp z).1 rfl
 ·subst e
  rcases z with z | ⟨xs,z⟩
  ·exact pd.2.2 z
  ·exact (R8 kp z).2 rfl
theorem ThV.frp (t:ThV (PD p d) H v x) (fr:Frp p d H H'):ThV (PD p d) H' v x:=t.mv λb o z e=>⟨z,fr _ _ e z.1 z.2⟩
theorem ThV.tpd (kp:E9 F C H p d k) (t:ThV (O1 H) H' v x):ThV (PD p d) H' v x:=t.mv λb o z e=>⟨C29 kp z,e⟩
theorem Frp.tr (a:Frp p d H H') (b:Frp p d H' H2):Frp p d H H2:=λc o e n1 n2=>b _ _ (a _ _ e n1 n2) n1 n2
theorem Frp.sm (a:Frp p d H H') (b:Same H' H2):Frp p d H H2:=λc o e n1 n2=>b _ _ (a _ _ e n1 n2)
end
section
variable {P:Program} {w:World} {K:A4} {mg:Str->Option Value} {base:Heap}
theorem D6d (T:Txt K mg):B9 P w K mg base CX0 9 T.bP.a T.bP.d ["self", "base"] (D6a T.aa D6b D6c):=by
 have cw:=@B1s P w K mg base T
 have cx:=T.aY.b
 have dH:=@C17 P w K mg base T
 have dI:=T.br.b
 refine T.bP.F.ok D08 (λvs H Q E h=>?_) (λcdv A outer s H vs Q E hr h=>?_)
 ·obtain⟨F,p,d,k,us,ds,rfl,_,_,tus,⟨b,rfl,_⟩,_⟩:=h
  obtain⟨y1,rfl,_⟩:=X7 tus
  rfl
 ·obtain⟨F,p,d,k,us,ds,rfl,hF,kp,tus,⟨b,rfl,hb,ok⟩,told⟩:=h
  obtain⟨y1,rfl,tu1⟩:=X7 tus
  obtain⟨ab,ub,rfl,_,eb,tub⟩:=P8 tu1
  obtain⟨dx,g,l,e1⟩:=kpi kp
  have fk:=ok.few
  have s1k:=ok.s1
  have lk:(C6 k.kws).length < 64:=by unfold C6;rw[D6];lia
  refine⟨_,(D1 (G6 (B6 dH (hr.mono DD) rfl (T.bX.trans T.br.m) T.br.F.kp dI .nil A9 (A1 (O5 (pv 0) T.ac T.aY.m cw (hr.mono DD) cx .nil A9) (A1 (L1 (pv 0) rfl) (A1 (pv 1) A6 A0) G4) D5) (he:=D5) (hpl:=(A7 G4 (A7 A0 A5)))))),?_⟩
  try dsimp only[O6,Cx.nox]
  refine⟨_,rfl,p,dx,_,rfl,e1,K4 KK,F,p,d,k,[],[],rfl,hF,kp,.nil,⟨rfl,lk⟩,λr v k' H1 po kp1 tv fr ap=>?_⟩
  obtain⟨rfl,rfl⟩:=po
  obtain⟨dx1,g1,l1,f1⟩:=kpi kp1
  have nb:=Q6 kp eb
  refine⟨_,rfl,p,_,dx1,_,_,rfl,f1,T.ac,T.cy,A83,_,rfl,?_⟩
  refine V6 (E:=E0) (λd=>∃t,U3 k'.m (wsF k'.kws) k'.st b t/\d=.list (B4 t)) (.cons tv.any (.cons (.int _) (.cons (.lst trivial (fr _ _ eb nb.1 nb.2) (M5 tub)) .nil))) ⟨k'.m,wsF k'.kws,k'.st,b,rfl,ok.land,ok.s0,OO,hb,λt a=>⟨t,a,rfl⟩⟩ λd2 v2 H2 hd2 tv2 s2=>?_
  obtain⟨t,ht,rfl⟩:=hd2
  exact told _ _ _ ⟨b,t,rfl,ht,rfl⟩ (kp1.same s2) tv2 (Frp.sm fr s2)
end
def A5p (k:Kst):Tb:=some k.st::E5 (k.m - 1) none
def A7o (k:Kst) (d:PyData):Prop:=∃t,U3 k.m (wsF k.kws) k.st (A5p k) t/\d=.tuple [.list (A1m k.kws),.int k.st,.list (B4 k.g),.list (B4 k.low),L8 k.m (wsF k.kws),.list (B4 t)]
theorem A7o.uniq {k:Kst} {a b:PyData} (h:A7o k a) (h':A7o k b):a=b:=by
 obtain⟨t,h1,rfl⟩:=h
 obtain⟨u,h2,rfl⟩:=h'
 rw[h1.uniq h2]
theorem D6e {n:Nat} (h:1<=n):ixN n 0=some 0:=by
 unfold ixN
 simp;lia
theorem D6f {k:Kst} (ok:KOk k.m k.st k.g k.kws):K8 k.m k.st (A5p k):=by
 have h1:=ok.m1
 refine⟨by unfold A5p;rw[G3,A1o];lia,λp x e=>?_⟩
 unfold A5p gt at e
 cases p with
 | zero=>cases e;exact⟨ok.s0,A51 _⟩
 | succ p=>
  rw[A52,A7r] at e
  split at e <;> cases e
theorem C3a {F:Addr->Prop} {H:Hp}:∀n:Nat,B0 F H (E5 n V.non) (B4 (E5 n none))
 | 0=>.nil
 | n + 1=>.cons .non (C3a n)
theorem D6g {F:Addr->Prop} {H:Hp} (k:Kst):B0 F H (.int k.st::E5 (k.m - 1) V.non) (B4 (A5p k)):=.cons (.int _) (C3a _)
abbrev PG (p d:Addr) (G:Addr->Prop):Addr->Prop:=λb=>PD p d b/\G b
theorem D6h {F:Addr->Prop} {C p d:Addr} {H H':Hp} {k:Kst} (kp:E9 F C H' p d k) (fr:Frp p d H H') {b:Addr} (z:O1 H' b):O1 H b:=by
 rcases z with z | ⟨xs,z⟩
 ·exact .inl (a9 kp fr z)
 ·cases y:H b with
  | none=>exact .inl y
  | some o=>
   have n:=R8 kp z
   have:=fr _ _ y n.1 n.2
   rw[z] at this
   cases this
   exact .inr ⟨xs,y⟩
section
variable {F G:Addr->Prop} {C p d:Addr} {H H' H2:Hp} {k:Kst} {v:V} {x:PyData}
theorem ThV.frG (t:ThV (PG p d G) H v x) (fr:Frp p d H H'):ThV (PG p d G) H' v x:=t.mv λb o z e=>⟨z,fr _ _ e z.1.1 z.1.2⟩
theorem ThV.tpG (kp:E9 F C H' p d k) (fr:Frp p d H H') (g1:∀b,O1 H b->G b) (t:ThV (O1 H') H2 v x):ThV (PG p d G) H2 v x:=t.mv λb o z e=>⟨⟨C29 kp z,g1 _ (D6h kp fr z)⟩,e⟩
end
def D6i (C:Addr):Sp:=λvs H Q _=>∃(F G:Addr->Prop) (p d:Addr) (k:Kst),vs=[.ref p]/\(∀b,H b=none->F b)/\(∀b,O1 H b->G b)/\(∀Hx b xs t,Frp p d H Hx->Hx b=some (.lst xs)->B0 TT0 Hx xs (B4 t)->t≠[]->G b)/\E9 F C H p d k/\KOk k.m k.st k.g k.kws/\
 ∀r v H',A7o k r->E9 F C H' p d k->ThV (PG p d G) H' v r->Frp p d H H'->Q v H'
section
variable {P:Program} {w:World} {K:A4} {mg:Str->Option Value} {base:Heap}
theorem D6j (T:Txt K mg):B9 P w K mg base CX0 10 T.bJ.a T.bJ.d ["_law_keeper"] (D6i T.aa):=by
 have cL:=@B6b P w K mg base T
 have cM:=T.bx.b
 have cz:=@B6a P w K mg base T
 have cA:=T.aT.b
 have dY:=@C2u P w K mg base T
 have dZ:=T.bS.b
 have cB:=@B58 P w K mg base T
 have cC:=T.aU.b
 have cw:=@B1s P w K mg base T
 have cx:=T.aY.b
 have fQ:=@D6d P w K mg base T
 have fR:=T.bP.b
 refine T.bJ.F.ok B5w (λvs H Q E h=>?_) (λcdv A outer s H vs Q E hr h=>?_)
 ·obtain⟨F,G,p,d,k,rfl,_⟩:=h
  rfl
 ·obtain⟨F,G,p,d,k,rfl,hF,gN,gT,kp,ok,told⟩:=h
  obtain⟨dx,g,l,e1⟩:=kpi kp
  have fk:=ok.few
  have m1:=ok.m1
  have m2:=ok.m2
  have gl:=ok.gt.len
  have lk:(C6 k.kws).length < 64:=by unfold C6;rw[D6];lia
  refine⟨_,(C0 (B0b (i:=1) B5w.nd rfl (B7 rfl) (Q5.new (N:=["_law_keeper", "_law_full", "_law_told"]) (osc:=B8 B1b) KK) rfl (A0p (O5 (pv 0) T.ac T.bx.m cL (hr.mono DD) cM .nil A9)) (λ_=>A10) (λ_=>A9w))
   (C0 (x9 (O5 (pv 0) T.ac T.aT.m cz (hr.mono DD) cA .nil A9) (w6 (pv 1) C3 f7))
   (C0 (C4 (i:=2) B5w.nd rfl (B7 rfl) (V0 (A1 (O5 (pv 0) T.ac T.bS.m dY (hr.mono DD) dZ .nil A9) (A1 (O5 (pv 0) T.ac T.aT.m cz (hr.mono DD) cA .nil A9) (A1 (O5 (pv 0) T.ac T.bx.m cL (hr.mono DD) cM .nil A9) (A1 (O5 (pv 0) T.ac T.aU.m cB (hr.mono DD) cC .nil A9) A6 D5) D5) D5) D5)))
   (D1 (G6 (K6 C5q (pv 2) (V0 (A1 (O5 (pv 0) T.ac T.aY.m cw (hr.mono DD) cx .nil A9) (A1 (A0b (pv 0) T.ac T.bP.m fQ (hr.mono DD) fR .nil A9 (A1 (pv 1) A6 A0) (hst:=A0) (hpl:=A5)) A6 D5) D5)))))))),?_⟩
  try dsimp only[O6,Cx.nox]
  refine j0 λW hW=>?_
  refine⟨_,rfl,p,dx,_,rfl,e1,K4 KK,F,p,d,k,[],[],rfl,hF,kp,.nil,rfl,λr v k' H1 po kp1 tv fr1 ap=>?_⟩
  obtain⟨rfl,rfl⟩:=po
  obtain⟨ag,ug,rfl,_,eg,tug⟩:=P8 tv
  have lug:ug.length=k'.m:=by rw[tug.len,W7,gl]
  refine⟨ag,rfl,⟨_,SqL.of eg⟩,?_⟩
  refine A3y (xs:=ug) (λi ys Hn=>Hn=H1/\ys=E5 i V.non) (by rw[lug,sizeLine_eq];lia) ⟨rfl,rfl⟩ ?_ ?_ ?_
  ·rintro i ys Hn hi ⟨rfl,rfl⟩
   refine⟨?_,SqL.of eg⟩
   rw[A1o];exact F7 _
  ·rintro i x ys Hn hx ⟨rfl,rfl⟩ ca
   unfold A1z
   refine J0 ⟨rfl,?_⟩
   rw[<-List.replicate_succ']
  rintro ys Hn ⟨rfl,rfl⟩ lf hlf
  have s2:=Same.upd (o:=.lst (E5 ug.length V.non)) hlf
  obtain⟨H2,hH2⟩:∃H2,H2=upd Hn lf (.lst (E5 ug.length V.non)):=⟨_,rfl⟩
  rw[<-hH2] at s2
  have ef:H2 lf=some (.lst (E5 ug.length V.non)):=by rw[hH2];exact B2
  show W _ [some (.ref p),some (.ref lf),none] (upd Hn lf (.lst (E5 ug.length V.non)))
  rw[<-hH2,lug] at *
  clear hH2
  have kp2:E9 (λb=>F b/\b≠lf) T.aa H2 p d k':=(A7i kp1 (λb xs g e=>⟨g,λz=>by rw[z,hlf] at e;cases e⟩)).same s2
  have fr2:=Frp.sm fr1 s2
  have nf:PD p d lf:=Q6 kp2 ef
  refine @K1 W _ _ _ _ _ hW λW hW=>?_
  obtain⟨dx2,g2,l2,e2⟩:=kpi kp2
  have hF2:∀b,H2 b=none->F b/\b≠lf:=λb hb=>⟨hF _ (a9 kp2 fr2 hb),λz=>by rw[z,ef] at hb;cases hb⟩
  refine⟨_,rfl,p,dx2,_,rfl,e2,K4 KK,_,p,d,k',[],[],rfl,hF2,kp2,.nil,rfl,λr v k3 H3 po kp3 tv3 fr3 ap=>?_⟩
  obtain⟨rfl,rfl⟩:=po
  cases tv3
  have ef3:=fr3 _ _ ef nf.1 nf.2
  refine⟨_,rfl,lf,E5 k3.m V.non,0,0,rfl,rfl,ef3,by rw[A1o];exact D6e m1,?_⟩
  have efl:(E5 k3.m V.non).set 0 (.int k3.st)=.int k3.st::E5 (k3.m - 1) V.non:=by
   cases hm:k3.m with
   | zero=>lia
   | succ n=>rfl
  rw[efl]
  obtain⟨H4,hH4⟩:∃H4,H4=upd H3 lf (.lst (.int k3.st::E5 (k3.m - 1) V.non)):=⟨_,rfl⟩
  rw[<-hH4]
  have f34:∀b o,H3 b=some o->b≠lf->H4 b=some o:=λb o e n=>by rw[hH4,B1 n];exact e
  have ef4:H4 lf=some (.lst (.int k3.st::E5 (k3.m - 1) V.non)):=by rw[hH4];exact B2
  clear hH4
  have kp4:E9 F T.aa H4 p d k3:=kp3.mv (λb o e n=>f34 _ _ e λz=>by
   subst z
   rw[ef3] at e
   cases e
   exact (n _ rfl).2 rfl) (λb z=>z.1)
  have fr4:Frp p d H H4:=λb o e n1 n2=>f34 _ _ (Frp.tr fr2 fr3 _ _ e n1 n2) λz=>by
   subst z
   rw[a9 kp1 fr1 hlf] at e;cases e
  clear f34 ef3 ef kp3 kp2 fr2 fr3 s2 hF2 e2
  refine @K1 W _ _ _ _ _ hW λW hW=>?_
  obtain⟨dx4,g4,l4,e4⟩:=kpi kp4
  refine⟨_,rfl,p,dx4,_,rfl,e4,K4 KK,F,p,d,_,[],[],rfl,λb hb=>hF _ (a9 kp4 fr4 hb),kp4,.nil,⟨rfl,lk⟩,λr v5 k5 H5 po kp5 tv5 fr5' ap=>?_⟩
  obtain⟨rfl,rfl⟩:=po
  have fr5:=Frp.tr fr4 fr5'
  have tp5:=ThV.tpG kp4 fr4 gN tv5
  obtain⟨dx5,g5,l5,e5⟩:=kpi kp5
  refine⟨_,rfl,p,dx5,_,rfl,e5,K4 KK,F,p,d,_,[],[],rfl,λb hb=>hF _ (a9 kp5 fr5 hb),kp5,.nil,rfl,λr v6 k6 H6 po kp6 tv6 fr6' ap=>?_⟩
  obtain⟨rfl,rfl⟩:=po
  have fr6:=Frp.tr fr5 fr6'
  have tp6:=ThV.tpG kp5 fr5 gN tv6
  obtain⟨dx6,g6,l6,e6⟩:=kpi kp6
  refine⟨_,rfl,p,dx6,_,rfl,e6,K4 KK,F,p,d,_,[],[],rfl,λb hb=>hF _ (a9 kp6 fr6 hb),kp6,.nil,rfl,λr v7 k7 H7 po kp7 tv7 fr7' ap=>?_⟩
  obtain⟨rfl,rfl⟩:=po
  have fr7:=Frp.tr fr6 fr7'
  have tp7:=ThV.tpG kp6 fr6 gN tv7
  obtain⟨dx7,g7,l7,e7⟩:=kpi kp7
  refine⟨_,rfl,p,dx7,_,rfl,e7,K4 KK,F,p,d,_,[],[],rfl,λb hb=>hF _ (a9 kp7 fr7 hb),kp7,.nil,rfl,λr v8 k8 H8 po kp8 tv8 fr8' ap=>?_⟩
  obtain⟨rfl,rfl⟩:=po
  have fr8:=Frp.tr fr7 fr8'
  have tp8:=ThV.tpG kp7 fr7 gN tv8
  cases tv6
  have tq5:=ThV.frG (ThV.frG (ThV.frG tp5 fr6') fr7') fr8'
  have tq7:=ThV.frG tp7 fr8'
  have ef8:=fr8' _ _ (fr7' _ _ (fr6' _ _ (fr5' _ _ ef4 nf.1 nf.2) nf.1 nf.2) nf.1 nf.2) nf.1 nf.2
  refine⟨by show 4<=sizeLine;decide,λt1 h1=>?_⟩
  have s9:=Same.upd (o:=.tup [v5,.int k8.st,v7,v8]) h1
  obtain⟨H9,hH9⟩:∃H9,H9=upd H8 t1 (.tup [v5,.int k8.st,v7,v8]):=⟨_,rfl⟩
  show W _ [some (.ref p),some (.ref lf),some (.ref t1)] (upd H8 t1 (.tup [v5,.int k8.st,v7,v8]))
  rw[<-hH9] at s9 ⊢
  have et1:H9 t1=some (.tup [v5,.int k8.st,v7,v8]):=by rw[hH9];exact B2
  clear hH9
  have kp9:=kp8.same s9
  have fr9:=Frp.sm fr8 s9
  have nt1:PD p d t1:=R8 kp9 et1
  have ef9:=s9 _ _ ef8
  have tr5:=tq5.keep s9
  have tr7:=tq7.keep s9
  have tr8:=tp8.keep s9
  subst hW
  refine⟨_,rfl,?_⟩
  obtain⟨dx9,g9,l9,e9⟩:=kpi kp9
  refine⟨_,rfl,p,dx9,_,rfl,e9,K4 KK,F,p,d,_,[],[],rfl,λb hb=>hF _ (a9 kp9 fr9 hb),kp9,.nil,⟨rfl,lk⟩,λr va ka Ha po kpa tva fra' ap=>?_⟩
  obtain⟨rfl,rfl⟩:=po
  have fra:=Frp.tr fr9 fra'
  have tpa:=ThV.tpG kp9 fr9 gN tva
  obtain⟨dxa,ga,la,ea⟩:=kpi kpa
  have efa:=fra' _ _ ef9 nf.1 nf.2
  have tful:ThV (PD p d) Ha (.ref lf) (.list (B4 (A5p ka))):=.lst nf efa (D6g ka)
  refine⟨_,rfl,p,dxa,_,rfl,ea,K4 KK,_,rfl,F,p,d,ka,[.ref lf],[.list (B4 (A5p ka))],rfl,λb hb=>hF _ (a9 kpa fra hb),kpa,.cons tful.any .nil,⟨_,rfl,D6f ok,ok⟩,λr vb Hb po kpb tvb frb'=>?_⟩
  obtain⟨b,t,eb,ht,rfl⟩:=po
  cases B6f (PyData.list.inj (List.cons.inj eb).1)
  obtain⟨lb,ub,rfl,_,elb,tub⟩:=P8 tvb
  have tpb:ThV (PG p d G) Hb (.ref lb) (.list (B4 t)):=.lst ⟨Q6 kpb elb,gT _ _ _ t (Frp.tr fra frb') elb tub λz=>by
   have:=ht.tab.len
   rw[z] at this
   exact absurd this (by show ¬ 0=ka.m;lia)⟩ elb (M5 tub)
  have et1b:=frb' _ _ (fra' _ _ et1 nt1.1 nt1.2) nt1.1 nt1.2
  refine⟨by show 2<=sizeLine;decide,λt2 h2=>?_⟩
  have sc:=Same.upd (o:=.tup [va,.ref lb]) h2
  refine⟨t1,t2,_,_,rfl,rfl,SqT.of (sc _ _ et1b),SqT.of B2,(λz=>nomatch z),by show 6<=sizeLine;decide,(λz=>nomatch z),λ_ t3 h3=>?_⟩
  have sd:=sc.tr (Same.upd (o:=.tup ([v5,.int ka.st,v7,v8]++[va,.ref lb])) h3)
  have mv:∀{v x},ThV (PG p d G) H9 v x->ThV (PG p d G) _ v x:=λz=>((z.frG fra').frG frb').keep sd
  have nt3:H t3=none:=a9 kpb (Frp.tr fra frb') (D3r h3).2
  have kpc:=kpb.same sd
  exact told _ _ _ ⟨t,ht,rfl⟩ kpc (.tup ⟨R8 kpc B2,gN _ (.inl nt3)⟩ B2 (.cons (mv tr5) (.cons (.int _) (.cons (mv tr7) (.cons (mv tr8) (.cons ((tpa.frG frb').keep sd) (.cons (tpb.keep sd) .nil))))))) (Frp.sm (Frp.tr fra frb') sd)
end
def E7 (n:Nat) (d:PyData):Prop:=d.canLay0=true/\d.depth<=n
theorem E7.all {n:Nat}:∀{ds:List PyData},(∀d∈ds,E7 n d)->PyData.canLayAll0 ds=true/\PyData.depthAll ds<=n
 | [],_=>⟨rfl,P0 _⟩
 | d::ds,h=>by
  obtain⟨a,b⟩:=E7.all λx hx=>h x (C8 _ hx)
  obtain⟨a1,b1⟩:=h d D4
  constructor
  ·show (PyData.canLay0 d&&PyData.canLayAll0 ds)=true
   rw[a,a1];rfl
  ·show max (PyData.depth d) (PyData.depthAll ds)<=n
   lia
theorem E7.lst {n:Nat} {ds:List PyData} (h:∀d∈ds,E7 n d):E7 (n + 1) (.list ds):=by
 obtain⟨a,b⟩:=E7.all h
 refine⟨by rw[PyData.canLay0];exact a,?_⟩
 show PyData.depthAll ds + 1<=n + 1
 lia
theorem E7.tup {n:Nat} {ds:List PyData} (h:∀d∈ds,E7 n d):E7 (n + 1) (.tuple ds):=by
 obtain⟨a,b⟩:=E7.all h
 refine⟨by rw[PyData.canLay0];exact a,?_⟩
 show PyData.depthAll ds + 1<=n + 1
 lia
theorem E7.mono {n k:Nat} {d:PyData} (h:E7 n d) (l:n<=k):E7 k d:=⟨h.1,X0 h.2 l⟩
theorem E7.int {n:Nat} (i:Int):E7 n (.int i):=⟨rfl,P0 _⟩
theorem E7.o {n:Nat} (o:Option Int):E7 n (oD o):=by cases o <;> exact⟨rfl,P0 _⟩
theorem E7.tab (t:Tb):E7 1 (.list (B4 t)):=E7.lst λd hd=>by
 unfold B4 at hd
 obtain⟨o,_,rfl⟩:=Q2.mp hd
 exact .o o
theorem E7.way (w:Wy):E7 1 (M7 w):=E7.tup λd hd=>by
 rcases J8.mp hd with rfl | hd
 ·exact .int _
 rcases J8.mp hd with rfl | hd
 ·exact .int _
 rw[j5.mp hd];exact .int _
theorem E7.land (m:Nat) (ws:List Wy):E7 3 (L8 m ws):=E7.tup λd hd=>by
 rcases J8.mp hd with rfl | hd
 ·exact .int _
 rw[j5.mp hd]
 exact E7.lst λd hd=>by
  obtain⟨w,_,rfl⟩:=Q2.mp hd
  exact .way w
theorem E7.two {n:Nat} {a b:PyData} (ha:E7 n a) (hb:E7 n b):∀d∈[a,b],E7 n d:=λd hd=>by
 rcases J8.mp hd with rfl | hd
 ·exact ha
 rw[j5.mp hd];exact hb
theorem E7.dep {n:Nat} {a:PyData} (h:E7 n a) (l:n<=64) (b:PyData):min a.depth b.depth<=64:=by have:=h.2;lia
theorem E7.same {n:Nat} {a:PyData} (h:E7 n a):PyData.eqv a a=true:=PySem.SeqAt.eqv_refl _ h.1
section
variable {kws a b:Kw} {x k:Int} {w w':Wy}
theorem B1u:∀{kws:Kw},(C6 kws).Nodup->(k,w)∈kws->D7 kws k=some w
 | [],_,h=>by cases h
 | q::r,nd,h=>by
  obtain⟨n1,n2⟩:=B17.mp (show (q.1::C6 r).Nodup from nd)
  rw[j1]
  rcases J8.mp h with z | z
  ·rw[<-z,if_pos rfl]
  ·rw[if_neg λe=>n1 (by rw[e];exact Q2.mpr ⟨_,z,rfl⟩)]
   exact B1u n2 z
theorem A9c (p:a.Perm b):(C6 a).Perm (C6 b):=p.map _
theorem D6k (p:a.Perm b) (nd:(C6 a).Nodup) (k:Int):D7 a k=D7 b k:=by
 have nb:(C6 b).Nodup:=(A9c p).nodup_iff.mp nd
 cases e:D7 b k with
 | some w=>exact B1u nd (p.mem_iff.mpr (A5k e))
 | none=>
  cases e2:D7 a k with
  | none=>rfl
  | some w=>
   rw[B1u nb (p.mem_iff.mp (A5k e2))] at e
   cases e
theorem D6l (p:a.Perm b) (nd:(C6 a).Nodup):wsF a=wsF b:=by
 unfold wsF
 rw[C2d (A9c p)]
 exact A9t λk _=>by rw[D6k p nd]
end
theorem E7.ints (ns:List Int):E7 1 (.list (ns.map PyData.int)):=E7.lst λd hd=>by
 obtain⟨n,_,rfl⟩:=Q2.mp hd
 exact .int _
theorem C3b {F G:Addr->Prop} {H:Hp} (f:∀b xs,H b=some (.tup xs)->F b):∀{ws:List Wy} {us:List V},B0 G H us (ws.map M7)->B0 F H us (ws.map M7)
 | [],_,h=>by cases h;exact .nil
 | w::ws,_,h=>by
  cases h with
  | cons x r=>exact .cons (A5j x (λ_ _ e=>e) f) (C3b f r)
theorem B1v {F:Addr->Prop} {H:Hp}:∀ns:List Int,B0 F H (ns.map V.int) (ns.map PyData.int)
 | []=>.nil
 | n::ns=>.cons (.int n) (B1v ns)
def j3 (H:Hp) (dc:Addr) (kw:Kw):Prop:=∃kvs,H dc=some (.dK kvs)/\N8 H kvs kw
theorem j3.fr {F:Addr->Prop} {C p d dc:Addr} {H H':Hp} {k:Kst} {kw:Kw} (h:j3 H dc kw) (kp:E9 F C H p d k) (ne:dc≠d) (fr:Frp p d H H'):j3 H' dc kw:=by
 obtain⟨kvs,e,kv⟩:=h
 refine⟨kvs,fr _ _ e (λz=>?_) ne,kv.mv λb xs e=>fr _ _ e (R8 kp e).1 (R8 kp e).2⟩
 obtain⟨dx,g,l,e1⟩:=kpi kp
 rw[z,e1] at e;cases e
theorem j3.same {dc:Addr} {H H':Hp} {kw:Kw} (h:j3 H dc kw) (s:Same H H'):j3 H' dc kw:=by
 obtain⟨kvs,e,kv⟩:=h
 exact⟨kvs,s _ _ e,kv.mv λb xs e=>s _ _ e⟩
def D6m (C:Addr):Sp:=λvs H Q _=>∃(F:Addr->Prop) (p d dc:Addr) (k:Kst) (kw:Kw),vs=[.ref p,.int ((k.m:Nat):Int),.ref dc]/\(∀b,H b=none->F b)/\E9 F C H p d k/\j3 H dc kw/\dc≠d/\kw.Perm k.kws/\KOk k.m k.st k.g k.kws/\o7 k.m k.st k.g k.kws k.low/\
 ∀H',E9 F C H' p d k->Frp p d H H'->Q (.bl true) H'
section
variable {P:Program} {w:World} {K:A4} {mg:Str->Option Value} {base:Heap}
theorem D6n (T:Txt K mg):B9 P w K mg base CX0 10 T.cE.a T.cE.d ["_law_keeper", "_law_many", "_law_ways"] (D6m T.aa):=by
 have cw:=@B1s P w K mg base T
 have cx:=T.aY.b
 have cB:=@B58 P w K mg base T
 have cC:=T.aU.b
 have cz:=@B6a P w K mg base T
 have cA:=T.aT.b
 have cL:=@B6b P w K mg base T
 have cM:=T.bx.b
 have dY:=@C2u P w K mg base T
 have dZ:=T.bS.b
 have dh:=@B50 P w K mg base T
 have dj:=T.bw.b
 refine T.cE.F.ok C1r (λvs H Q E h=>?_) (λcdv A outer s H vs Q E hr h=>?_)
 ·obtain⟨F,p,d,dc,k,kw,rfl,_⟩:=h
  rfl
 ·obtain⟨F,p,d,dc,k,kw,rfl,hF,kp,dcA,ne,pm,ok,low,told⟩:=h
  have fk:=ok.few
  have s1k:=ok.s1
  have lk:(C6 k.kws).length < 64:=by unfold C6;rw[D6];lia
  have ndw:(C6 kw).Nodup:=(A9c pm).nodup_iff.mpr ok.nd
  have lkw:(C6 kw).length < 64:=by rw[(A9c pm).length_eq];exact lk
  have eW:wsF kw=wsF k.kws:=D6l pm ndw
  have eS:srt (C6 kw)=srt (C6 k.kws):=C2d (A9c pm)
  obtain⟨kvs,edc,kv⟩:=id dcA
  refine⟨_,(C0 (C4 (i:=3) C1r.nd rfl (B7 rfl) (V0 (A1 (pv 1) (A1 (Z3 (Q5.new (N:=["_law_keeper", "_law_many", "_law_ways", "_law_land"]) (osc:=B8 A8w) KK) rfl (A0p (G8 (A8t rfl) rfl T.cF A8e (A1 (pv 2) A6 A0) (he:=A0) (hpl:=A5))) (λ_=>A10) (λ_=>(A19 (u1 (M3 hr)) (pv 2) (pv 4) (λ_ _=>rfl)))) A6 A09) A0)))
   (C0 (S3 (K9 (PW.pt (A2r (T7 (A08 (M3 hr)) (O5 (pv 0) T.ac T.aY.m cw (hr.mono DD) cx .nil A9) (pv 3) (E4 _)) (A2q (T7 (A08 (M3 hr)) (O5 (pv 0) T.ac T.aU.m cB (hr.mono DD) cC .nil A9) (B6 dh (hr.mono DD) rfl (T.ci.trans T.bw.m) T.bw.F.kp dj .nil A9 (A1 (pv 3) (A1 (O5 (pv 0) T.ac T.aT.m cz (hr.mono DD) cA .nil A9) (A1 (O5 (pv 0) T.ac T.bx.m cL (hr.mono DD) cM .nil A9) A6 D5) D5) A0) (he:=A0) (hpl:=(A7 D5 (A7 D5 A5)))) (E4 _)))))
   (D1 (G6 A04))
   M9))
   (D1 (G6 (A3u (A6e (M3 hr)) (Z3 (Q5.new (N:=["_law_keeper", "_law_many", "_law_ways", "_law_land"]) (osc:=B8 A8w) KK) rfl (A0p (O5 (pv 0) T.ac T.bS.m dY (hr.mono DD) dZ .nil A9)) (λ_=>A10) (λ_=>(G9 k9 (pv 4) C3 (λ_ _=>rfl)))) (G8 (A8t rfl) rfl T.cF A8e (A1 (pv 2) A6 A0) (he:=A0) (hpl:=A5)) (E4 _)))))),?_⟩
  try dsimp only[O6,Cx.nox]
  refine j0 λW hW=>?_
  refine⟨_,rfl,?_⟩
  refine⟨_,rfl,dc,kvs,_,rfl,edc,kv.keys,lkw,λl1 ms hl1 hp hs=>?_⟩
  have ems:=A7h hp hs
  subst ems
  obtain⟨H1,hH1⟩:∃H1,H1=upd H l1 (.lst ((srt (C6 kw)).map V.int)):=⟨_,rfl⟩
  rw[<-hH1]
  have s1:Same H H1:=by rw[hH1];exact Same.upd hl1
  have el1:H1 l1=some (.lst ((srt (C6 kw)).map V.int)):=by rw[hH1];exact B2
  have lsr:(srt (C6 kw)).length < 64:=by rw[(j2 _).length_eq];exact lkw
  clear hH1
  refine⟨l1,rfl,⟨_,SqL.of el1⟩,?_⟩
  refine A3y (xs:=(srt (C6 kw)).map V.int) (λi ys Hn=>Hn=H1/\B0 TT0 H1 ys (((wsF kw).take i).map M7)) ?_ ⟨rfl,.nil⟩ ?_ ?_ ?_
  ·rw[D6,sizeLine_eq];lia
  ·rintro i ys Hn hi ⟨rfl,h2⟩
   refine⟨?_,SqL.of el1⟩
   rw[h2.len,D6,Z0]
   lia
  ·rintro i x ys Hn hx ⟨rfl,h2⟩ ca
   rw[S0] at hx
   obtain⟨n,hn,rfl⟩:=A55.mp hx
   obtain⟨w0,hw0⟩:=A1j ((j2 _).mem_iff.mp (X1 hn))
   have hwi:(wsF kw)[i]?=some w0:=by
    unfold wsF
    rw[S0,hn,A3s,hw0];rfl
   rcases kv.val n with ⟨_,z⟩ | ⟨v0,w1,hv,hw1,tv⟩
   ·rw[hw0] at z;cases z
   rw[hw0] at hw1
   cases hw1
   unfold A1z
   refine J0 ⟨_,rfl,_,rfl,dc,v0,rfl,by rw[<-hv];exact U6.k (k:=Sum.inl n) (s1 _ _ edc),rfl,?_⟩
   rw[A54,hwi,V3]
   exact h2.append (.cons (A5j tv (λb xs e=>s1 _ _ e) λ_ _ _=>trivial) .nil)
  rintro ys Hn ⟨rfl,h2⟩ l2 hl2
  have lw:(wsF kw).length=(srt (C6 kw)).length:=by unfold wsF;rw[D6]
  rw[D6,<-lw,A71,eW] at h2
  refine⟨by show 2<=sizeLine;decide,λtl htl=>?_⟩
  have s2:Same Hn (upd Hn l2 (.lst ys)):=Same.upd hl2
  have s3:=(s1.tr s2).tr (Same.upd (o:=.tup [.int ((k.m:Nat):Int),.ref l2]) htl)
  obtain⟨H3,hH3⟩:∃H3,H3=upd (upd Hn l2 (.lst ys)) tl (.tup [.int ((k.m:Nat):Int),.ref l2]):=⟨_,rfl⟩
  show W _ [some (.ref p),some (.int ((k.m:Nat):Int)),some (.ref dc),some (.ref tl)] (upd (upd Hn l2 (.lst ys)) tl (.tup [.int ((k.m:Nat):Int),.ref l2]))
  have s23:=s2.tr (Same.upd (o:=.tup [.int ((k.m:Nat):Int),.ref l2]) htl)
  have tl3:ThV TT0 (upd (upd Hn l2 (.lst ys)) tl (.tup [.int ((k.m:Nat):Int),.ref l2])) (.ref tl) (L8 k.m (wsF k.kws)):=.tup trivial B2 (.cons (.int _) (.cons (.lst trivial (Same.upd htl _ _ B2) (h2.keep s23)) .nil))
  rw[<-hH3] at s3 tl3 ⊢
  clear hH3 s23
  have kp3:=kp.same s3
  have fr3:Frp p d H H3:=λb o e _ _=>s3 _ _ e
  have dc3:=dcA.same s3
  have tl3:ThV (PD p d) H3 (.ref tl) (L8 k.m (wsF k.kws)):=by
   obtain⟨a,us,e0,_,ea,tu⟩:=A1b tl3
   cases e0
   obtain⟨v1,v2,rfl,t1,t2⟩:=m6 tu
   cases t1
   obtain⟨lz,uz,rfl,_,ez,tz⟩:=P8 t2
   exact .tup (R8 kp3 ea) ea (.cons (.int _) (.cons (.lst (Q6 kp3 ez) ez (C3b (λb xs e=>R8 kp3 e) tz)) .nil))
  clear h2 el1 s1 s2 s3 dcA kv edc lw lsr
  refine @K1 W _ _ _ _ _ hW λW hW=>?_
  have LL:=E7.land k.m (wsF k.kws)
  refine⟨fun σ' H'=>σ'=[some (.ref p),some (.int ((k.m:Nat):Int)),some (.ref dc),some (.ref tl)]/\E9 F T.aa H' p d k/\Frp p d H H'/\j3 H' dc kw,?_,?_⟩
  ·obtain⟨dx3,g3,l3,e3⟩:=kpi kp3
   refine⟨_,rfl,p,dx3,_,rfl,e3,K4 KK,F,p,d,k,[],[],rfl,λb hb=>hF _ (a9 kp3 fr3 hb),kp3,.nil,⟨rfl,lk⟩,λr v k4 H4 po kp4 tv4 fr4' ap=>?_⟩
   obtain⟨rfl,rfl⟩:=po
   have fr4:=Frp.tr fr3 fr4'
   have dc4:=dc3.fr kp3 ne fr4'
   have tl4:=tl3.frp fr4'
   refine⟨_,rfl,_,_,ThV.dat tv4 LL.1,ThV.dat tl4 LL.1,LL.1,LL.1,LL.dep DD _,_,rfl,?_⟩
   rw[LL.same]
   refine E2 ?_
   obtain⟨dx4,g4,l4,e4⟩:=kpi kp4
   refine⟨_,rfl,p,dx4,_,rfl,e4,K4 KK,F,p,d,_,[],[],rfl,λb hb=>hF _ (a9 kp4 fr4 hb),kp4,.nil,rfl,λr v5 k5 H5 po kp5 tv5 fr5' ap=>?_⟩
   obtain⟨rfl,rfl⟩:=po
   have fr5:=Frp.tr fr4 fr5'
   have dc5:=dc4.fr kp4 ne fr5'
   have tp5:=ThV.tpd kp4 tv5
   have tl5:=tl4.frp fr5'
   refine⟨_,rfl,?_⟩
   obtain⟨dx5,g5,l5,e5⟩:=kpi kp5
   refine⟨_,rfl,p,dx5,_,rfl,e5,K4 KK,F,p,d,_,[],[],rfl,λb hb=>hF _ (a9 kp5 fr5 hb),kp5,.nil,rfl,λr v6 k6 H6 po kp6 tv6 fr6' ap=>?_⟩
   obtain⟨rfl,rfl⟩:=po
   cases tv6
   have fr6:=Frp.tr fr5 fr6'
   have dc6:=dc5.fr kp5 ne fr6'
   have tp6:=tp5.frp fr6'
   have tl6:=tl5.frp fr6'
   obtain⟨dx6,g6,l6,e6⟩:=kpi kp6
   refine⟨_,rfl,p,dx6,_,rfl,e6,K4 KK,F,p,d,_,[],[],rfl,λb hb=>hF _ (a9 kp6 fr6 hb),kp6,.nil,rfl,λr v7 k7 H7 po kp7 tv7 fr7' ap=>?_⟩
   obtain⟨rfl,rfl⟩:=po
   have fr7:=Frp.tr fr6 fr7'
   have dc7:=dc6.fr kp6 ne fr7'
   have tp7:=tp6.frp fr7'
   have tl7:=tl6.frp fr7'
   refine⟨[L8 k7.m (wsF k7.kws),.int k7.st,.list (B4 k7.g)],(λd=>∃t,U3 k7.m ((wsF k7.kws).map A1i) k7.st (lkF k7.st k7.g) t/\d=.list (B4 (lkF k7.st t))),.cons tl7.any (.cons (.int _) (.cons tv7.any .nil)),⟨k7.m,wsF k7.kws,k7.st,k7.g,rfl,ok.land,ok.s0,OO,ok.gt,λt ht=>⟨t,ht,rfl⟩⟩,λd' v8 H8 hd' t8 s8=>?_⟩
   obtain⟨t,ht,rfl⟩:=hd'
   have lrt:o7 k7.m k7.st k7.g k7.kws (lkF k7.st t):=⟨t,ht,rfl⟩
   rw[<-low.uniq lrt] at t8
   have LT:=E7.tab k7.low
   refine⟨_,_,ThV.dat (tp7.keep s8) LT.1,ThV.dat t8 LT.1,LT.1,LT.1,LT.dep DD _,_,rfl,?_⟩
   rw[LT.same]
   exact E2 ⟨rfl,kp7.same s8,Frp.sm fr7 s8,dc7.same s8⟩
  clear tl3 dc3 fr3 kp3
  rintro σ' H4 ⟨rfl,kp4,fr4,dc4⟩
  subst hW
  obtain⟨dx4,g4,l4,e4⟩:=kpi kp4
  refine⟨_,rfl,p,dx4,_,rfl,e4,K4 KK,F,p,d,k,[],[],rfl,λb hb=>hF _ (a9 kp4 fr4 hb),kp4,.nil,⟨rfl,lk⟩,λr v k5 H5 po kp5 tv5 fr5' ap=>?_⟩
  obtain⟨rfl,rfl⟩:=po
  have fr5:=Frp.tr fr4 fr5'
  have dc5:=dc4.fr kp4 ne fr5'
  obtain⟨a5,u5,rfl,_,e5,t5⟩:=P8 tv5
  have l5:u5.length=(srt (C6 k5.kws)).length:=by rw[t5.len];unfold A1m;rw[D6]
  have lsr:(srt (C6 k5.kws)).length < 64:=by rw[(j2 _).length_eq];exact lk
  refine⟨a5,rfl,⟨_,SqL.of e5⟩,?_⟩
  refine A3y (xs:=u5) (λi ys Hn=>Hn=H5/\ys=((srt (C6 k5.kws)).take i).map V.int) ?_ ⟨rfl,rfl⟩ ?_ ?_ ?_
  ·rw[l5,sizeLine_eq];lia
  ·rintro i ys Hn hi ⟨rfl,rfl⟩
   refine⟨?_,SqL.of e5⟩
   rw[D6,Z0]
   lia
  ·rintro i x ys Hn hx ⟨rfl,rfl⟩ ca
   obtain⟨dd,hdd,tx⟩:=B1o t5 hx
   unfold A1m at hdd
   rw[S0] at hdd
   obtain⟨n,hn,rfl⟩:=A55.mp hdd
   obtain⟨a6,u6,rfl,_,e6,t6⟩:=A1b tx
   obtain⟨y1,y2,y3,y4,rfl,ty1,_⟩:=A7l t6
   cases ty1
   unfold A1z
   refine J0 ⟨_,rfl,.inr (.inl ⟨a6,_,0,_,rfl,rfl,SqT.of e6,rfl,rfl,?_⟩)⟩
   rw[A54,hn,V3]
   rfl
  rintro ys Hn ⟨rfl,rfl⟩ l6 hl6
  rw[l5,A71]
  have s6:=Same.upd (o:=.lst ((srt (C6 k5.kws)).map V.int)) hl6
  obtain⟨kvs,edc,kv⟩:=dc5.same s6
  refine⟨_,rfl,dc,kvs,_,rfl,edc,kv.keys,lkw,λl7 ms hl7 hp hs=>?_⟩
  have ems:=(A7h hp hs).trans eS
  subst ems
  have s7:=Same.upd (o:=.lst ((srt (C6 k5.kws)).map V.int)) hl7
  have LI:=E7.ints (srt (C6 k5.kws))
  refine⟨_,_,ThV.dat (F:=TT0) (.lst trivial (s7 _ _ B2) (B1v _)) LI.1,ThV.dat (F:=TT0) (.lst trivial B2 (B1v _)) LI.1,LI.1,LI.1,LI.dep DD _,?_⟩
  rw[LI.same]
  exact told _ ((kp5.same s6).same s7) (Frp.sm (Frp.sm fr5 s6) s7)
end
section
variable {hd hl:Addr} {Hx:Hp} {Qv:VK}
theorem A5q {n:Int} (n0:0 < n) (n1:n < 100000000000000000000000000000000000000) (hx:Hd Hx hd hl) (q:∀r Hy,0<=r->r < n->(∀b o,Hx b=some o->b≠hd->Hy b=some o)->Hd Hy hd hl->Qv (.int r) Hy):spD [.hd,.sh] C1t [.ref hd,.int n] Hx Qv E0:=
 B1n (E:=E0) (λd=>∃r:Int,(0<=r/\r < n)/\d=.int r) hx (.cons (.int _) .nil) ⟨n,rfl,n0,OO,λr r0 r1=>⟨r,⟨r0,r1⟩,rfl⟩⟩ λd v Hy hd' tv ky hy=>by
  obtain⟨r,⟨r0,r1⟩,rfl⟩:=hd'
  cases tv
  exact q r Hy r0 r1 (λb o e n=>ky b o e λq hq=>by cases hq;exact n) hy
theorem D6o {sc:Int} (h0:0<=sc) (h1:sc<=1000000000000000000) (hx:Hd Hx hd hl) (q:∀r Hy,-1000000000000000000<=r->r<=1000000000000000000->(∀b o,Hx b=some o->b≠hd->Hy b=some o)->Hd Hy hd hl->Qv (.int r) Hy):spD [.hd,.sh] C2q [.ref hd,.int sc] Hx Qv E0:=
 B1n (E:=E0) (λd=>∃r:Int,(-1000000000000000000<=r/\r<=1000000000000000000)/\d=.int r) hx (.cons (.int _) .nil) ⟨_,sc,rfl,h0,h1,λr r0 r1=>⟨r,⟨OO,OO⟩,rfl⟩⟩ λd v Hy hd' tv ky hy=>by
  obtain⟨r,⟨r0,r1⟩,rfl⟩:=hd'
  cases tv
  exact q r Hy r0 r1 (λb o e n=>ky b o e λq hq=>by cases hq;exact n) hy
end
abbrev KqD (hd:Addr) (H H':Hp):Prop:=∀b o,H b=some o->b≠hd->H' b=some o
theorem A9d {H:Hp} {hd hl b:Addr} {o:HO} (h:Hd H hd hl) (e:H b=some o) (n:∀xs,o≠.lst xs):b≠hd:=λz=>by
 obtain⟨_,_,_,_,_,_,_,_,e'⟩:=h
 rw[z,e'] at e
 cases e
 exact n _ rfl
theorem A9e {H H':Hp} {C hd hl p d:Addr} {k:Kst} (s:E9 (λb=>b≠hd) C H p d k) (h:Hd H hd hl) (kk:KqD hd H H'):E9 (λb=>b≠hd) C H' p d k:=
 s.mv (λb o e n=>kk _ _ e (by
  by_cases c:∃xs,o=.lst xs
  ·obtain⟨xs,c⟩:=c
   exact n xs c
  ·exact A9d h e λxs z=>c ⟨xs,z⟩)) λ_ z=>z
theorem j3.hd {H H':Hp} {hd hl dc:Addr} {kw:Kw} (s:j3 H dc kw) (h:Hd H hd hl) (kk:KqD hd H H'):j3 H' dc kw:=by
 obtain⟨kvs,e,kv⟩:=s
 exact⟨kvs,kk _ _ e (A9d h e λxs z=>by cases z),kv.mv λb xs e=>kk _ _ e (A9d h e λxs z=>by cases z)⟩
theorem A1n {G:Addr->Prop} {C:Addr} {H H':Hp} {hd hl p d:Addr} {k:Kst} (h:Hd H hd hl) (kp:E9 G C H p d k) (fr:Frp p d H H'):Hd H' hd hl:=by
 have mv:∀b xs,H b=some (.lst xs)->H' b=some (.lst xs):=λb xs e=>fr _ _ e (Q6 kp e).1 (Q6 kp e).2
 obtain⟨ns,q,b,c,u,v,h1,h2,h3⟩:=h
 exact⟨ns,q,b,c,u,v,mv _ _ h1,h2,mv _ _ h3⟩
theorem D6p {a:TS} {D0:X3} {σ:L2.St} {H:Hp} (h:∀D:X3,D=D0->a D σ H):a D0 σ H:=h D0 rfl
def Q0 (one:Bool) (i:Nat):Int:=if i=0/\one=true then 1 else 1000000000000000000 - 3 * ((i:Nat):Int)
structure LdS (C hd hl p d dc:Addr) (k0 k:Kst) (one:Bool) (i:Nat) (H0 H:Hp):Prop where
 hh:Hd H hd hl
 kp:E9 (λb=>b≠hd) C H p d k
 dc:j3 H dc k.kws
 ok:KOk k.m k.st k.g k.kws
 lo:o7 k.m k.st k.g k.kws k.low
 em:k.m=k0.m
 es:k.st=k0.st
 eg:k.g=k0.g
 ks:C6 k.kws=(U8 i).map (Q0 one)
 fr:∀b o,H0 b=some o->b≠hd->b≠p->b≠d->H b=some o
theorem C3c {one:Bool} {i:Nat} (h:i < 40):T0 (Q0 one i):=by
 unfold Q0 T0
 split <;> lia
theorem D6q {one:Bool} {i j:Nat} (h:i < 40) (hj:j < i):Q0 one i≠Q0 one j:=by
 unfold Q0
 rw[if_neg (show ¬ (i=0/\one=true) by lia)]
 split <;> lia
theorem C3d {kws:Kw} {x:Int} (h:x∉C6 kws):D7 kws x=none:=by
 cases e:D7 kws x with
 | none=>rfl
 | some w=>exact absurd (Q2.mpr ⟨_,A5k e,rfl⟩) h
theorem B6i {x:Int} {w:Wy}:∀{kws:Kw},D7 kws x=none->D7 (kws++[(x,w)]) x=some w
 | [],_=>by rw[Z1,j1,if_pos rfl]
 | q::r,h=>by
  rw[j1] at h
  by_cases e:q.1=x
  ·rw[if_pos e] at h;cases h
  ·rw[if_neg e] at h
   rw[A3p,j1,if_neg e]
   exact B6i h
theorem E9.ud {F:Addr->Prop} {C p d dc:Addr} {H:Hp} {k:Kst} {kvs kvs':List (Key×V)} (h:E9 F C H p d k) (e:H dc=some (.dK kvs)) (ne:dc≠d):E9 F C (upd H dc (.dK kvs')) p d k:=by
 obtain⟨⟨dx,g,l,ug,ul,e1,g1,e2,t2,g3,e3,t3⟩,kv0,e4,kv⟩:=h
 have nn:∀{b:Addr} {o:HO},H b=some o->(∀q,o≠.dK q)->upd H dc (.dK kvs') b=some o:=λ{b o} eb n=>by
  rw[B1 (λz=>by rw[z,e] at eb;cases eb;exact n _ rfl)];exact eb
 exact⟨⟨dx,g,l,ug,ul,nn e1 (λq z=>nomatch z),g1,nn e2 (λq z=>nomatch z),M5 t2,g3,nn e3 (λq z=>nomatch z),M5 t3⟩,kv0,by rw[B1 (Ne.symm ne)];exact e4,kv.mv λb xs eb=>nn eb (λq z=>nomatch z)⟩
theorem D6r {H:Hp} {hd hl dc:Addr} {kvs kvs':List (Key×V)} (h:Hd H hd hl) (e:H dc=some (.dK kvs)):Hd (upd H dc (.dK kvs')) hd hl:=by
 have mv:∀{b:Addr} {xs:List V},H b=some (.lst xs)->upd H dc (.dK kvs') b=some (.lst xs):=λ{b xs} eb=>by rw[B1 (λz=>by rw[z,e] at eb;cases eb)];exact eb
 obtain⟨ns,q,b,c,u,v,h1,h2,h3⟩:=h
 exact⟨ns,q,b,c,u,v,mv h1,h2,mv h3⟩
theorem LdS.kq {C hd hl p d dc:Addr} {k0 k:Kst} {one:Bool} {i:Nat} {H0 H H':Hp} (L:LdS C hd hl p d dc k0 k one i H0 H) (kk:KqD hd H H') (h:Hd H' hd hl):LdS C hd hl p d dc k0 k one i H0 H':=
 { L with hh:=h,kp:=A9e L.kp L.hh kk,dc:=L.dc.hd L.hh kk,fr:=λb o e n1 n2 n3=>kk _ _ (L.fr b o e n1 n2 n3) n1 }
theorem LdS.sm {C hd hl p d dc:Addr} {k0 k:Kst} {one:Bool} {i:Nat} {H0 H H':Hp} (L:LdS C hd hl p d dc k0 k one i H0 H) (s:Same H H'):LdS C hd hl p d dc k0 k one i H0 H':=L.kq (λb o e _=>s _ _ e) (L.hh.same s)
def D6s (C:Addr):Sp:=λvs H Q _=>∃(hd hl p d:Addr) (k:Kst) (sc:Int),vs=[.ref hd,.ref p,.int ((k.m:Nat):Int),.int sc]/\Hd H hd hl/\E9 (λb=>b≠hd) C H p d k/\k.kws=[]/\KOk k.m k.st k.g k.kws/\o7 k.m k.st k.g k.kws k.low/\(0<=sc/\sc<=1000000000000000000)/\
 ∀dc one n kk H',n<=40->LdS C hd hl p d dc k kk one n H H'->dc≠d->Q (.ref dc) H'
section
variable {P:Program} {w:World} {K:A4} {mg:Str->Option Value} {base:Heap}
theorem D6t (T:Txt K mg):B9 P w K mg base CX0 12 T.cT.a T.cT.d ["_law_hand_here", "_law_keeper", "_law_many", "_law_scale_here"] (D6s T.aa):=by
 have eI:=@B59 P w K mg base T
 have dq:=T.bv.b
 have aq:=@A5h P w K mg base T
 have au:=T.ae.b
 have gK:=@D5d P w K mg base T
 have gL:=T.cu.b
 refine T.cT.F.ok A5g (λvs H Q E h=>?_) (λcdv A outer s H vs Q E hr h=>?_)
 ·obtain⟨hd,hl,p,d,k,sc,rfl,_⟩:=h
  rfl
 ·obtain⟨hd,hl,p,d,k,sc,rfl,hh,kp,kn,ok,low,hsc,told⟩:=h
  refine⟨_,(C0 (C4 (i:=4) A5g.nd rfl (B7 rfl) (B6 aq (hr.mono DD) rfl T.ae.m T.ae.F.kp au .nil A9 (A1 (pv 0) (A1 C3 A6 A8) A0) (he:=A0) (hpl:=(A7 A8 A5))))
   (C0 (S3 (K9 (T7 y8 (B6 aq (hr.mono DD) rfl T.ae.m T.ae.F.kp au .nil A9 (A1 (pv 0) (A1 C3 A6 A8) A0) (he:=A0) (hpl:=(A7 A8 A5))) C3 (E4 _))
   (D1 (C4 (i:=4) A5g.nd rfl (B7 rfl) C3))
   M9))
   (C0 (C4 (i:=5) A5g.nd rfl (B7 rfl) C0l)
   (C0 (C4 (i:=6) A5g.nd rfl (B7 rfl) (A3u y8 (B6 aq (hr.mono DD) rfl T.ae.m T.ae.F.kp au .nil A9 (A1 (pv 0) (A1 C3 A6 A8) A0) (he:=A0) (hpl:=(A7 A8 A5))) C3 (E4 _)))
   (C0 (A1u A0o rfl (A2t rfl T.bZ (A1 (pv 4) A6 A0)) (c9 (i:=7) A5g.nd rfl (B7 rfl))
   (C0 (C4 (i:=8) A5g.nd rfl (B7 rfl) (G9 Q4 (P7 (A1 (K6 A2u (K6 S2 C3 C3) (K6 A1v C3 (pv 7))) (A1 C3 A6 A8) L7)) (j9 B7r rfl T.fm B3c (A1 (B7d (A3u y8 (pv 7) C3 (E4 _)) (B7c (pv 6))) A6 B8u) (he:=B8u) (hpl:=A5)) (λ_ _=>rfl)))
   (C0 (A8s (u1 (M3 hr)) (pv 5) (pv 8) (V0 (A1 (B6 aq (hr.mono DD) rfl T.ae.m T.ae.F.kp au .nil A9 (A1 (pv 0) (A1 (pv 2) A6 A0) A0) (he:=A0) (hpl:=(A7 A0 A5))) (A1 (B6 aq (hr.mono DD) rfl T.ae.m T.ae.F.kp au .nil A9 (A1 (pv 0) (A1 (pv 2) A6 A0) A0) (he:=A0) (hpl:=(A7 A0 A5))) (A1 (B6 gK (hr.mono DD) rfl T.cu.m T.cu.F.kp gL .nil A9 (A1 (pv 0) (A1 (pv 3) A6 A0) A0) (he:=A0) (hpl:=(A7 A0 A5))) A6 D5) D5) D5)) rfl)
   (D1 (T6 (A0b (pv 1) T.ac T.bv.m eI (hr.mono DD) dq .nil A9 (A1 (pv 8) (A1 (G9 k9 (A19 (u1 (M3 hr)) (pv 5) (pv 8) (λ_ _=>rfl)) C3 (λ_ _=>rfl)) (A1 (G9 k9 (A19 (u1 (M3 hr)) (pv 5) (pv 8) (λ_ _=>rfl)) C3 (λ_ _=>rfl)) (A1 (G9 k9 (A19 (u1 (M3 hr)) (pv 5) (pv 8) (λ_ _=>rfl)) C3 (λ_ _=>rfl)) A6 C1) C1) C1) A0) (hst:=A0) (hpl:=(A7 C1 (A7 C1 (A7 C1 A5))))))))))
   (D1 (G6 (pv 5)))))))),?_⟩
  try dsimp only[O6,Cx.nox]
  refine j0 λW hW=>?_
  refine⟨_,rfl,A5q DD DD hh λc H1 c0 c7 k1 h1=>?_⟩
  show W _ [some (.ref hd),some (.ref p),some (.int ((k.m:Nat):Int)),some (.int sc),some (.int c),none,none,none,none] H1
  refine @K1 W _ _ _ _ _ hW λW hW=>?_
  refine⟨fun σ' H'=>∃n:Nat,n<=40/\σ'=[some (.ref hd),some (.ref p),some (.int ((k.m:Nat):Int)),some (.int sc),some (.int ((n:Nat):Int)),none,none,none,none]/\KqD hd H H'/\Hd H' hd hl,?_,?_⟩
  ·refine⟨_,rfl,A5q DD DD h1 λc2 H2 c20 c26 k2 h2=>?_⟩
   refine⟨rfl,_,rfl,?_⟩
   by_cases z:c2=0
   ·rw[show decide (V.int c2=V.int 0)=true by rw[z];exact decide_eq_true rfl]
    exact J0 ⟨40,DD,rfl,λb o e n=>k2 _ _ (k1 _ _ e n) n,h2⟩
   ·rw[show decide (V.int c2=V.int 0)=false from decide_eq_false λy=>z (V.int.inj y)]
    exact E2 ⟨c.toNat,OO,by rw[show ((c.toNat:Nat):Int)=c by lia],λb o e n=>k2 _ _ (k1 _ _ e n) n,h2⟩
  clear k1 h1 c7 c0
  rintro σ' H1 ⟨n,hn,rfl,k1,h1⟩
  refine @K1 W _ _ _ _ _ hW λW hW=>?_
  intro dc hdc
  obtain⟨H2,hH2⟩:∃H2,H2=upd H1 dc (.dK []):=⟨_,rfl⟩
  show W _ [some (.ref hd),some (.ref p),some (.int ((k.m:Nat):Int)),some (.int sc),some (.int ((n:Nat):Int)),some (.ref dc),none,none,none] (upd H1 dc (.dK []))
  have s2:=Same.upd (o:=.dK []) hdc
  have e2:upd H1 dc (.dK []) dc=some (.dK []):=B2
  rw[<-hH2] at s2 e2 ⊢
  clear hH2
  refine @K1 W _ _ _ _ _ hW λW hW=>?_
  refine⟨_,rfl,A5q DD DD (h1.same s2) λo1 H3 o10 o12 k3 h3=>?_⟩
  refine⟨rfl,?_⟩
  obtain⟨one,hone⟩:∃one,one=decide (V.int o1=V.int 1):=⟨_,rfl⟩
  show W _ [some (.ref hd),some (.ref p),some (.int ((k.m:Nat):Int)),some (.int sc),some (.int ((n:Nat):Int)),some (.ref dc),some (.bl (decide (V.int o1=V.int 1))),none,none] H3
  rw[<-hone]
  clear hone
  have ndc:dc≠hd:=λz=>by
   obtain⟨_,_,_,_,_,_,_,_,e⟩:=h1
   rw[z,e] at hdc;cases hdc
  have hdcH:H dc=none:=by
   cases z:H dc with
   | none=>rfl
   | some o=>rw[k1 _ _ z ndc] at hdc;cases hdc
  have k03:KqD hd H H3:=λb o e n=>k3 _ _ (s2 _ _ (k1 _ _ e n)) n
  have nedc:dc≠d:=λz=>by
   obtain⟨kvs,e,_⟩:=(A9e kp hh k1).dc
   rw[<-z,hdc] at e;cases e
  have L0:LdS T.aa hd hl p d dc k k one 0 H H3:=⟨h3,A9e kp hh k03,by rw[kn];exact⟨[],k3 _ _ e2 ndc,.nil⟩,ok,low,rfl,rfl,rfl,by rw[kn];rfl,λb o e n1 _ _=>k03 _ _ e n1⟩
  clear k03 h3 k3 e2 s2 h1 k1 kp hh
  refine @K1 W _ _ _ _ _ hW λW hW=>?_
  refine⟨_,rfl,_,rfl,OO,OO,?_⟩
  refine C4y (n:=((n:Nat):Int).toNat) (λi σ' H'=>∃kk x7 x8,σ'=[some (.ref hd),some (.ref p),some (.int ((k.m:Nat):Int)),some (.int sc),some (.int ((n:Nat):Int)),some (.ref dc),some (.bl one),x7,x8]/\LdS T.aa hd hl p d dc k kk one i H H') ⟨k,none,none,rfl,L0⟩ ?_ ?_
  ·rintro i σ' H' hi ⟨kk,x7,x8,rfl,L⟩
   have hi:i < 40:=by lia
   show X8 _ _ _ [some (.ref hd),some (.ref p),some (.int ((k.m:Nat):Int)),some (.int sc),some (.int ((n:Nat):Int)),some (.ref dc),some (.bl one),some (.int (0 + ((i:Nat):Int))),x8] H'
   rw[Int.zero_add]
   refine D6p (a:=X8 _ _) λD hD=>j0 λW2 hW2=>?_
   suffices L9:∀H2,Same H' H2->W2 D [some (.ref hd),some (.ref p),some (.int ((k.m:Nat):Int)),some (.int sc),some (.int ((n:Nat):Int)),some (.ref dc),some (.bl one),some (.int ((i:Nat):Int)),some (.int (Q0 one i))] H2 by
    refine⟨10,18,rfl,rfl,⟨DD,DD,DD⟩,_,rfl,3,_,rfl,rfl,.inl ⟨DD,DD⟩,_,_,rfl,rfl,by show 2<=sizeLine;decide,λl hl=>?_⟩
    have s1:=Same.upd (o:=.lst [.int (10 ^ (18:Int).toNat - 3 * ((i:Nat):Int)),.int 1]) hl
    refine⟨_,rfl,rfl,_,rfl,?_⟩
    by_cases z:i=0
    ·subst z
     refine J0 ⟨_,rfl,.inr ⟨one,rfl,?_⟩⟩
     cases one with
     | true=>exact⟨l,_,_,_,rfl,rfl,SqL.of B2,rfl,L9 _ s1⟩
     | false=>exact⟨l,_,_,_,rfl,rfl,SqL.of B2,rfl,L9 _ s1⟩
    ·rw[show decide (V.int ((i:Nat):Int)=V.int 0)=false from decide_eq_false λy=>z (by have:=V.int.inj y;lia)]
     refine E2 (.inr ⟨false,rfl,l,_,_,_,rfl,rfl,SqL.of B2,rfl,?_⟩)
     have e:Q0 one i=10 ^ (18:Int).toNat - 3 * ((i:Nat):Int):=by unfold Q0;rw[if_neg λy=>z y.1];rfl
     have:=L9 _ s1
     rw[e] at this
     exact this
   intro H2 s2
   have L2:=L.sm s2
   clear L s2
   have m1:=L2.ok.m1
   have m2:=L2.ok.m2
   have em:=L2.em
   refine @K1 W2 _ _ _ _ _ hW2 λW2 hW2=>?_
   refine⟨_,rfl,_,rfl,A5q OO OO L2.hh λa Ha a0 am ka ha=>⟨_,rfl,_,rfl,A5q OO OO ha λb Hb b0 bm kb hb=>⟨_,rfl,_,rfl,D6o hsc.1 hsc.2 hb λc Hc c0 c1 kc hc=>⟨by show 3<=sizeLine;decide,λt ht=>?_⟩⟩⟩⟩
   have Lc:=L2.kq (λb o e n=>kc _ _ (kb _ _ (ka _ _ e n) n) n) hc
   clear ka ha kb hb kc hc
   obtain⟨an,rfl⟩:∃an:Nat,a=((an:Nat):Int):=⟨a.toNat,OO⟩
   obtain⟨bn,rfl⟩:∃bn:Nat,b=((bn:Nat):Int):=⟨b.toNat,OO⟩
   have st:=Same.upd (o:=.tup [.int ((an:Nat):Int),.int ((bn:Nat):Int),.int c]) ht
   obtain⟨Hd1,hHd⟩:∃H,H=upd Hc t (.tup [.int ((an:Nat):Int),.int ((bn:Nat):Int),.int c]):=⟨_,rfl⟩
   have et:upd Hc t (.tup [.int ((an:Nat):Int),.int ((bn:Nat):Int),.int c]) t=_:=B2
   rw[<-hHd] at st et
   have Ld:=Lc.sm st
   show ∃v,_/\_
   rw[<-hHd]
   clear hHd Lc L2 st
   obtain⟨kvs,edc,kv⟩:=id Ld.dc
   have hlk:kk.kws.length=i:=by have:=congrArg B18 Ld.ks;unfold C6 at this;rwa [D6,D6,u8] at this
   have hno:D7 kk.kws (Q0 one i)=none:=C3d λz=>by
    rw[Ld.ks] at z
    obtain⟨j,hj,e⟩:=Q2.mp z
    exact D6q hi (p6.mp hj) e.symm
   have wo:A82 kk.m (an,bn,c):=⟨by show an < kk.m;lia,by show bn < kk.m;lia,c0,c1⟩
   refine⟨_,rfl,_,rfl,dc,_,rfl,A48.k (k:=Sum.inl (Q0 one i)) edc (by rw[kv.len,hlk,sizeLine_eq];lia),?_⟩
   have tw:ThV TT0 Hd1 (.ref t) (M7 (an,bn,c)):=.tup trivial et (.cons (.int _) (.cons (.int _) (.cons (.int _) .nil)))
   have kv':=kv.put (k:=Q0 one i) tw
   have kpN:=Ld.kp.ud (kvs':=U5 kvs (Sum.inl (Q0 one i):Key) (.ref t)) edc nedc
   have hhN:=D6r (kvs':=U5 kvs (Sum.inl (Q0 one i):Key) (.ref t)) Ld.hh edc
   have frN:∀b o,Hd1 b=some o->b≠dc->upd Hd1 dc (.dK (U5 kvs (Sum.inl (Q0 one i):Key) (.ref t))) b=some o:=λb o e n=>by rw[B1 n];exact e
   have edN:upd Hd1 dc (.dK (U5 kvs (Sum.inl (Q0 one i):Key) (.ref t))) dc=_:=B2
   obtain⟨H5,hH5⟩:∃H,H=upd Hd1 dc (.dK (U5 kvs (Sum.inl (Q0 one i):Key) (.ref t))):=⟨_,rfl⟩
   rw[<-hH5] at kpN hhN frN edN ⊢
   clear hH5
   have kvH:=kv'.mv (H':=H5) λb xs e=>frN _ _ e λz=>by rw[z,edc] at e;cases e
   rcases kvH.val (Q0 one i) with ⟨_,z⟩ | ⟨v0,w1,hv,hw1,tv⟩
   ·rw[A7k hno,B6i hno] at z;cases z
   rw[A7k hno,B6i hno] at hw1
   cases hw1
   obtain⟨tt,ut,rfl,_,ett,tut⟩:=A1b (show ThV TT0 H5 v0 (.tuple [.int ((an:Nat):Int),.int ((bn:Nat):Int),.int c]) from tv)
   obtain⟨y1,y2,y3,rfl,ty1,ty2,ty3⟩:=C2t tut
   cases ty1
   cases ty2
   cases ty3
   have gt:=U6.k (k:=Sum.inl (Q0 one i)) edN
   rw[hv] at gt
   obtain⟨dx,g,l,e1⟩:=kpi kpN
   subst hW2
   refine⟨_,rfl,p,dx,_,rfl,e1,K4 KK,_,rfl,_,rfl,_,rfl,dc,_,rfl,gt,.inr (.inl ⟨tt,_,0,_,rfl,rfl,SqT.of ett,rfl,_,rfl,_,rfl,dc,_,rfl,gt,.inr (.inl ⟨tt,_,1,_,rfl,rfl,SqT.of ett,rfl,_,rfl,_,rfl,dc,_,rfl,gt,.inr (.inl ⟨tt,_,2,_,rfl,rfl,SqT.of ett,rfl,?_⟩)⟩)⟩)⟩
   have hF5:∀b,H5 b=none->b≠hd:=λb hb z=>by
    obtain⟨_,_,_,_,_,_,_,_,e⟩:=hhN
    rw[z,e] at hb;cases hb
   have dok:A7j kk (.lay (Q0 one i) (an,bn,c)):=⟨C3c hi,hno,wo,OO⟩
   refine⟨_,p,d,kk,_,V2.args (.lay (Q0 one i) (an,bn,c)),rfl,hF5,kpN,.cons (.int _) (.cons (.int _) (.cons (.int _) (.cons (.int _) .nil))),⟨_,⟨_,_,rfl⟩,rfl,Ld.ok,Ld.lo.tab.len,dok⟩,λr v k' H6 po kp6 tv6 fr6 ap=>?_⟩
   obtain⟨dd',⟨x',w',rfl⟩,h2,b6,lb,rfl,rfl⟩:=po
   obtain⟨rfl,rfl⟩:=B6g h2
   subst hD
   refine⟨{ S5 kk (.lay (Q0 one i) (an,bn,c)) with low:=b6 },_,_,rfl,?_⟩
   refine⟨A1n hhN kpN fr6,kp6,⟨_,fr6 _ _ edN (λz=>?_) nedc,kvH.mv λb xs e=>fr6 _ _ e (R8 kpN e).1 (R8 kpN e).2⟩,A3h Ld.ok dok,lb,Ld.em,Ld.es,Ld.eg,?_,λb o e n1 n2 n3=>fr6 _ _ (frN _ _ (Ld.fr b o e n1 n2 n3) λz=>?_) n2 n3⟩
   ·rw[z,e1] at edN;cases edN
   ·show C6 (W8 kk.kws _ _)=_
    rw[A7k hno,List.range_succ,V3,<-Ld.ks]
    unfold C6
    rw[V3];rfl
   ·rw[z,hdcH] at e;cases e
  ·rintro σ' H' ⟨kk,x7,x8,rfl,L⟩
   subst hW
   refine⟨_,rfl,?_⟩
   rw[show ((n:Nat):Int).toNat=n by lia] at L
   exact told dc one n kk H' hn L nedc
end
section
variable {X:Cx}
theorem B1w (C:DC) {st:Stmt} {d:DS} (h:PS X st (sOf C d)):PS X st (sOf C d):=h
theorem D6u {sts:List Stmt} {t:DC->TS} (h:∀C,PSs X sts (t C)):PSs X sts (λD σ H=>∃C,t C D σ H):=λpins s σ H D I zz2=>zz2.elim λC q=>h C pins s σ H D I q
end
theorem B1x {C:DC} {d:DS} {u:TS} {ρ:List Sl} {σ:L2.St} {H:Hp} {D:X3} (r:Rel C ρ σ [] H) (M:List Sl->Prop) (ht:d { nx:=M,rt:=λ_=>False } ρ) (hu:∀ρ' σ' H',Rel C ρ' σ' [] H'->M ρ'->u D σ' H'):X8 (sOf C d) u D σ H:=
 ⟨ρ,[],{ nx:=M,rt:=λ_=>False },r,ht,⟨fun ρ' σ' H' r' m=>hu ρ' σ' H' r' m,λ_ _ _ _ _ _ h=>h.elim,λ_ _ _ _ h=>h.elim,λ_ _ _ _ h=>h.elim,λ_ _ _ _ _ _ _ _ h=>h.elim⟩⟩
def A3j (x:V):B3d:=⟨λ_ _ v=>v=x,λ_ z=>z⟩
open Classical in
theorem C3e {F:Addr->Prop} {H:Hp} {hd hl:Addr} {ρ:List Sl} {σ:L2.St} (d:Hd H hd hl) (f1:∀b,H b=none->F b) (f2:∀b xs,H b=some (.tup xs)->F b) (fn:¬ F hd) (len:ρ.length=σ.length)
  (hs:∀(i:Nat) (s:Sl),ρ[i]?=some s->s=.no\/(s=.hd/\(σ[i]?).join=some (.ref hd))\/(∃v,s=.ob (A3j v)/\(σ[i]?).join=some v)\/∃d v,s=.sh d/\(σ[i]?).join=some v/\ThV F H v d):Rel ⟨F,some (hd,hl),H⟩ ρ σ [] H:=by
 refine⟨λb=>if F b then 0 else 1,λb hb=>if_pos (f1 b hb),λb hb=>?_,λq hq=>?_,λi s e=>?_,λp hp=>(nomatch hp),Kq.refl,λq hq=>?_,λq hq=>?_,⟨f1,f2⟩,len⟩
 ·by_cases z:F b
  ·exact z
  ·have hb':(if F b then 0 else 1)=0:=hb
   rw[if_neg z] at hb';cases hb'
 ·cases hq
  exact if_neg fn
 ·rcases hs i s e with rfl | ⟨rfl,h⟩ | ⟨v,rfl,h⟩ | ⟨d,v,rfl,h,t⟩
  ·trivial
  ·exact⟨(hd,hl),rfl,h⟩
  ·exact⟨v,h,rfl⟩
  ·exact⟨v,h,t.mv λb o z e=>⟨if_pos z,e⟩⟩
 ·cases hq;exact d
 ·cases hq;exact d
def B6j (k:Kst) (wd:Str) (ds:List PyData) (r:Nat) (fs:List PyData):Prop:=
 (wd = "lay" /\∃a b c e,ds=[a,b,c,e]/\((A01 a=false/\r=0/\fs=[])\/∃x,a=.int x/\T0 x/\((∃w,D7 k.kws x=some w/\r=1/\fs=[.int x])\/(D7 k.kws x=none/\
  (((M8 ((k.m:Nat):Int) b&&(M8 ((k.m:Nat):Int) c&&chB e))=false/\r=2/\fs=[])\/((M8 ((k.m:Nat):Int) b&&(M8 ((k.m:Nat):Int) c&&chB e))=true/\40<=k.kws.length/\r=3/\fs=[.int 40]))))))\/
 (wd = "lift" /\∃a,ds=[a]/\NoW k a/\r=4/\fs=[a])\/
 (wd = "turn" /\∃a c,ds=[a,c]/\((NoW k a/\r=4/\fs=[a])\/∃x w,a=.int x/\T0 x/\D7 k.kws x=some w/\chB c=false/\r=2/\fs=[]))\/
 (wd = "refill" /\∃a,ds=[a]/\(A2d a=false\/∃x,a=.int x/\(0<=x/\x<=100000000000000000000)/\a8 k.m x (.list (B4 k.g))=false)/\r=5/\fs=[])\/
 (wd = "aim" /\∃a,ds=[a]/\(∀ds,a=.list ds->ds.length<=400)/\a8 k.m k.st a=false/\r=6/\fs=[])
def Y9 (k:Kst) (d:PyData):Prop:=∃wd ds r fs,d=.tuple [.str wd,.list ds,.str (A2g r),.list fs]/\r < 7/\B6j k wd ds r fs/\X6 fs=true/\PyData.depthAll fs<=40
theorem B6j.go {k:Kst} {wd:Str} {ds fs:List PyData} {r:Nat} {F:Addr->Prop} {H:Hp} {us:List V} (h:B6j k wd ds r fs) (t:B0 F H us ds):∃v,C22 k wd us ds r v/\((o8 r).isSome=true->∃a,fs=[a]/\ThV F H v a)/\((o8 r).isSome=false->fs=[]):=by
 rcases h with ⟨rfl,a,b,c,e,rfl,h⟩ | ⟨rfl,a,rfl,nw,rfl,rfl⟩ | ⟨rfl,a,c,rfl,h⟩ | ⟨rfl,a,rfl,h,rfl,rfl⟩ | ⟨rfl,a,rfl,h1,h2,rfl,rfl⟩
 ·rcases h with ⟨h,rfl,rfl⟩ | ⟨x,rfl,lx,h⟩
  ·exact⟨.non,.inl ⟨rfl,a,b,c,e,rfl,.inl ⟨h,rfl⟩⟩,(λz=>nomatch z),λ_=>rfl⟩
  ·rcases h with ⟨w,hw,rfl,rfl⟩ | ⟨hn,h⟩
   ·exact⟨.int x,.inl ⟨rfl,_,b,c,e,rfl,.inr ⟨x,rfl,lx,.inl ⟨w,hw,rfl,rfl⟩⟩⟩,λ_=>⟨_,rfl,.int x⟩,λz=>nomatch z⟩
   ·rcases h with ⟨h,rfl,rfl⟩ | ⟨h,h40,rfl,rfl⟩
    ·exact⟨.non,.inl ⟨rfl,_,b,c,e,rfl,.inr ⟨x,rfl,lx,.inr ⟨hn,.inl ⟨h,rfl⟩⟩⟩⟩,(λz=>nomatch z),λ_=>rfl⟩
    ·exact⟨.int 40,.inl ⟨rfl,_,b,c,e,rfl,.inr ⟨x,rfl,lx,.inr ⟨hn,.inr ⟨h,h40,rfl,rfl⟩⟩⟩⟩,λ_=>⟨_,rfl,.int 40⟩,λz=>nomatch z⟩
 ·obtain⟨v,rfl,tv⟩:=X7 t
  exact⟨v,.inr (.inl ⟨rfl,a,rfl,nw,rfl,rfl⟩),λ_=>⟨a,rfl,tv⟩,λz=>nomatch z⟩
 ·obtain⟨v,v2,rfl,tv,_⟩:=m6 t
  rcases h with ⟨nw,rfl,rfl⟩ | ⟨x,w,rfl,lx,hw,hc,rfl,rfl⟩
  ·exact⟨v,.inr (.inr (.inl ⟨rfl,a,c,rfl,.inl ⟨nw,rfl,v2,rfl⟩⟩)),λ_=>⟨a,rfl,tv⟩,λz=>nomatch z⟩
  ·exact⟨v,.inr (.inr (.inl ⟨rfl,_,c,rfl,.inr ⟨x,w,rfl,lx,hw,hc,rfl⟩⟩)),(λz=>nomatch z),λ_=>rfl⟩
 ·exact⟨.non,.inr (.inr (.inr (.inl ⟨rfl,a,rfl,h,rfl⟩))),(λz=>nomatch z),λ_=>rfl⟩
 ·exact⟨.non,.inr (.inr (.inr (.inr ⟨rfl,a,rfl,h1,h2,rfl⟩))),(λz=>nomatch z),λ_=>rfl⟩
theorem B6k {L:List PyData} {P:PyData->Bool} (h:L.all P=true) {u:Int} (h0:0<=u) (h1:u < ((L.length:Nat):Int)) {Q:PyData->Prop} (q:∀x,P x=true->Q x):bnd (atI L u) Q:=by
 obtain⟨k,rfl⟩:∃k:Nat,u=((k:Nat):Int):=⟨u.toNat,OO⟩
 have hk:k < L.length:=by lia
 exact B52 (A0q (P5 hk)) (q _ (B2d.mp h _ (List.getElem_mem hk)))
theorem B1y {L:List PyData} {P:PyData->Prop} (h:∀x∈L,P x) {u:Int} (h0:0<=u) (h1:u < ((L.length:Nat):Int)) {Q:PyData->Prop} (q:∀x,P x->Q x):bnd (atI L u) Q:=by
 obtain⟨k,rfl⟩:∃k:Nat,u=((k:Nat):Int):=⟨u.toNat,OO⟩
 have hk:k < L.length:=by lia
 exact B52 (A0q (P5 hk)) (q _ (h _ (List.getElem_mem hk)))
section
variable {C:DC} {ρ:List Sl} {σ:L2.St} {H:Hp} {i:Nat}
theorem B6l {σ:L2.St} {i:Nat} {v:V} (h:(σ[i]?).join=some v):σ[i]?=some (some v):=by
 cases e:σ[i]? with
 | none=>rw[e] at h;cases h
 | some o=>rw[e] at h;cases o with
  | none=>cases h
  | some x=>cases h;rfl
theorem A5r {d:PyData} (R:Rel C ρ σ [] H) (e:ρ[i]?=some (.sh d)):∃v,σ[i]?=some (some v)/\ThV C.F H v d:=by
 obtain⟨col,r⟩:=R
 obtain⟨v,h,t⟩:=r.sl i _ e
 exact⟨v,B6l h,t.mv λb o z e=>⟨r.inF b z,e⟩⟩
theorem D6v {x:V} (R:Rel C ρ σ [] H) (e:ρ[i]?=some (.ob (A3j x))):σ[i]?=some (some x):=by
 obtain⟨col,r⟩:=R
 obtain⟨v,h,t⟩:=r.sl i _ e
 cases (show v=x from t)
 exact B6l h
theorem D6w {q:Addr×Addr} (R:Rel C ρ σ [] H) (hq:C.hand=some q) (e:ρ[i]?=some .hd):σ[i]?=some (some (.ref q.1)):=by
 obtain⟨col,r⟩:=R
 obtain⟨q',h',h⟩:=r.sl i _ e
 rw[hq] at h'
 cases h'
 exact B6l h
end
theorem D6x {H H':Hp} {hd hl a:Addr} {x:PyData} (h:Hd H hd hl) (t:ThV (O1 H) H' (.ref a) x):a≠hd:=λz=>by
 obtain⟨_,_,_,_,_,_,_,_,e⟩:=h
 have key:O1 H a:=by
  cases t with
  | lst g _ _=>exact g
  | tup g _ _=>exact g
  | dic g _ _=>exact g
 rw[z] at key
 rcases key with q | ⟨xs,q⟩
 ·rw[e] at q;cases q
 ·rw[e] at q;cases q
theorem C3f (xs:List PyData) (a b:Option Int):(S4 xs a b).length<=xs.length:=by
 unfold S4
 rw[Z0,B6z]
 lia
section
variable {k:Kst} {a b c e:PyData} {x:Int} {w:Wy}
theorem A9f:PyData.depthAll []<=40:=by simp [PyData.depthAll]
theorem B1z (h:a.depth<=3):PyData.depthAll [a]<=40:=by simp only[PyData.depthAll];lia
theorem C3g (h:okS a=true):X6 [a]=true:=by rw[X6,h];rfl
theorem C3h (h:A01 a=false):Y9 k (.tuple [.str "lay",.list [a,b,c,e],.str "bad label",.list []]):=⟨"lay",_,0,[],rfl,DD,.inl ⟨rfl,_,_,_,_,rfl,.inl ⟨h,rfl,rfl⟩⟩,rfl,A9f⟩
theorem D6y (lx:T0 x) (hw:D7 k.kws x=some w):Y9 k (.tuple [.str "lay",.list [.int x,b,c,e],.str "taken",.list [.int x]]):=⟨"lay",_,1,_,rfl,DD,.inl ⟨rfl,_,_,_,_,rfl,.inr ⟨x,rfl,lx,.inl ⟨w,hw,rfl,rfl⟩⟩⟩,rfl,B1z (by show 0<=3;decide)⟩
theorem B10 (lx:T0 x) (hn:D7 k.kws x=none) (h:(M8 ((k.m:Nat):Int) b&&(M8 ((k.m:Nat):Int) c&&chB e))=false):Y9 k (.tuple [.str "lay",.list [.int x,b,c,e],.str "bad way",.list []]):=⟨"lay",_,2,[],rfl,DD,.inl ⟨rfl,_,_,_,_,rfl,.inr ⟨x,rfl,lx,.inr ⟨hn,.inl ⟨h,rfl,rfl⟩⟩⟩⟩,rfl,A9f⟩
theorem D6z (lx:T0 x) (hn:D7 k.kws x=none) (h:(M8 ((k.m:Nat):Int) b&&(M8 ((k.m:Nat):Int) c&&chB e))=true) (h40:40<=k.kws.length):Y9 k (.tuple [.str "lay",.list [.int x,b,c,e],.str "too many",.list [.int 40]]):=⟨"lay",_,3,_,rfl,DD,.inl ⟨rfl,_,_,_,_,rfl,.inr ⟨x,rfl,lx,.inr ⟨hn,.inr ⟨h,h40,rfl,rfl⟩⟩⟩⟩,rfl,B1z (by show 0<=3;decide)⟩
theorem C3i (nw:NoW k a) (h1:okS a=true) (h2:a.depth<=3):Y9 k (.tuple [.str "lift",.list [a],.str "no way",.list [a]]):=⟨"lift",_,4,_,rfl,DD,.inr (.inl ⟨rfl,_,rfl,nw,rfl,rfl⟩),C3g h1,B1z h2⟩
theorem C3j (nw:NoW k a) (h1:okS a=true) (h2:a.depth<=3):Y9 k (.tuple [.str "turn",.list [a,c],.str "no way",.list [a]]):=⟨"turn",_,4,_,rfl,DD,.inr (.inr (.inl ⟨rfl,_,_,rfl,.inl ⟨nw,rfl,rfl⟩⟩)),C3g h1,B1z h2⟩
theorem D60 (lx:T0 x) (hw:D7 k.kws x=some w) (h:chB c=false):Y9 k (.tuple [.str "turn",.list [.int x,c],.str "bad way",.list []]):=⟨"turn",_,2,[],rfl,DD,.inr (.inr (.inl ⟨rfl,_,_,rfl,.inr ⟨x,w,rfl,lx,hw,h,rfl,rfl⟩⟩)),rfl,A9f⟩
theorem C3k (h:A2d a=false\/∃x,a=.int x/\(0<=x/\x<=100000000000000000000)/\a8 k.m x (.list (B4 k.g))=false):Y9 k (.tuple [.str "refill",.list [a],.str "bad store",.list []]):=⟨"refill",_,5,[],rfl,DD,.inr (.inr (.inr (.inl ⟨rfl,_,rfl,h,rfl,rfl⟩))),rfl,A9f⟩
theorem C3l (h1:∀ds,a=.list ds->ds.length<=400) (h:a8 k.m k.st a=false):Y9 k (.tuple [.str "aim",.list [a],.str "bad goal",.list []]):=⟨"aim",_,6,[],rfl,DD,.inr (.inr (.inr (.inr ⟨rfl,_,rfl,h1,h,rfl,rfl⟩))),rfl,A9f⟩
end
theorem B6m:∀g:Tb,(g.filter λo=>o.isSome).map oD=(g.filterMap id).map PyData.int
 | []=>rfl
 | none::g=>by
  show (g.filter λo=>o.isSome).map oD=(g.filterMap id).map PyData.int
  exact B6m g
 | some x::g=>by
  show PyData.int x::(g.filter λo=>o.isSome).map oD=PyData.int x::(g.filterMap id).map PyData.int
  rw[B6m g]
def OdN (B:PyData->Bool) (d:PyData):Prop:=B d=false/\okS d=true/\d.depth<=3
def OdB (B:PyData->Bool) (d:PyData):Bool:=!B d&&(okS d&&decide (d.depth<=3))
theorem B6n {B:PyData->Bool} {d:PyData} (h:OdB B d=true):OdN B d:=by
 unfold OdB at h
 rw[r8,r8,decide_eq_true_iff] at h
 exact⟨by simpa using h.1,h.2.1,h.2.2⟩
abbrev F3 (hd p d:Addr):Addr->Prop:=λb=>b≠hd/\b≠p/\b≠d
def o9 (p:Addr) (m:Nat) (ls:List Int) (sp:Int) (z1 z2 z3 z4 z5 z6:Sl):List Sl:=[.hd,.ob (A3j (.ref p)),.sh (.int ((m:Nat):Int)),.sh (.list (ls.map PyData.int)),.sh (.int sp),z1,z2,z3,z4,z5,z6,.no,.no,.no,.no,.no,.no]
def D61 (C:Addr):Sp:=λvs H Q _=>∃(hd hl p d ll:Addr) (k:Kst) (ls:List Int) (sp:Int),vs=[.ref hd,.ref p,.int ((k.m:Nat):Int),.ref ll,.int sp]/\Hd H hd hl/\E9 (λb=>b≠hd) C H p d k/\KOk k.m k.st k.g k.kws/\ll≠hd/\H ll=some (.lst (ls.map V.int))/\ls.length=k.kws.length/\(∀x∈ls,T0 x/\∃w,D7 k.kws x=some w)/\T0 sp/\D7 k.kws sp=none/\
 ∀rows v H',(∀d∈rows,Y9 k d)->E9 (λb=>b≠hd) C H' p d k->Hd H' hd hl->ThV (λb=>b≠hd/\b≠p/\b≠d) H' v (.list rows)->(∀b o,H b=some o->b≠hd->b≠p->b≠d->H' b=some o)->Q v H'
section
variable {P:Program} {w:World} {K:A4} {mg:Str->Option Value} {base:Heap}
theorem D62 (T:Txt K mg):B9 P w K mg base CX0 6 T.dw.a T.dw.d ["_law_hand_here", "_law_keeper", "_law_many", "_law_labels", "_law_spare"] (D61 T.aa):=by
 have cL:=@B6b P w K mg base T
 have cM:=T.bx.b
 have cz:=@B6a P w K mg base T
 have cA:=T.aT.b
 have aq:=@A5h P w K mg base T
 have au:=T.ae.b
 refine T.dw.F.ok V5 (λvs H Q E h=>?_) (λcdv A outer s H vs Q E hr h=>?_)
 ·obtain⟨hd,hl,p,d,ll,k,ls,sp,rfl,_⟩:=h
  rfl
 ·obtain⟨hd,hl,p,d,ll,k,ls,sp,rfl,hh,kp,ok,nll,ell,hln,hls,lsp,nsp,told⟩:=h
  refine⟨_,(D6u (λC=>(@C0 _ _ _ _ _ (B1w C (@G5 _ _ _ _ _ (@C4 _ _ 5 _ _ _ _ V5.nd rfl (B7 rfl) (@P4 _ _ _ _ _ _ _ (@C7 _ _ _ _ (@E3 _ _ _ _ _ (A2 N2 (A2 B3 (A2 (Z4 B3) (A2 A2y (A2 K7 (A2 (L5 Q9 i8 (L5 S2 Z5 B3 B3) B3) (A2 (M4 (A2 B3 B5 A8)) (A2 (C7 (E3 (A2 B3 B5 A8))) (A2 C9j B5 C6m) E6) O3) L7) A8) A8) A3z) A8) A8))) (F5 (B6 aq (hr.mono DD) rfl T.ae.m T.ae.F.kp au .nil A9 (V1 (pv 0) (C2 B3 F4 A8) A0) (he:=A0) (hpl:=(A7 A8 A5)))) (λ_ _=>rfl)) (by rfl) (by first | exact .inl rfl | exact .inr rfl | assumption)))) (@C0 _ _ _ _ _ (B1w C (@G5 _ _ _ _ _ (@C4 _ _ 6 _ _ _ _ V5.nd rfl (B7 rfl) (@P4 _ _ _ _ _ _ _ (C7 (E3 (A2 (A3 (pv 2)) (A2 (Z4 B3) (A2 N2 (A2 A2y (A2 K7 (A2 (C7 (E3 (A2 B3 B5 A8))) (A2 (L5 S2 Z5 B3 B3) B5 L7) E6) A8) A8) A8) A3z) A0))) (F5 (B6 aq (hr.mono DD) rfl T.ae.m T.ae.F.kp au .nil A9 (V1 (pv 0) (C2 B3 F4 A8) A0) (he:=A0) (hpl:=(A7 A8 A5)))) (λ_ _=>rfl)) (by rfl) (by first | exact .inl rfl | exact .inr rfl | assumption)))) (@C0 _ _ _ _ _ (B1w C (@G5 _ _ _ _ _ (@C4 _ _ 7 _ _ _ _ V5.nd rfl (B7 rfl) (@P4 _ _ _ _ _ _ _ (@C7 _ _ _ _ (@E3 _ _ _ _ _ (A2 (L5 Q9 i8 (L5 S2 Z5 B3 B3) B3) (A2 (L5 A2u A8i (Z4 (L5 S2 Z5 B3 B3)) B3) (A2 N2 (A2 A2y (A2 K7 (A2 (C7 (E3 (A2 B3 B5 A8))) (A2 (M4 (A2 B3 B5 A8)) B5 O3) E6) A8) A8) A8) L7) L7))) (F5 (B6 aq (hr.mono DD) rfl T.ae.m T.ae.F.kp au .nil A9 (V1 (pv 0) (C2 B3 F4 A8) A0) (he:=A0) (hpl:=(A7 A8 A5)))) (λ_ _=>rfl)) (by rfl) (by first | exact .inl rfl | exact .inr rfl | assumption)))) (@C0 _ _ _ _ _ (B1w C (@G5 _ _ _ _ _ (@C4 _ _ 8 _ _ _ _ V5.nd rfl (B7 rfl) (@P4 _ _ _ _ _ _ _ (C7 (E3 (A2 (L5 Q9 i8 (L5 S2 Z5 B3 B3) B3) (A2 (Z4 B3) (A2 N2 (A2 A2y (A2 K7 (A2 (C7 (E3 (A2 B3 B5 A8))) B5 E6) A8) A8) A8) A3z) L7))) (F5 (B6 aq (hr.mono DD) rfl T.ae.m T.ae.F.kp au .nil A9 (V1 (pv 0) (C2 B3 F4 A8) A0) (he:=A0) (hpl:=(A7 A8 A5)))) (λ_ _=>rfl)) (by rfl) (by first | exact .inl rfl | exact .inr rfl | assumption)))) (@C0 _ _ _ _ _ (C4 (i:=9) V5.nd rfl (B7 rfl) (O5 (pv 1) T.ac T.bx.m cL (hr.mono DD) cM .nil A9)) (@C0 _ _ _ _ _ (C4 (i:=10) V5.nd rfl (B7 rfl) (K6 Q9 (O5 (pv 1) T.ac T.aT.m cz (hr.mono DD) cA .nil A9) C3)) (@C77 _ _ _ (λC=>(@M6 _ _ _ _ _ _ (G5 (C4 (i:=11) V5.nd rfl (B7 rfl) (F5 (B6 aq (hr.mono DD) rfl T.ae.m T.ae.F.kp au .nil A9 (V1 (pv 0) (C2 (A0z (G8 Y1 rfl T.bi W0 (A1 (pv 9) A6 A0) (he:=A0) (hpl:=A5))) F4 D5) A0) (he:=A0) (hpl:=(A7 D5 A5)))))) (@M6 _ _ _ _ _ _ (@G5 _ _ _ _ _ (@C4 _ _ 12 _ _ _ _ V5.nd rfl (B7 rfl) (@P4 _ _ _ _ _ _ _ (C7 (E3 (A2 (A3 (pv 10)) (A2 (Z4 B3) (A2 K7 (A2 A2y (A2 (C7 (E3 (A2 B3 B5 A8))) (A2 (M4 (A2 B3 B5 A8)) B5 O3) E6) A8) A8) A3z) A0))) (F5 (B6 aq (hr.mono DD) rfl T.ae.m T.ae.F.kp au .nil A9 (V1 (pv 0) (C2 B3 F4 A8) A0) (he:=A0) (hpl:=(A7 A8 A5)))) (λ_ _=>rfl)) (by rfl) (by first | exact .inl rfl | exact .inr rfl | assumption))) (@M6 _ _ _ _ _ _ (@G5 _ _ _ _ _ (@C4 _ _ 13 _ _ _ _ V5.nd rfl (B7 rfl) (@C7 _ _ _ _ (@E3 _ _ _ _ _ (@A2 _ _ _ _ _ _ N2 (@A2 _ _ _ _ _ _ (C7 (m7 (A3 (pv 9)) (C7 (E3 (A2 N2 B5 A8))))) (@A2 _ _ _ _ _ _ (C7 (A8k (pv 9) A6l (A23 (Z4 B3)))) (@A2 _ _ _ _ _ _ (C9l (j9 C5z rfl T.eG B8t (A1 (pv 9) A6 A0) (he:=A0) (hpl:=A5))) (A2 B3 (A2 (C7 (m7 (C7 (m7 (C7 (A8k (pv 9) A6l (A23 (A3 (pv 11))))) (C7 (E3 (A2 (A3 (pv 12)) B5 A0))))) (C7 (A8k (pv 9) (A23 (L5 Q9 i8 (A3 (pv 11)) B3)) A6l)))) B5 L7) A8) D5) C1) L7) A8))) (by rfl) (by first | exact .inl rfl | exact .inr rfl | assumption))) (@M6 _ _ _ _ _ _ (@n6 _ _ _ _ _ (@C4 _ _ 14 _ _ _ _ V5.nd rfl (B7 rfl) (@E3 _ _ _ _ _ (@A2 _ _ _ _ _ _ (M4 (A2 K7 (A2 (C7 (E3 (A2 (A3 (pv 5)) (A2 B3 (A2 B3 (A2 B3 B5 A8) A8) A8) A0))) (A2 K7 (A2 (C7 (E3 B5)) B5 E6) A8) E6) A8)) (A2 (M4 (A2 K7 (A2 (C7 (E3 (A2 (A3 (pv 5)) (A2 (A3 (pv 6)) (A2 B3 (A2 (A3 (pv 7)) B5 A0) A8) A0) A0))) (A2 K7 (A2 (C7 (E3 B5)) B5 E6) A8) E6) A8)) B5 O3) O3)) (by rfl) (by first | exact .inl rfl | exact .inr rfl | assumption))) (@M6 _ _ _ _ _ _ (@n6 _ _ _ _ _ (@C4 _ _ 14 _ _ _ _ V5.nd rfl (B7 rfl) (@m7 _ _ _ _ _ _ _ (A3 (pv 14)) (@C7 _ _ _ _ (@E3 _ _ _ _ _ (@A2 _ _ _ _ _ _ (M4 (A2 K7 (A2 (C7 (E3 (A2 (A3 (pv 4)) (A2 (A3 (pv 6)) (A2 B3 (A2 B3 B5 A8) A8) A0) A0))) (A2 K7 (A2 (C7 (E3 B5)) B5 E6) A8) E6) A8)) (A2 (M4 (A2 K7 (A2 (C7 (E3 (A2 (A3 (pv 4)) (A2 B3 (A2 (A3 (pv 6)) (A2 B3 B5 A8) A0) A8) A0))) (A2 K7 (A2 (C7 (E3 B5)) B5 E6) A8) E6) A8)) B5 O3) O3)))) (by rfl) (by first | exact .inl rfl | exact .inr rfl | assumption))) (@M6 _ _ _ _ _ _ (@n6 _ _ _ _ _ (@C4 _ _ 14 _ _ _ _ V5.nd rfl (B7 rfl) (@m7 _ _ _ _ _ _ _ (A3 (pv 14)) (@C7 _ _ _ _ (@E3 _ _ _ _ _ (@A2 _ _ _ _ _ _ (M4 (A2 K7 (A2 (C7 (E3 (A2 (A3 (pv 4)) (A2 B3 (A2 B3 (A2 (A3 (pv 7)) B5 A0) A8) A8) A0))) (A2 K7 (A2 (C7 (E3 B5)) B5 E6) A8) E6) A8)) (A2 (M4 (A2 K7 (A2 (C7 (E3 (A2 (A3 (pv 5)) B5 A0))) (A2 K7 (A2 (C7 (E3 (A2 (A3 (pv 5)) B5 A0))) B5 E6) A8) E6) A8)) B5 O3) O3)))) (by rfl) (by first | exact .inl rfl | exact .inr rfl | assumption))) (@M6 _ _ _ _ _ _ (@n6 _ _ _ _ _ (@C4 _ _ 14 _ _ _ _ V5.nd rfl (B7 rfl) (@m7 _ _ _ _ _ _ _ (A3 (pv 14)) (@C7 _ _ _ _ (@E3 _ _ _ _ _ (@A2 _ _ _ _ _ _ (M4 (A2 K7 (A2 (C7 (E3 (A2 (A3 (pv 4)) B5 A0))) (A2 K7 (A2 (C7 (E3 (A2 (A3 (pv 4)) B5 A0))) B5 E6) A8) E6) A8)) (A2 (M4 (A2 K7 (A2 (C7 (E3 (A2 (A3 (pv 4)) (A2 (A3 (pv 7)) B5 A0) A0))) (A2 K7 (A2 (C7 (E3 (A2 (A3 (pv 4)) B5 A0))) B5 E6) A8) E6) A8)) B5 O3) O3)))) (by rfl) (by first | exact .inl rfl | exact .inr rfl | assumption))) (@M6 _ _ _ _ _ _ (@n6 _ _ _ _ _ (@C4 _ _ 14 _ _ _ _ V5.nd rfl (B7 rfl) (@m7 _ _ _ _ _ _ _ (A3 (pv 14)) (@C7 _ _ _ _ (@E3 _ _ _ _ _ (@A2 _ _ _ _ _ _ (M4 (A2 K7 (A2 (C7 (E3 (A2 (A3 (pv 5)) (A2 B3 B5 A8) A0))) (A2 K7 (A2 (C7 (E3 (A2 (A3 (pv 5)) B5 A0))) B5 E6) A8) E6) A8)) (A2 (M4 (A2 K7 (A2 (C7 (E3 (A2 (A3 (pv 8)) B5 A0))) (A2 K7 (A2 (C7 (E3 B5)) B5 E6) A8) E6) A8)) B5 O3) O3)))) (by rfl) (by first | exact .inl rfl | exact .inr rfl | assumption))) (@M6 _ _ _ _ _ _ (@A4z _ _ _ _ _ _ (@T6 _ _ _ _ (@A07 _ _ _ _ _ _ _ _ _ _ _ _ A1p A56 A57 A2x (pv 14) (@A1 _ _ _ _ _ (@M4 _ _ _ _ _ _ (A2 K7 (A2 (C7 (E3 (A2 (D8 (pv 13) (F5 (B6 aq (hr.mono DD) rfl T.ae.m T.ae.F.kp au .nil A9 (V1 (pv 0) (C2 B3 F4 A8) A0) (he:=A0) (hpl:=(A7 A8 A5)))) (λ_ _=>rfl)) B5 C1))) (A2 K7 (A2 (C7 (E3 B5)) B5 E6) A8) E6) A8)) A6 O3) (by rfl) (by rfl) (by rfl) (by rfl) (by rfl)) (by rfl))) (@M6 _ _ _ _ _ _ (A4z (T6 (A07 A1p A56 A57 A2x (pv 14) (A1 (M4 (A2 K7 (A2 (C7 (E3 (A2 (D8 (pv 13) B3 (λ_ _=>rfl)) B5 C1))) (A2 K7 (A2 (C7 (E3 B5)) B5 E6) A8) E6) A8)) A6 O3)))) (@M6 _ _ _ _ _ _ (@B3r _ _ _ _ (@U0 _ _ _ _ _ _ _ _ _ (O0 (A08 (M3 hr)) A0x (A3 (pv 3)) (C7 (E3 B5)) (E4 _)) (@M6 _ _ _ _ _ _ (G5 (C4 (i:=15) V5.nd rfl (B7 rfl) (D8 (pv 3) (F5 (B6 aq (hr.mono DD) rfl T.ae.m T.ae.F.kp au .nil A9 (V1 (pv 0) (C2 (A0z (G8 Y1 rfl T.bi W0 (A1 (pv 3) A6 A0) (he:=A0) (hpl:=A5))) F4 D5) A0) (he:=A0) (hpl:=(A7 D5 A5)))) (λ_ _=>rfl)))) (@E1 _ _ _ _ (@n6 _ _ _ _ _ (@C4 _ _ 14 _ _ _ _ V5.nd rfl (B7 rfl) (@m7 _ _ _ _ _ _ _ (A3 (pv 14)) (@C7 _ _ _ _ (@E3 _ _ _ _ _ (@A2 _ _ _ _ _ _ (M4 (A2 K7 (A2 (C7 (E3 (A2 (A3 (pv 15)) (A2 (A3 (pv 6)) (A2 B3 (A2 B3 B5 A8) A8) A0) A0))) (A2 K7 (A2 (C7 (E3 (A2 (A3 (pv 15)) B5 A0))) B5 E6) A8) E6) A8)) (A2 (M4 (A2 K7 (A2 (C7 (E3 (A2 (A3 (pv 15)) (A2 (A3 (pv 7)) B5 A0) A0))) (A2 K7 (A2 (C7 (E3 B5)) B5 E6) A8) E6) A8)) B5 O3) O3)))) (by rfl) (by first | exact .inl rfl | exact .inr rfl | assumption))))) T9)) (@M6 _ _ _ _ _ _ (@B9o _ _ _ _ _ _ _ _ _ rfl (@B0b _ _ _ _ _ _ _ _ _ _ _ _ _ 16 _ _ _ _ _ V5.nd rfl (B7 rfl) (Q5.new (N:=["_law_hand_here", "_law_keeper", "_law_many", "_law_labels", "_law_spare", "_law_none", "_law_place", "_law_change_here", "_law_store_here", "_law_table_here", "_law_wide", "_law_at", "_law_odd", "_law_goal", "_law_rows", "_law_label", "_law_levels"]) (osc:=B8 B1c) KK) rfl (A6m (pv 9)) (λ_=>(A8d (O0 A79 A8j (A3 (pv 17)) N2 (E4 _)))) (λ_=>(A3 (pv 17))) (by rfl) (by first | exact .inl rfl | exact .inr rfl | assumption) (by rfl) (by rfl) (by intro _;rfl))) (@M6 _ _ _ _ _ _ (@B3r _ _ _ _ (@U0 _ _ _ _ _ _ _ _ _ (PW.pt (B87 (O0 (A08 (M3 hr)) A0x (A3 (pv 16)) (C7 (E3 B5)) (E4 _)) (B86 (O0 A3t A6j (A0c C0c (G8 (B85 rfl) rfl T.ee B0d (A2 (A3 (pv 16)) B5 A0) (he:=A0) (hpl:=A5))) B3 (E4 _))))) (@E1 _ _ _ _ (@A4z _ _ _ _ _ _ (@T6 _ _ _ _ (@A07 _ _ _ _ _ _ _ _ _ _ _ _ A1p A56 A57 A2x (pv 14) (A1 (M4 (A2 K7 (A2 (C7 (E3 (A2 (L5 A2u A8i (A0c C0c (G8 (B85 rfl) rfl T.ee B0d (A2 (A3 (pv 16)) B5 A0) (he:=A0) (hpl:=A5))) B3) B5 L7))) (A2 K7 (A2 (C7 (E3 B5)) B5 E6) A8) E6) A8)) A6 O3) (by rfl) (by rfl) (by rfl) (by rfl) (by rfl)) (by rfl)))) T9)) (@M6 _ _ _ _ _ _ (@B3r _ _ _ _ (@U0 _ _ _ _ _ _ _ _ _ (O0 (A6e (M3 hr)) A0x (A0z (G8 Y1 rfl T.bi W0 (A1 (pv 3) A6 A0) (he:=A0) (hpl:=A5))) B3 (E4 _)) (@E1 _ _ _ _ (@n6 _ _ _ _ _ (@C4 _ _ 14 _ _ _ _ V5.nd rfl (B7 rfl) (@m7 _ _ _ _ _ _ _ (A3 (pv 14)) (@C7 _ _ _ _ (@E3 _ _ _ _ _ (@A2 _ _ _ _ _ _ (M4 (A2 K7 (A2 (C7 (E3 (A2 (A3 (pv 4)) (A2 B3 (A2 B3 (A2 B3 B5 A8) A8) A8) A0))) (A2 K7 (A2 (C7 (E3 (A2 B3 B5 A8))) B5 E6) A8) E6) A8)) (A2 (M4 (A2 K7 (A2 (C7 (E3 (A2 (A3 (pv 4)) (A2 B3 (A2 B3 (A2 (A3 (pv 7)) B5 A0) A8) A8) A0))) (A2 K7 (A2 (C7 (E3 B5)) B5 E6) A8) E6) A8)) B5 O3) O3)))) (by rfl) (by first | exact .inl rfl | exact .inr rfl | assumption)))) T9)) (E1 (F8 (A3 (pv 14)))))))))))))))))))))))))))),?_⟩
  have pd:=A1k kp
  have nhp:hd≠p:=λz=>by
   obtain⟨dx,g,l,e1⟩:=kpi kp
   obtain⟨_,_,_,_,_,_,_,_,e⟩:=hh
   rw[z,e1] at e;cases e
  have R0:Rel ⟨F3 hd p d,some (hd,hl),H⟩ (o9 p k.m ls sp .no .no .no .no .no .no) [some (.ref hd),some (.ref p),some (.int ((k.m:Nat):Int)),some (.ref ll),some (.int sp),none,none,none,none,none,none,none,none,none,none,none,none] [] H:=by
   refine C3e hh (λb hb=>⟨λz=>?_,λz=>?_,λz=>?_⟩) (λb xs hb=>⟨λz=>?_,(R8 kp hb).1,(R8 kp hb).2⟩) (λz=>z.1 rfl) rfl λi s e=>?_
   ·obtain⟨_,_,_,_,_,_,_,_,e⟩:=hh
    rw[z,e] at hb;cases hb
   ·exact pd.2.1 (z▸hb)
   ·exact pd.2.2 (z▸hb)
   ·obtain⟨_,_,_,_,_,_,_,_,e⟩:=hh
    rw[z,e] at hb;cases hb
   ·unfold o9 at e
    match i,e with
    | 0,e=>cases e;exact .inr (.inl ⟨rfl,rfl⟩)
    | 1,e=>cases e;exact .inr (.inr (.inl ⟨_,rfl,rfl⟩))
    | 2,e=>cases e;exact .inr (.inr (.inr ⟨_,_,rfl,rfl,.int _⟩))
    | 3,e=>cases e;exact .inr (.inr (.inr ⟨_,_,rfl,rfl,.lst ⟨nll,(Q6 kp ell).1,(Q6 kp ell).2⟩ ell (B1v _)⟩))
    | 4,e=>cases e;exact .inr (.inr (.inr ⟨_,_,rfl,rfl,.int _⟩))
    | 5,e=>cases e;exact .inl rfl
    | 6,e=>cases e;exact .inl rfl
    | 7,e=>cases e;exact .inl rfl
    | 8,e=>cases e;exact .inl rfl
    | 9,e=>cases e;exact .inl rfl
    | 10,e=>cases e;exact .inl rfl
    | 11,e=>cases e;exact .inl rfl
    | 12,e=>cases e;exact .inl rfl
    | 13,e=>cases e;exact .inl rfl
    | 14,e=>cases e;exact .inl rfl
    | 15,e=>cases e;exact .inl rfl
    | 16,e=>cases e;exact .inl rfl
    | i + 17,e=>cases e
  have m1:=ok.m1
  have m2:=ok.m2
  refine⟨⟨F3 hd p d,some (hd,hl),H⟩,B1x R0 (fun ρ'=>∃d1,OdN A01 d1/\ρ'=o9 p k.m ls sp (.sh d1) .no .no .no .no .no) ?_ ?_⟩
  ·unfold o9
   left
   refine⟨⟨DD,DD,DD⟩,DD,DD,DD,rfl,9,rfl,DD,DD,λu u0 u1=>?_⟩
   refine B6k (P:=OdB A01) ?_ u0 ?_ λx hx=>⟨x,B6n hx,rfl⟩
   ·decide +kernel
   ·exact u1
  rintro ρ σ1 H1 R1 ⟨d1,od1,rfl⟩
  refine B1x R1 (fun ρ'=>∃d2,OdN (M8 ((k.m:Nat):Int)) d2/\ρ'=o9 p k.m ls sp (.sh d1) (.sh d2) .no .no .no .no) ?_ ?_
  ·unfold o9
   left
   refine⟨DD,⟨DD,DD,DD⟩,DD,rfl,7,rfl,DD,DD,λu u0 u1=>?_⟩
   refine B1y (P:=OdN (M8 ((k.m:Nat):Int))) (λx hx=>?_) u0 ?_ λx hx=>⟨x,hx,rfl⟩
   rotate_left
   ·exact u1
   simp only[J8,A58,or_false] at hx
   rcases hx with rfl | rfl | rfl | rfl | rfl | rfl | rfl
   ·exact⟨by unfold M8;exact decide_eq_false OO,rfl,by show 0<=3;decide⟩
   ·exact⟨by unfold M8;exact decide_eq_false OO,rfl,by show 0<=3;decide⟩
   ·exact⟨rfl,rfl,DD⟩
   ·exact⟨rfl,rfl,DD⟩
   ·exact⟨rfl,rfl,DD⟩
   ·exact⟨rfl,rfl,DD⟩
   ·refine⟨?_,rfl,by show 0<=3;decide⟩
    unfold M8
    refine decide_eq_false λz=>?_
    have e:((10:Int) ^ A72 30)=1000000000000000000000000000000:=by decide
    rw[e] at z
    lia
  rintro ρ σ2 H2 R2 ⟨d2,od2,rfl⟩
  refine B1x R2 (fun ρ'=>∃d3,OdN chB d3/\ρ'=o9 p k.m ls sp (.sh d1) (.sh d2) (.sh d3) .no .no .no) ?_ ?_
  ·unfold o9
   left
   refine⟨⟨DD,DD,DD⟩,⟨DD,DD,DD⟩,DD,DD,DD,rfl,7,rfl,DD,DD,λu u0 u1=>?_⟩
   refine B6k (P:=OdB chB) ?_ u0 ?_ λx hx=>⟨x,B6n hx,rfl⟩
   ·decide +kernel
   ·exact u1
  rintro ρ σ3 H3 R3 ⟨d3,od3,rfl⟩
  refine B1x R3 (fun ρ'=>∃d4,OdN A2d d4/\ρ'=o9 p k.m ls sp (.sh d1) (.sh d2) (.sh d3) (.sh d4) .no .no) ?_ ?_
  ·unfold o9
   left
   refine⟨⟨DD,DD,DD⟩,DD,DD,rfl,6,rfl,DD,DD,λu u0 u1=>?_⟩
   refine B6k (P:=OdB A2d) ?_ u0 ?_ λx hx=>⟨x,B6n hx,rfl⟩
   ·decide +kernel
   ·exact u1
  rintro ρ σ4 H4 R4 ⟨d4,od4,rfl⟩
  clear R0 R1 R2 R3
  have h1:σ4[1]?=some (some (.ref p)):=D6v (i:=1) R4 rfl
  have h0:σ4[0]?=some (some (.ref hd)):=D6w (q:=(hd,hl)) (i:=0) R4 rfl rfl
  obtain⟨v2,h2,t2⟩:=A5r (i:=2) R4 rfl
  obtain⟨v3,h3,t3⟩:=A5r (i:=3) R4 rfl
  obtain⟨v4,h4,t4⟩:=A5r (i:=4) R4 rfl
  obtain⟨v5,h5,t5⟩:=A5r (i:=5) R4 rfl
  obtain⟨v6,h6,t6⟩:=A5r (i:=6) R4 rfl
  obtain⟨v7,h7,t7⟩:=A5r (i:=7) R4 rfl
  obtain⟨v8,h8,t8⟩:=A5r (i:=8) R4 rfl
  obtain⟨hh4,kq4,len4⟩:Hd H4 hd hl/\KqD hd H H4/\σ4.length=17:=by
   obtain⟨col,r⟩:=R4
   exact⟨r.hq _ rfl,λb o e n=>r.kq b o e λq hq=>by cases hq;exact n,r.len.symm⟩
  clear R4
  have kp4:=A9e kp hh kq4
  obtain⟨dx4,g4,l4,e4⟩:=kpi kp4
  have nh4:∀{Hx:Hp} {b:Addr},Hd Hx hd hl->Hx b=none->b≠hd:=λ{Hx b} hx hb z=>by
   obtain⟨_,_,_,_,_,_,_,_,e⟩:=hx
   rw[z,e] at hb;cases hb
  refine⟨_,h1,p,dx4,_,rfl,e4,K4 KK,_,p,d,k,[],[],rfl,λb hb=>nh4 hh4 hb,kp4,.nil,rfl,λr v9 k5 H5 po kp5 tv5 fr5 ap=>?_⟩
  obtain⟨rfl,rfl⟩:=po
  have hh5:=A1n hh4 kp4 fr5
  obtain⟨dx5,g5,l5,e5⟩:=kpi kp5
  refine⟨_,(show (σ4.set 9 (some v9))[1]?=_ by rw[p7 (DD)];exact h1),p,dx5,_,rfl,e5,K4 KK,_,p,d,_,[],[],rfl,λb hb=>nh4 hh5 hb,kp5,.nil,rfl,λr v10 k6 H6 po kp6 tv6 fr6 ap=>?_⟩
  obtain⟨rfl,rfl⟩:=po
  cases tv6
  refine⟨_,_,rfl,rfl,?_⟩
  have hh6:=A1n hh5 kp5 fr6
  have fr46:=Frp.tr fr5 fr6
  have mv:∀{v x},ThV (F3 hd p d) H4 v x->ThV (F3 hd p d) H6 v x:=λz=>z.mv λb o y e=>⟨y,fr46 _ _ e y.2.1 y.2.2⟩
  have t9:ThV (F3 hd p d) H6 v9 (.list (B4 k6.g)):=by
   obtain⟨ag,ug,rfl,gg,eg,tg⟩:=P8 (ThV.tpd kp4 tv5)
   have eg6:=fr6 _ _ eg gg.1 gg.2
   exact .lst ⟨D6x hh4 tv5,gg.1,gg.2⟩ eg6 (M5 tg)
  have pd6:=A1k kp6
  have R6:Rel ⟨F3 hd p d,some (hd,hl),H6⟩ (o9 p k6.m ls sp (.sh d1) (.sh d2) (.sh d3) (.sh d4) (.sh (.list (B4 k6.g))) (.sh (.int (k6.st + 1)))) ((σ4.set 9 (some v9)).set 10 (some (.int (k6.st + 1)))) [] H6:=by
   have get:∀{i:Nat} {o:Option V},i≠9->i≠10->σ4[i]?=some o->(((σ4.set 9 (some v9)).set 10 (some (.int (k6.st + 1))))[i]?).join=o:=λn1 n2 e=>by
    rw[p7 (Ne.symm n2),p7 (Ne.symm n1),e];rfl
   refine C3e hh6 (λb hb=>⟨nh4 hh6 hb,λz=>pd6.2.1 (z▸hb),λz=>pd6.2.2 (z▸hb)⟩) (λb xs hb=>⟨λz=>?_,(R8 kp6 hb).1,(R8 kp6 hb).2⟩) (λz=>z.1 rfl) (by rw[X2,X2,len4];rfl) λi s e=>?_
   ·obtain⟨_,_,_,_,_,_,_,_,e⟩:=hh6
    rw[z,e] at hb;cases hb
   ·unfold o9 at e
    match i,e with
    | 0,e=>cases e;exact .inr (.inl ⟨rfl,get DD DD h0⟩)
    | 1,e=>cases e;exact .inr (.inr (.inl ⟨_,rfl,get DD DD h1⟩))
    | 2,e=>cases e;exact .inr (.inr (.inr ⟨_,_,rfl,get DD DD h2,mv t2⟩))
    | 3,e=>cases e;exact .inr (.inr (.inr ⟨_,_,rfl,get DD DD h3,mv t3⟩))
    | 4,e=>cases e;exact .inr (.inr (.inr ⟨_,_,rfl,get DD DD h4,mv t4⟩))
    | 5,e=>cases e;exact .inr (.inr (.inr ⟨_,_,rfl,get DD DD h5,mv t5⟩))
    | 6,e=>cases e;exact .inr (.inr (.inr ⟨_,_,rfl,get DD DD h6,mv t6⟩))
    | 7,e=>cases e;exact .inr (.inr (.inr ⟨_,_,rfl,get DD DD h7,mv t7⟩))
    | 8,e=>cases e;exact .inr (.inr (.inr ⟨_,_,rfl,get DD DD h8,mv t8⟩))
    | 9,e=>
     cases e
     refine .inr (.inr (.inr ⟨_,v9,rfl,?_,t9⟩))
     rw[p7 DD,B6s (OO)];rfl
    | 10,e=>
     cases e
     refine .inr (.inr (.inr ⟨_,.int _,rfl,?_,.int _⟩))
     rw[B6s (by rw[X2];lia)];rfl
    | 11,e=>cases e;exact .inl rfl
    | 12,e=>cases e;exact .inl rfl
    | 13,e=>cases e;exact .inl rfl
    | 14,e=>cases e;exact .inl rfl
    | 15,e=>cases e;exact .inl rfl
    | 16,e=>cases e;exact .inl rfl
    | i + 17,e=>cases e
  refine⟨⟨F3 hd p d,some (hd,hl),H6⟩,_,[],⟨λ_=>False,λx=>∃rows,x=.list rows/\∀y∈rows,Y9 k6 y,λ_=>False,λ_=>False,λ_=>False⟩,R6,?_,⟨λ_ _ _ _ h=>h.elim,λv x ρ' σ' H' R h=>?_,λ_ _ _ _ h=>h.elim,λ_ _ _ _ h=>h.elim,λ_ _ _ _ _ _ _ _ h=>h.elim⟩⟩
  rotate_left
  ·obtain⟨rows,rfl,hr⟩:=h
   obtain⟨col,r⟩:=R
   have kq6:KqD hd H6 H':=λb o e n=>r.kq b o e λq hq=>by cases hq;exact n
   exact told rows v H' hr (A9e kp6 hh6 kq6) (r.hq _ rfl) ((r.pd _ D4).mv λb o z e=>⟨r.inF b z,e⟩) λb o e n1 n2 n3=>kq6 _ _ (fr46 _ _ (kq4 _ _ e n1) n2 n3) n1
  clear R6 told hh6 hh5 hh4 kp6 kp5 kp4 kp t2 t3 t4 t5 t6 t7 t8 t9 mv fr46 fr6 fr5 kq4 h0 h1 h2 h3 h4 h5 h6 h7 h8 hh
  unfold o9
  have gl:=ok.gt.len
  left
  rw[W7,gl]
  refine⟨rfl,_,rfl,OO,OO,λu u0 u1=>?_⟩
  obtain⟨at',rfl⟩:∃at':Nat,u=((at':Nat):Int):=⟨u.toNat,OO⟩
  refine go ?_;left
  refine⟨DD,DD,DD,rfl,6,rfl,DD,DD,λu y0 y1=>?_⟩
  refine B1y (P:=OdN (A0i k6.st)) (λx hx=>?_) y0 ?_ λodd hodd=>?_
  ·simp only[J8,A58,or_false] at hx
   rcases hx with rfl | rfl | rfl | rfl | rfl | rfl
   ·refine⟨?_,rfl,by show 0<=3;decide⟩
    show (decide (0<=k6.st + 1)&&decide (k6.st + 1<=k6.st))=false
    rw[decide_eq_false (show ¬ k6.st + 1<=k6.st by lia),Bool.and_false]
   ·exact⟨rfl,rfl,DD⟩
   ·exact⟨rfl,rfl,DD⟩
   ·exact⟨rfl,rfl,DD⟩
   ·exact⟨rfl,rfl,DD⟩
   ·exact⟨rfl,rfl,DD⟩
  ·exact y1
  refine go ?_;left
  have lt:(B4 k6.g).length=k6.m:=by rw[W7,gl]
  have lc1:(S4 (B4 k6.g) none (some ((at':Nat):Int))).length<=12:=X0 (C3f _ _ _) (OO)
  have lc2:(S4 (B4 k6.g) (some (((at':Nat):Int) + 1)) none).length<=12:=X0 (C3f _ _ _) (OO)
  refine⟨DD,OO,DD,OO,by rw[Q1];show _ + 1 + _<=_;lia,DD,?_⟩
  obtain⟨gs,hgs⟩:∃gs,gs=[PyData.none,.list (B4 k6.g++[PyData.none]),.list (S4 (B4 k6.g) none (some (-1))),.tuple (B4 k6.g),.int 7,.list (S4 (B4 k6.g) none (some ((at':Nat):Int))++[odd]++S4 (B4 k6.g) (some (((at':Nat):Int) + 1)) none)]:=⟨_,rfl⟩
  rw[<-hgs]
  have gB:∀x∈gs,(∀ds,x=.list ds->ds.length<=400)/\a8 k6.m k6.st x=false:=by
   rw[hgs]
   intro x hx
   simp only[J8,A58,or_false] at hx
   have no:∀ds:List PyData,ds.length≠k6.m->a8 k6.m k6.st (.list ds)=false:=λds h=>by
    show ((((ds.length:Nat):Int) == ((k6.m:Nat):Int))&&ds.all (A0i k6.st))=false
    rw[beq_eq_false_iff_ne.mpr (show ((ds.length:Nat):Int)≠((k6.m:Nat):Int) by lia)];rfl
   rcases hx with rfl | rfl | rfl | rfl | rfl | rfl
   ·exact⟨(λds z=>nomatch z),rfl⟩
   ·exact⟨λds z=>(by cases z;rw[Q1,lt];show _ + 1<=_;lia),no _ (by rw[Q1,lt];show _ + 1≠_;lia)⟩
   ·have hl:(S4 (B4 k6.g) none (some (-1))).length + 1=k6.m:=by
     rcases List.eq_nil_or_concat (B4 k6.g) with e | ⟨l,b,e⟩
     ·rw[e] at lt
      exact absurd lt (by show ¬ 0=k6.m;lia)
     ·rw[List.concat_eq_append] at e
      rw[e,C78]
      rw[e,Q1] at lt
      exact lt
    exact⟨λds z=>(by cases z;lia),no _ OO⟩
   ·exact⟨(λds z=>nomatch z),rfl⟩
   ·exact⟨(λds z=>nomatch z),rfl⟩
   ·refine⟨λds z=>(by cases z;rw[Q1,Q1];show _ + 1 + _<=_;lia),?_⟩
    show (_&&List.all _ (A0i k6.st))=false
    rw[List.all_append,List.all_append,show [odd].all (A0i k6.st)=false by show (A0i k6.st odd&&true)=false;rw[hodd.1];rfl]
    simp
  have gl6:gs.length=6:=by rw[hgs];rfl
  have g5:∃x5,gs[5]?=some x5:=⟨_,P5 OO⟩
  clear hgs
  refine go ?_;left
  (repeat ((with_reducible refine A1r ?cc ?_);(case cc=>first | decide | exact A1s rfl)))
  refine go ?_;left
  (repeat ((with_reducible refine A1r ?cc ?_);(case cc=>first | decide | exact A1s rfl)))
  refine go ?_;left
  (repeat ((with_reducible refine A1r ?cc ?_);(case cc=>first | decide | exact A1s rfl)))
  refine go ?_;left
  (repeat ((with_reducible refine A1r ?cc ?_);(case cc=>first | decide | exact A1s rfl)))
  refine go ?_;left
  (repeat ((with_reducible refine A1r ?cc ?_);(case cc=>first | decide | exact A1s rfl)))
  refine go ?_;left
  (repeat ((with_reducible refine A1r ?cc ?_);(case cc=>first | decide | exact A1s rfl)))
  refine⟨5,rfl,DD,DD,λu x0 x1=>?_⟩
  refine B1y (P:=λx=>x∈gs) (λx hx=>hx) x0 (by rw[gl6];lia) λga hga=>?_
  (repeat ((with_reducible refine A1r ?cc ?_);(case cc=>first | decide | exact A1s rfl)))
  refine go ?_;left
  obtain⟨gx,hgx⟩:=g5
  refine B52 (A0q (j:=5) hgx) ?_
  (repeat ((with_reducible refine A1r ?cc ?_);(case cc=>first | decide | exact A1s rfl)))
  refine go (B51 (fun ρ'=>∃rows z15,rows.length<=20/\(∀y∈rows,Y9 k6 y)/\ρ'=[Sl.hd,Sl.ob (A3j (.ref p)),Sl.sh (.int ((k6.m:Nat):Int)),Sl.sh (.list (ls.map PyData.int)),Sl.sh (.int sp),Sl.sh d1,Sl.sh d2,Sl.sh d3,Sl.sh d4,Sl.sh (.list (B4 k6.g)),Sl.sh (.int (k6.st + 1)),Sl.sh (.int ((at':Nat):Int)),Sl.sh odd,Sl.sh (.list gs),Sl.ow rows,z15,Sl.no]) ?_ ?_)
  ·have hsp:NoW k6 (.int sp):=.inr ⟨sp,rfl,lsp,nsp⟩
   have hno:NoW k6 d1:=.inl od1.1
   have w1:(M8 ((k6.m:Nat):Int) d2&&(M8 ((k6.m:Nat):Int) (.int 0)&&chB (.int 1)))=false:=by rw[od2.1];rfl
   have w2:(M8 ((k6.m:Nat):Int) (.int 0)&&(M8 ((k6.m:Nat):Int) d2&&chB (.int 1)))=false:=by rw[od2.1];simp
   have w3:(M8 ((k6.m:Nat):Int) (.int 0)&&(M8 ((k6.m:Nat):Int) (.int 0)&&chB d3))=false:=by rw[od3.1];simp
   have g1:=gB _ hga
   have g2:=gB _ (X1 hgx)
   obtain⟨rs,hrs⟩:∃rs:List PyData,rs=[.tuple [.str "lay",.list [d1,.int 0,.int 0,.int 1],.str "bad label",.list []],.tuple [.str "lay",.list [d1,d2,.int 0,d3],.str "bad label",.list []],.tuple [.str "lay",.list [.int sp,d2,.int 0,.int 1],.str "bad way",.list []],.tuple [.str "lay",.list [.int sp,.int 0,d2,.int 1],.str "bad way",.list []],.tuple [.str "lay",.list [.int sp,.int 0,.int 0,d3],.str "bad way",.list []],.tuple [.str "lift",.list [d1],.str "no way",.list [d1]],.tuple [.str "lift",.list [.int sp],.str "no way",.list [.int sp]],.tuple [.str "turn",.list [.int sp,d3],.str "no way",.list [.int sp]],.tuple [.str "turn",.list [d1,.int 1],.str "no way",.list [d1]],.tuple [.str "refill",.list [d4],.str "bad store",.list []],.tuple [.str "aim",.list [ga],.str "bad goal",.list []],.tuple [.str "aim",.list [gx],.str "bad goal",.list []]]:=⟨_,rfl⟩
   rw[<-hrs]
   have hro:∀y∈rs,Y9 k6 y:=by
    rw[hrs]
    intro y hy
    simp only[J8,A58,or_false] at hy
    rcases hy with rfl | rfl | rfl | rfl | rfl | rfl | rfl | rfl | rfl | rfl | rfl | rfl
    ·exact C3h od1.1
    ·exact C3h od1.1
    ·exact B10 lsp nsp w1
    ·exact B10 lsp nsp w2
    ·exact B10 lsp nsp w3
    ·exact C3i hno od1.2.1 od1.2.2
    ·exact C3i hsp rfl (by show 0<=3;decide)
    ·exact C3j hsp rfl (by show 0<=3;decide)
    ·exact C3j hno od1.2.1 od1.2.2
    ·exact C3k (.inl od4.1)
    ·exact C3l g1.1 g1.2
    ·exact C3l g2.1 g2.2
   have hrl:rs.length=12:=by rw[hrs];rfl
   clear hrs
   have LI:=E7.ints ls
   left
   refine⟨DD,LI.1,rfl,LI.dep DD _,?_⟩
   cases ls with
   | nil=>exact E2 ⟨rs,_,OO,hro,rfl⟩
   | cons l0 ls0=>
    refine J0 ?_
    have few:=ok.few
    left
    refine⟨rfl,_,rfl,by rw[D6,G3];lia,by rw[D6,hln];lia,λu q0 q1=>?_⟩
    refine B1y (P:=λx=>∃n∈l0::ls0,x=.int n) (λx hx=>?_) q0 q1 λx hx=>?_
    ·obtain⟨n,hn,rfl⟩:=Q2.mp hx
     exact⟨n,hn,rfl⟩
    obtain⟨n,hn,rfl⟩:=hx
    obtain⟨lnn,wn,hwn⟩:=hls n hn
    refine go ?_;left
    (repeat ((with_reducible refine A1r ?cc ?_);(case cc=>first | decide | lia | exact A1s rfl)))
    refine⟨_,_,?_,λy hy=>?_,rfl⟩
    ·rw[Q1,hrl];exact A1s rfl
    ·rcases A0l.mp hy with h | h
     ·exact hro y h
     ·simp only[J8,A58,or_false] at h
      rcases h with rfl | rfl
      ·exact D6y lnn hwn
      ·exact D60 lnn hwn od3.1
  rintro ρ ⟨rows,z15,hrl,hro,rfl⟩
  try dsimp only
  refine go ?_
  array_get_dec
  refine⟨⟨rfl,OO⟩,?_⟩
  rw[show B4 k6.g=k6.g.map oD from rfl]
  refine A63 (p:=λo=>o.isSome) (f:=oD) (λo _ Q' q'=>?_) (λo _ _ Q' q'=>?_) ?_
  ·cases o with
   | none=>exact q'
   | some x=>exact q'
  ·exact q'
  rw[Z1,B6m]
  have LI:=E7.ints (k6.g.filterMap id)
  have s1k:=ok.s1
  refine go (B51 (fun ρ'=>∃rows z15 z16,rows.length<=21/\(∀y∈rows,Y9 k6 y)/\ρ'=[Sl.hd,Sl.ob (A3j (.ref p)),Sl.sh (.int ((k6.m:Nat):Int)),Sl.sh (.list (ls.map PyData.int)),Sl.sh (.int sp),Sl.sh d1,Sl.sh d2,Sl.sh d3,Sl.sh d4,Sl.sh (.list (B4 k6.g)),Sl.sh (.int (k6.st + 1)),Sl.sh (.int ((at':Nat):Int)),Sl.sh odd,Sl.sh (.list gs),Sl.ow rows,z15,z16]) ?_ ?_)
  ·have stay:∃rows' z15' z16',rows'.length<=21/\(∀y∈rows',Y9 k6 y)/\[Sl.hd,Sl.ob (A3j (.ref p)),Sl.sh (.int ((k6.m:Nat):Int)),Sl.sh (.list (ls.map PyData.int)),Sl.sh (.int sp),Sl.sh d1,Sl.sh d2,Sl.sh d3,Sl.sh d4,Sl.sh (.list (B4 k6.g)),Sl.sh (.int (k6.st + 1)),Sl.sh (.int ((at':Nat):Int)),Sl.sh odd,Sl.sh (.list gs),Sl.ow rows,z15,Sl.sh (.list ((k6.g.filterMap id).map PyData.int))]=[Sl.hd,Sl.ob (A3j (.ref p)),Sl.sh (.int ((k6.m:Nat):Int)),Sl.sh (.list (ls.map PyData.int)),Sl.sh (.int sp),Sl.sh d1,Sl.sh d2,Sl.sh d3,Sl.sh d4,Sl.sh (.list (B4 k6.g)),Sl.sh (.int (k6.st + 1)),Sl.sh (.int ((at':Nat):Int)),Sl.sh odd,Sl.sh (.list gs),Sl.ow rows',z15',z16']:=⟨rows,z15,_,OO,hro,rfl⟩
   left
   refine⟨DD,LI.1,rfl,LI.dep DD _,?_⟩
   cases hv:k6.g.filterMap id with
   | nil=>
    rw[hv] at stay
    exact E2 stay
   | cons x0 xs0=>
    refine J0 ?_
    have hne:k6.g.filterMap id≠[]:=by rw[hv];exact List.cons_ne_nil _ _
    rw[<-hv,A8p]
    refine⟨hne,λM tM=>?_⟩
    by_cases hM:0 < M
    ·rw[decide_eq_true hM]
     refine J0 ⟨hne,λM2 tM2=>⟨DD,DD,DD,OO,_,_,_,?_,λy hy=>?_,rfl⟩⟩
     ·rw[Q1];show _ + 1<=21;lia
     ·rcases A0l.mp hy with h | h
      ·exact hro y h
      ·rw[j5.mp h]
       have hM2:=tM2.2 M tM.1
       obtain⟨o,ho,eo⟩:=B6t.mp tM2.1
       have eo:o=some M2:=eo
       subst eo
       obtain⟨pp,hp,ep⟩:=A9k.mp ho
       have bd:=ok.gt.bd pp M2 (by unfold gt;rw[P5 hp,ep];rfl)
       refine C3k (.inr ⟨M2 - 1,rfl,⟨OO,OO⟩,?_⟩)
       cases er:a8 k6.m (M2 - 1) (.list (B4 k6.g)) with
       | false=>rfl
       | true=>
        have er:((((B4 k6.g).length:Nat):Int) == ((k6.m:Nat):Int)&&(B4 k6.g).all (A0i (M2 - 1)))=true:=er
        rw[r8] at er
        have c:A0i (M2 - 1) (.int M2)=true:=B2d.mp er.2 _ (Q2.mpr ⟨_,ho,rfl⟩)
        have c:(decide (0<=M2)&&decide (M2<=M2 - 1))=true:=c
        rw[decide_eq_false (show ¬ M2<=M2 - 1 by lia),Bool.and_false] at c
        cases c
    ·rw[decide_eq_false hM]
     exact E2 stay
  rintro ρ ⟨rows,z15,z16,hrl,hro,rfl⟩
  try dsimp only
  refine go (B51 (fun ρ'=>∃rows z15 z16,(∀y∈rows,Y9 k6 y)/\ρ'=[Sl.hd,Sl.ob (A3j (.ref p)),Sl.sh (.int ((k6.m:Nat):Int)),Sl.sh (.list (ls.map PyData.int)),Sl.sh (.int sp),Sl.sh d1,Sl.sh d2,Sl.sh d3,Sl.sh d4,Sl.sh (.list (B4 k6.g)),Sl.sh (.int (k6.st + 1)),Sl.sh (.int ((at':Nat):Int)),Sl.sh odd,Sl.sh (.list gs),Sl.ow rows,z15,z16]) ?_ ?_)
  ·left
   rw[D6]
   refine⟨rfl,rfl,A3g _ _,?_⟩
   rw[A2c]
   by_cases h40:ls.length=40
   ·rw[show (((ls.length:Nat):Int) == 40)=true by rw[h40];rfl]
    refine J0 ?_
    (repeat ((with_reducible refine A1r ?cc ?_);(case cc=>first | decide | lia | exact A1s rfl)))
    refine⟨_,_,_,λy hy=>?_,rfl⟩
    rcases A0l.mp hy with h | h
    ·exact hro y h
    ·simp only[J8,A58,or_false] at h
     have p0:M8 ((k6.m:Nat):Int) (.int 0)=true:=by unfold M8;exact decide_eq_true (OO)
     rcases h with rfl | rfl
     ·exact D6z lsp nsp (by rw[p0];rfl) (OO)
     ·exact B10 lsp nsp (by rw[od3.1];simp)
   ·rw[beq_eq_false_iff_ne.mpr (show ((ls.length:Nat):Int)≠40 by lia)]
    exact E2 ⟨rows,z15,z16,hro,rfl⟩
  rintro ρ ⟨rows,z15,z16,hro,rfl⟩
  try dsimp only
  refine go ?_
  left
  exact⟨rows,rfl,hro⟩
end
section
variable {kws a b:Kw} {x k:Int} {w w':Wy}
theorem C3m:∀{kws:Kw},D7 (kws++[(x,w)]) k=match D7 kws k with
  | some v=>some v
  | none=>if x=k then some w else none
 | []=>by rw[Z1,j1];rfl
 | q::r=>by
  rw[A3p,j1,j1,C3m]
  by_cases e:q.1=k
  ·rw[if_pos e];rw[if_pos e]
  ·rw[if_neg e];rw[if_neg e]
theorem C3n:∀{kws:Kw},D7 (kws.map λq=>if q.1=x then (q.1,w) else q) k=if k=x then (D7 kws k).map λ_=>w else D7 kws k
 | []=>by
  rw[A9j]
  show none=_
  split <;> rfl
 | q::r=>by
  rw[P2,j1,j1,C3n]
  by_cases e:q.1=x
  ·rw[if_pos e]
   by_cases c:k=x
   ·rw[if_pos c,if_pos (by rw[e,c]),if_pos c,if_pos (by rw[e,c])];rfl
   ·rw[if_neg c,if_neg (by rw[e];exact λz=>c z.symm),if_neg c,if_neg (by rw[e];exact λz=>c z.symm)]
  ·rw[if_neg e]
   by_cases c:k=x
   ·rw[if_pos c,if_neg (by rw[c];exact e),if_pos c,if_neg (by rw[c];exact e)]
   ·rw[if_neg c,if_neg c]
theorem B6o:D7 (W8 kws x w) k=if k=x then some w else D7 kws k:=by
 cases e:D7 kws x with
 | none=>
  rw[A7k e,C3m]
  by_cases c:k=x
  ·rw[if_pos c,c,e];exact if_pos rfl
  ·rw[if_neg c]
   cases D7 kws k with
   | none=>exact if_neg λz=>c z.symm
   | some v=>rfl
 | some w0=>
  rw[A86 e,C3n]
  by_cases c:k=x
  ·rw[if_pos c,if_pos c,c,e];rfl
  ·rw[if_neg c,if_neg c]
theorem B6p:∀{kws:Kw},D7 (W9 kws x) k=if k=x then none else D7 kws k
 | []=>by
  show none=_
  split <;> rfl
 | q::r=>by
  have ih:=B6p (kws:=r)
  unfold W9 at ih ⊢
  by_cases e:q.1=x
  ·rw[A7w (by simp [e]),ih,j1]
   by_cases c:k=x
   ·rw[if_pos c,if_pos c]
   ·rw[if_neg c,if_neg c,if_neg (by rw[e];exact λz=>c z.symm)]
  ·rw[B2g (by simp [e]),j1,j1,ih]
   by_cases c:k=x
   ·rw[if_pos c,if_pos c,if_neg (by rw[c];exact e)]
   ·rw[if_neg c,if_neg c]
theorem D63 (h:D7 kws x=none):W9 kws x=kws:=by
 unfold W9
 refine C34.mpr λq hq=>decide_eq_true λz=>?_
 obtain⟨w',hw'⟩:=A1j (kws:=kws) (k:=x) (Q2.mpr ⟨q,hq,z⟩)
 rw[h] at hw';cases hw'
theorem D64 (h:D7 kws x=none):W9 (W8 (W8 kws x w) x w') x=kws:=by
 rw[A86 (w0:=w) (by rw[B6o,if_pos rfl]),A7k h]
 have:=D63 h
 unfold W9 at this ⊢
 rw[V3,C33,P2,A9j,if_pos rfl,A7w (by simp),B67,A2j]
 rw[A9t (g:=id) (λq hq=>?_),List.map_id,this]
 have hq':=C34.mp this q hq
 rw[if_neg (by simpa using hq')]
 rfl
theorem D65:∀{kws:Kw},(C6 kws).Nodup->(C6 kws).map (λx=>(x,(D7 kws x).getD (0,0,0)))=kws
 | kws,nd=>by
  unfold C6
  rw[A1q]
  refine (A9t (g:=id) λq hq=>?_).trans (List.map_id _)
  show (q.1,(D7 kws q.1).getD (0,0,0))=q
  rw[B1u nd (show (q.1,q.2)∈kws from hq)]
  rfl
theorem D66 {ls:List Int} (nd:(C6 a).Nodup) (pm:(C6 a).Perm ls) (g:∀x∈ls,D7 a x=D7 b x):(ls.map λx=>(x,(D7 b x).getD (0,0,0))).Perm a:=by
 have e:(ls.map λx=>(x,(D7 b x).getD (0,0,0)))=ls.map λx=>(x,(D7 a x).getD (0,0,0)):=A9t λx hx=>by rw[g x hx]
 rw[e]
 refine (pm.symm.map _).trans ?_
 rw[D65 nd]
theorem D67:C6 (W9 kws x)=(C6 kws).filter (λy=>decide (y≠x)):=by
 unfold C6 W9
 rw[List.filter_map]
 rfl
end
def B11 (K:A4):Sp:=λvs H Q _=>∃(a:Addr) (ns:List Int),vs=[.ref a]/\SqL K H a (ns.map V.int)/\ns.length<=63/\∀H',Q (.bl true) H'
theorem E7.kws (kws:Kw):E7 2 (.list (A1m kws)):=E7.lst λd hd=>by
 obtain⟨n,_,rfl⟩:=Q2.mp hd
 refine E7.tup λd hd=>?_
 simp only[J8,A58,or_false] at hd
 rcases hd with rfl | rfl | rfl | rfl <;> exact .int _
theorem A7o.lay {k:Kst} {d:PyData} (h:A7o k d):E7 4 d:=by
 obtain⟨t,_,rfl⟩:=h
 refine E7.tup λd hd=>?_
 simp only[J8,A58,or_false] at hd
 rcases hd with rfl | rfl | rfl | rfl | rfl | rfl
 ·exact (E7.kws _).mono (DD)
 ·exact .int _
 ·exact (E7.tab _).mono (DD)
 ·exact (E7.tab _).mono (DD)
 ·exact E7.land _ _
 ·exact (E7.tab _).mono (DD)
theorem D68 {one:Bool} {i:Nat} (h:i < 40):Q0 one i=1\/500000000000000000 < Q0 one i:=by
 unfold Q0
 split
 ·exact .inl rfl
 ·exact .inr (OO)
theorem C3o {H:Hp} {hd hl b:Addr} (h:Hd H hd hl) (z:O1 H b):b≠hd:=λy=>by
 obtain⟨_,_,_,_,_,_,_,_,e⟩:=h
 rw[y] at z
 rcases z with z | ⟨xs,z⟩
 ·rw[e] at z;cases z
 ·rw[e] at z;cases z
theorem C3p {F:Addr->Prop} {C p d hd hl b:Addr} {H Hx:Hp} {k:Kst} {xs:List V} {t:Tb} (h:Hd H hd hl) (kp:E9 F C H p d k) (fr:Frp p d H Hx) (e:Hx b=some (.lst xs)) (tt:B0 TT0 Hx xs (B4 t)) (nt:t≠[]):b≠hd:=λy=>by
 obtain⟨_,_,_,_,_,_,_,_,e'⟩:=h
 have n:=Q6 kp e'
 rw[y,fr _ _ e' n.1 n.2] at e
 cases e
 cases t with
 | nil=>exact nt rfl
 | cons o t=>
  cases tt with
  | cons x _=>cases o <;> cases x
structure LwS (C hd hl p d dc ll ar:Addr) (k:Kst) (ls:List Int) (vA:V) (rA:PyData) (rows:List PyData) (H:Hp):Prop where
 kp:E9 (λb=>b≠hd) C H p d k
 hh:Hd H hd hl
 tA:ThV (PG p d λb=>b≠hd) H vA rA
 dc:j3 H dc k.kws
 el:H ll=some (.lst (ls.map V.int))
 tr:ThV (PD p d) H (.ref ar) (.list rows)
structure LwE (C hd hl p d dc ll:Addr) (k:Kst) (kw:Kw) (ls:List Int) (H:Hp):Prop where
 kp:E9 (λb=>b≠hd) C H p d k
 hh:Hd H hd hl
 dc:j3 H dc kw
 el:H ll=some (.lst (ls.map V.int))
 ok:KOk k.m k.st k.g k.kws
 lo:o7 k.m k.st k.g k.kws k.low
theorem LwE.same {C hd hl p d dc ll:Addr} {k:Kst} {kw:Kw} {ls:List Int} {H H':Hp} (L:LwE C hd hl p d dc ll k kw ls H) (s:Same H H'):LwE C hd hl p d dc ll k kw ls H':=⟨L.kp.same s,L.hh.same s,L.dc.same s,s _ _ L.el,L.ok,L.lo⟩
theorem LwE.pop {C hd hl p d dc ll:Addr} {k:Kst} {kw:Kw} {ls:List Int} {H:Hp} (L:LwE C hd hl p d dc ll k kw ls H) (n:ls.length≠k.m) (nh:ll≠hd) (nl:ll≠hl) (ls':List Int):LwE C hd hl p d dc ll k kw ls' (upd H ll (.lst (ls'.map V.int))):=by
 have nn:∀{b:Addr} {o:HO},H b=some o->(∀q,o≠.lst q)->upd H ll (.lst (ls'.map V.int)) b=some o:=λ{b o} eb n=>by
  rw[B1 (λz=>by rw[z,L.el] at eb;cases eb;exact n _ rfl)]
  exact eb
 refine⟨?_,L.hh.wr nh nl,?_,B2,L.ok,L.lo⟩
 ·obtain⟨⟨dx,g,l,ug,ul,e1,g1,e2,t2,g3,e3,t3⟩,kv0,e4,kv⟩:=L.kp
  have n2:g≠ll:=λz=>by
   rw[z,L.el] at e2
   cases e2
   have:=t2.len
   rw[D6,W7,L.ok.gt.len] at this
   exact n this
  have n3:l≠ll:=λz=>by
   rw[z,L.el] at e3
   cases e3
   have:=t3.len
   rw[D6,W7,L.lo.tab.len] at this
   exact n this
  exact⟨⟨dx,g,l,ug,ul,nn e1 (λq z=>by cases z),g1,by rw[B1 n2];exact e2,M5 t2,g3,by rw[B1 n3];exact e3,M5 t3⟩,kv0,nn e4 (λq z=>by cases z),kv.mv λb xs e=>nn e λq z=>by cases z⟩
 ·obtain⟨kvs,e,kv⟩:=L.dc
  exact⟨kvs,nn e (λq z=>by cases z),kv.mv λb xs e=>nn e λq z=>by cases z⟩
theorem E7.numL (ns:List Nat):E7 1 (.list (numL ns)):=E7.lst λd hd=>by
 obtain⟨n,_,rfl⟩:=Q2.mp hd
 exact⟨rfl,P0 _⟩
theorem E7.mov (a b:Tb):E7 2 (A85 a b):=E7.tup (E7.two (E7.numL _) (E7.numL _))
theorem C3q {H:Hp} (x:Int):∀m:Nat,B0 TT0 H (E5 m (V.int x)) (B4 (E5 m (some x)))
 | 0=>.nil
 | m + 1=>.cons (.int _) (C3q x m)
theorem D69 {m p:Nat} {x y:Int} (h:gt (E5 m (some x)) p=some y):y=x:=by
 unfold gt at h
 rw[A7r] at h
 split at h
 ·cases h;rfl
 ·cases h
theorem N8.nodup {H:Hp} {kvs:List (Key×V)} {kw:Kw} (h:N8 H kvs kw) (nd:(C6 kw).Nodup):(kvs.map (·.1)).Nodup:=by
 have e:kvs.map (·.1)=(C6 kw).map (Sum.inl:Int->Key):=by
  clear nd
  induction h with
  | nil=>rfl
  | cons _ _ ih=>rw[P2,ih];rfl
 rw[e]
 exact List.Pairwise.map _ (λa b n z=>n (Sum.inl.inj z)) nd
theorem D7a {l:List Int} {x:Int} (h:x∉l):(l++[x]).filter (λy=>decide (y≠x))=l:=by
 rw[C33,A7w (by simp),B67,A2j]
 exact C34.mpr λy hy=>decide_eq_true λz=>h (z▸hy)
section
variable {P:Program} {w:World} {K:A4} {mg:Str->Option Value} {base:Heap}
theorem D7b (T:Txt K mg):B9 P w K mg base CX0 13 T.fq.a T.fq.d ["_law_script"] (B11 K):=by
 have hZ:=@D1n P w K mg base T
 have ic:=T.cR.b
 have gM:=@D48 P w K mg base T
 have gO:=T.cG.b
 have cB:=@B58 P w K mg base T
 have cC:=T.aU.b
 have eI:=@B59 P w K mg base T
 have dq:=T.bv.b
 have ie:=@D6t P w K mg base T
 have ig:=T.cT.b
 have ii:=@D62 P w K mg base T
 have ij:=T.dw.b
 have fA:=@D6j P w K mg base T
 have fB:=T.bJ.b
 have eJ:=@D59 P w K mg base T
 have eK:=T.bW.b
 have cP:=@D53 P w K mg base T
 have cQ:=T.aL.b
 have gq:=@D6n P w K mg base T
 have gu:=T.cE.b
 have aq:=@A5h P w K mg base T
 have au:=T.ae.b
 have gS:=@D5f P w K mg base T
 have gU:=T.cJ.b
 have gW:=@D5c P w K mg base T
 have gX:=T.cH.b
 have gY:=@D5e P w K mg base T
 have gZ:=T.cI.b
 have hG:=@D5k P w K mg base T
 have hJ:=T.cK.b
 refine T.fq.F.ok Y7 (λvs H Q E h=>?_) (λcdv A outer s H vs Q E hr h=>?_)
 ·obtain⟨a,ns,rfl,_⟩:=h
  rfl
 ·obtain⟨a,ns,rfl,hS,hlen,told⟩:=h
  refine⟨_,(C0 (C4 (i:=1) Y7.nd rfl (B7 rfl) (B6 hZ (hr.mono DD) rfl T.cR.m T.cR.F.kp ic .nil A9 (A1 (pv 0) A6 A0) (he:=A0) (hpl:=A5)))
   (C0 (C4 (i:=2) Y7.nd rfl (B7 rfl) (K6 Q9 C3 (B6 aq (hr.mono DD) rfl T.ae.m T.ae.F.kp au .nil A9 (A1 (pv 1) (A1 C3 A6 A8) A0) (he:=A0) (hpl:=(A7 A8 A5)))))
   (C0 (C4 (i:=3) Y7.nd rfl (B7 rfl) (B6 gW (hr.mono DD) rfl T.cH.m T.cH.F.kp gX .nil A9 (A1 (pv 1) A6 A0) (he:=A0) (hpl:=A5)))
   (C0 (C4 (i:=4) Y7.nd rfl (B7 rfl) (B6 gY (hr.mono DD) rfl T.cI.m T.cI.F.kp gZ .nil A9 (A1 (pv 1) (A1 (pv 3) A6 A0) A0) (he:=A0) (hpl:=(A7 A0 A5))))
   (C0 (C4 (i:=5) Y7.nd rfl (B7 rfl) (C5l T.eN gM (hr.mono DD) rfl T.eM gO .nil A9 (A1 (pv 2) (A1 (pv 4) (A1 (B6 gS (hr.mono DD) rfl T.cJ.m T.cJ.F.kp gU .nil A9 (A1 (pv 1) (A1 (pv 2) (A1 (pv 4) A6 A0) A0) A0) (he:=A0) (hpl:=(A7 A0 (A7 A0 A5)))) A6 D5) A0) A0) (he:=A0) (hpl:=(A7 A0 (A7 D5 A5)))))
   (C0 (C4 (i:=6) Y7.nd rfl (Or.inr rfl) (B6 ie (hr.mono DD) rfl T.cT.m T.cT.F.kp ig .nil A9 (A1 (pv 1) (A1 (pv 5) (A1 (pv 2) (A1 (pv 3) A6 A0) A0) A0) A0) (he:=A0) (hpl:=(A7 A0 (A7 A0 (A7 A0 A5))))))
   (C0 (C4 (i:=7) Y7.nd rfl (B7 rfl) (G8 (A8t rfl) rfl T.cF A8e (A1 (pv 6) A6 A0) (he:=A0) (hpl:=A5)))
   (C0 (C4 (i:=8) Y7.nd rfl (B7 rfl) (K6 Q9 C3 (B6 aq (hr.mono DD) rfl T.ae.m T.ae.F.kp au .nil A9 (A1 (pv 1) (A1 (K6 S2 C3 C3) A6 L7) A0) (he:=A0) (hpl:=(A7 L7 A5)))))
   (C0 (C4 (i:=9) Y7.nd rfl (B7 rfl) (B6 fA (hr.mono DD) rfl T.bJ.m T.bJ.F.kp fB .nil A9 (A1 (pv 5) A6 A0) (he:=A0) (hpl:=A5)))
   (C0 (A1u A0o rfl (A0p (B6 ii (hr.mono DD) rfl T.dw.m T.dw.F.kp ij .nil A9 (A1 (pv 1) (A1 (pv 5) (A1 (pv 2) (A1 (pv 7) (A1 (pv 8) A6 A0) A0) A0) A0) A0) (he:=A0) (hpl:=(A7 A0 (A7 A0 (A7 A0 (A7 A0 A5))))))) (B2s (n:=4) rfl (A2s (c9 (i:=10) Y7.nd rfl (B7 rfl)) (A2s (c9 (i:=11) Y7.nd rfl (B7 rfl)) (A2s (c9 (i:=12) Y7.nd rfl (B7 rfl)) (A2s (c9 (i:=13) Y7.nd rfl (B7 rfl)) B2r)))))
   (D1 (K9 (PW.pt (A2r (Q8 (P3 (B6 eJ (hr.mono DD) rfl T.bW.m T.bW.F.kp eK .nil A9 (A1 (B6 cP (hr.mono DD) rfl T.aL.m T.aL.F.kp cQ .nil A9 (A1 (pv 5) (A1 (pv 10) (A1 (pv 11) A6 A0) A0) A0) (he:=A0) (hpl:=(A7 A0 (A7 A0 A5)))) (A1 (pv 12) (A1 (pv 13) A6 A0) A0) D5) (he:=D5) (hpl:=(A7 A0 (A7 A0 A5)))))) (A2q (T7 (A08 (M3 hr)) (B6 fA (hr.mono DD) rfl T.bJ.m T.bJ.F.kp fB .nil A9 (A1 (pv 5) A6 A0) (he:=A0) (hpl:=A5)) (pv 9) (E4 _)))))
   (D1 (G6 A04))
   M9)))
   (C0 (S3 (K9 (Q8 (P3 (B6 gq (hr.mono DD) rfl T.cE.m T.cE.F.kp gu .nil A9 (A1 (pv 5) (A1 (pv 2) (A1 (pv 6) A6 A0) A0) A0) (he:=A0) (hpl:=(A7 A0 (A7 A0 A5))))))
   (D1 (G6 A04))
   M9))
   (C0 (S3 (K9 (PW.pt (B2n (T7 y8 (G8 Y1 rfl T.bi W0 (A1 (pv 7) A6 A0) (he:=A0) (hpl:=A5)) C3 (E4 _)) (B2m (Q8 (P3 (B6 eJ (hr.mono DD) rfl T.bW.m T.bW.F.kp eK .nil A9 (A1 (B6 cP (hr.mono DD) rfl T.aL.m T.aL.F.kp cQ .nil A9 (A1 (pv 5) (A1 O4 (A1 (P7 (A1 (C51 A1p PySem.F.slot_list_pop PySem.F.type_list_pop C55 (pv 7)) A6 D5)) A6 E6) A8) A0) (he:=A0) (hpl:=(A7 A8 (A7 E6 A5)))) (A1 O4 (A1 (P7 A6) A6 E6) A8) D5) (he:=D5) (hpl:=(A7 A8 (A7 E6 A5)))))))))
   (D1 (G6 A04))
   M9))
   (C0 (C4 (i:=14) Y7.nd rfl (B7 rfl) (O5 (pv 5) T.ac T.aU.m cB (hr.mono DD) cC .nil A9))
   (C0 (C4 (i:=15) Y7.nd rfl (B7 rfl) (A0b (pv 5) T.ac T.bv.m eI (hr.mono DD) dq .nil A9 (A1 (pv 8) (A1 C3 (A1 (K6 A2u (pv 2) C3) (A1 (K6 S2 C3 C3) A6 L7) L7) A8) A0) (hst:=A0) (hpl:=(A7 A8 (A7 L7 (A7 L7 A5))))))
   (C0 (S3 (K9 (T7 (A08 (M3 hr)) (pv 15) (B6 hG (hr.mono DD) rfl T.cK.m T.cK.F.kp hJ .nil A9 (A1 (pv 14) (A1 (O5 (pv 5) T.ac T.aU.m cB (hr.mono DD) cC .nil A9) A6 D5) A0) (he:=A0) (hpl:=(A7 D5 A5))) (E4 _))
   (D1 (G6 A04))
   M9))
   (C0 (S3 (K9 (Q8 (P3 (B6 eJ (hr.mono DD) rfl T.bW.m T.bW.F.kp eK .nil A9 (A1 (B6 cP (hr.mono DD) rfl T.aL.m T.aL.F.kp cQ .nil A9 (A1 (pv 5) (A1 O4 (A1 (P7 (A1 (pv 8) (A1 (B7n B7p (K6 S2 C3 C3)) A6 A3z) A0)) A6 E6) A8) A0) (he:=A0) (hpl:=(A7 A8 (A7 E6 A5)))) (A1 O4 (A1 (P7 A6) A6 E6) A8) D5) (he:=D5) (hpl:=(A7 A8 (A7 E6 A5))))))
   (D1 (G6 A04))
   M9))
   (C0 (S3 (K9 (Q8 (P3 (B6 eJ (hr.mono DD) rfl T.bW.m T.bW.F.kp eK .nil A9 (A1 (B6 cP (hr.mono DD) rfl T.aL.m T.aL.F.kp cQ .nil A9 (A1 (pv 5) (A1 O4 (A1 (P7 (A1 (K6 S2 C3 C3) A6 L7)) A6 E6) A8) A0) (he:=A0) (hpl:=(A7 A8 (A7 E6 A5)))) (A1 O4 (A1 (P7 A6) A6 E6) A8) D5) (he:=D5) (hpl:=(A7 A8 (A7 E6 A5))))))
   (D1 (G6 A04))
   M9))
   (C0 (S3 (K9 (Q8 (P3 (B6 eJ (hr.mono DD) rfl T.bW.m T.bW.F.kp eK .nil A9 (A1 (B6 cP (hr.mono DD) rfl T.aL.m T.aL.F.kp cQ .nil A9 (A1 (pv 5) (A1 O4 (A1 (P7 (A1 (Z3 (Q5.new (N:=["_law_script", "_law_hand_here", "_law_many", "_law_scale_here", "_law_store_here", "_law_keeper", "_law_ways", "_law_labels", "_law_spare", "_law_ahead", "_law_word", "_law_things", "_law_kind", "_law_fields", "_law_before", "_law_told"]) (osc:=B8 A00) KK) rfl (A2t rfl T.bZ (A1 (pv 2) A6 A0)) (λ_=>A10) (λ_=>(K6 S2 C3 C3))) A6 A09)) A6 E6) A8) A0) (he:=A0) (hpl:=(A7 A8 (A7 E6 A5)))) (A1 O4 (A1 (P7 A6) A6 E6) A8) D5) (he:=D5) (hpl:=(A7 A8 (A7 E6 A5))))))
   (D1 (G6 A04))
   M9))
   (C0 (S3 (K9 (Q8 (P3 (B6 eJ (hr.mono DD) rfl T.bW.m T.bW.F.kp eK .nil A9 (A1 (B6 cP (hr.mono DD) rfl T.aL.m T.aL.F.kp cQ .nil A9 (A1 (pv 5) (A1 O4 (A1 (P7 (A1 (pv 8) A6 A0)) A6 E6) A8) A0) (he:=A0) (hpl:=(A7 A8 (A7 E6 A5)))) (A1 O4 (A1 (P7 A6) A6 E6) A8) D5) (he:=D5) (hpl:=(A7 A8 (A7 E6 A5))))))
   (D1 (G6 A04))
   M9))
   (D1 (G6 (B6 gq (hr.mono DD) rfl T.cE.m T.cE.F.kp gu .nil A9 (A1 (pv 5) (A1 (pv 2) (A1 (j9 (C9p rfl) rfl T.fY C6k (A1 (Z3 (Q5.new (N:=["_law_script", "_law_hand_here", "_law_many", "_law_scale_here", "_law_store_here", "_law_keeper", "_law_ways", "_law_labels", "_law_spare", "_law_ahead", "_law_word", "_law_things", "_law_kind", "_law_fields", "_law_before", "_law_told"]) (osc:=B8 A00) KK) rfl (A0p (pv 7)) (λ_=>A10) (λ_=>(V0 (A1 (pv 16) (A1 (A19 (u1 (M3 hr)) (pv 6) (pv 16) (λ_ _=>rfl)) A6 C1) A0)))) A6 A09) (he:=A09) (hpl:=A5)) A6 D5) A0) A0) (he:=A0) (hpl:=(A7 A0 (A7 D5 A5))))))))))))))))))))))))),?_⟩
  try dsimp only[O6,Cx.nox]
  refine j0 λW hW=>?_
  refine⟨_,rfl,a,ns,rfl,hS,λhd hl H1 _ _ d1 _=>?_⟩
  refine @K1 W _ _ _ _ _ hW λW hW=>?_
  refine⟨_,rfl,A5q DD DD d1 λu H2 u0 u4 k2 d2=>⟨_,_,rfl,rfl,?_⟩⟩
  obtain⟨m,hm⟩:∃m:Nat,1 + u=((m:Nat):Int):=⟨(1 + u).toNat,OO⟩
  show W _ [some (.ref a),some (.ref hd),some (.int (1 + u)),none,none,none,none,none,none,none,none,none,none,none,none,none] H2
  rw[hm]
  refine @K1 W _ _ _ _ _ hW λW hW=>?_
  refine⟨_,rfl,D3p (E:=E0) (λd=>∃r:Int,(1<=r/\r<=1000000000000000000)/\d=.int r) d2 ⟨_,rfl,λr r0 r1=>⟨r,⟨r0,r1⟩,rfl⟩⟩ λd v H4 hd' tv _ d4=>?_⟩
  obtain⟨sc,⟨sc0,sc1⟩,rfl⟩:=hd'
  cases tv
  refine @K1 W _ _ _ _ _ hW λW hW=>?_
  refine⟨_,rfl,_,rfl,B1n (E:=E0) (λd=>∃r:Int,(0<=r/\r<=100000000000000000000)/\d=.int r) d4 (.cons (.int _) .nil) ⟨_,sc,rfl,OO,sc1,λr r0 r1=>⟨r,⟨r0,r1⟩,rfl⟩⟩ λd v H5 hd' tv _ d5=>?_⟩
  obtain⟨st,⟨st0,st1⟩,rfl⟩:=hd'
  cases tv
  refine @K1 W _ _ _ _ _ hW λW hW=>?_
  refine⟨_,rfl,_,rfl,_,rfl,_,rfl,_,rfl,B1n (E:=E0) (λd=>∃t,K8 m st t/\d=.list (B4 t)) d5 (.cons (.int _) (.cons (.int _) .nil)) ⟨_,m,st,rfl,OO,st0,OO,λt ht=>⟨t,ht,rfl⟩⟩ λd vg H6 hd' tg _ d6=>?_⟩
  obtain⟨g,tg0,rfl⟩:=hd'
  have ok0:KOk m st g []:=⟨OO,OO,st0,st1,tg0,B61,P0 _,λq hq=>by cases hq⟩
  intro p dx hp hdx npx
  have s9:Same H6 (upd H6 dx (.own p)):=Same.upd hdx
  have hp9:upd H6 dx (.own p) p=none:=by rw[B1 (λz=>npx z.symm)];exact hp
  have s10:=Same.upd (o:=.ins T.aa dx []) hp9
  refine⟨p,dx,m,st,g,vg,rfl,B2,((tg.keep s9).keep s10).any,ok0,λd low H9 lr nd kp fr=>⟨rfl,?_⟩⟩
  have sH:Same H6 H9:=λb o e=>fr _ _ (s10 _ _ (s9 _ _ e)) λz=>by rw[z,hp] at e;cases e
  have d9:=d6.same sH
  have kp9:E9 (λb=>b≠hd) T.aa H9 p d ⟨m,st,g,[],low⟩:=kp.mv (λb o e _=>e) λb hb=>by
   obtain⟨o,eo⟩:=d6.at1
   intro z
   rw[z,s10 _ _ (s9 _ _ eo)] at hb;cases hb
  clear kp fr s10 s9 hp9 hp hdx npx sH d6 d5 d4 d2 d1 k2
  refine @K1 W _ _ _ _ _ hW λW hW=>?_
  refine⟨_,rfl,_,rfl,_,rfl,_,rfl,hd,hl,p,d,⟨m,st,g,[],low⟩,sc,rfl,d9,kp9,rfl,ok0,lr,⟨OO,sc1⟩,λdc one n kk H2 hn L nedc=>?_⟩
  have em:kk.m=m:=L.em
  have few:=L.ok.few
  have lk:(C6 kk.kws).length < 64:=by unfold C6;rw[D6];lia
  clear kp9 d9
  show W _ [some (.ref a),some (.ref hd),some (.int ((m:Nat):Int)),some (.int sc),some (.int st),some (.ref p),some (.ref dc),none,none,none,none,none,none,none,none,none] H2
  refine @K1 W _ _ _ _ _ hW λW hW=>?_
  obtain⟨kvs,edc,kv⟩:=id L.dc
  refine⟨_,rfl,dc,kvs,_,rfl,edc,kv.keys,lk,λll ms hll hp hs=>?_⟩
  have ems:=A7h hp hs
  subst ems
  have s3:=Same.upd (o:=.lst ((srt (C6 kk.kws)).map V.int)) hll
  obtain⟨H3,hH3⟩:∃H3,H3=upd H2 ll (.lst ((srt (C6 kk.kws)).map V.int)):=⟨_,rfl⟩
  have ell:upd H2 ll (.lst ((srt (C6 kk.kws)).map V.int)) ll=_:=B2
  show W _ [some (.ref a),some (.ref hd),some (.int ((m:Nat):Int)),some (.int sc),some (.int st),some (.ref p),some (.ref dc),some (.ref ll),none,none,none,none,none,none,none,none] (upd H2 ll (.lst ((srt (C6 kk.kws)).map V.int)))
  rw[<-hH3] at s3 ell ⊢
  clear hH3 hp hs kv edc kvs
  have L3:=L.sm s3
  have nll:ll≠hd:=λz=>by
   obtain⟨_,_,_,_,_,_,_,_,e⟩:=L.hh
   rw[z,e] at hll;cases hll
  have nlh:ll≠hl:=(L.hh.ne hll).2
  clear L s3 hll
  refine @K1 W _ _ _ _ _ hW λW hW=>?_
  refine⟨_,rfl,10,17,rfl,rfl,⟨DD,DD,DD⟩,A5q (n:=10 ^ (17:Int).toNat) DD DD L3.hh λq H4 q0 q1 k4 h4=>⟨_,_,rfl,rfl,?_⟩⟩
  have q1:q < 100000000000000000:=q1
  have L4:=L3.kq k4 h4
  have ell4:=k4 _ _ ell nll
  clear L3 k4 h4 ell
  obtain⟨sp,hsp⟩:∃sp,sp=2 + q:=⟨_,rfl⟩
  show W _ [some (.ref a),some (.ref hd),some (.int ((m:Nat):Int)),some (.int sc),some (.int st),some (.ref p),some (.ref dc),some (.ref ll),some (.int (2 + q)),none,none,none,none,none,none,none] H4
  rw[<-hsp]
  have lsp:T0 sp:=by unfold T0;lia
  have nsp:D7 kk.kws sp=none:=C3d λz=>by
   rw[L4.ks] at z
   obtain⟨j,hj,e⟩:=Q2.mp z
   rcases D68 (one:=one) (show j < 40 by have:=p6.mp hj;lia) with h | h <;> lia
  have hF4:∀{Hx:Hp},Hd Hx hd hl->∀b,Hx b=none->b≠hd:=λ{Hx} hx b hb z=>by
   obtain⟨_,_,_,_,_,_,_,_,e⟩:=hx
   rw[z,e] at hb;cases hb
  refine @K1 W _ _ _ _ _ hW λW hW=>?_
  refine⟨_,rfl,_,λb=>b≠hd,p,d,kk,rfl,hF4 L4.hh,(λb z=>C3o L4.hh z),(λHx b xs t fx e tt nt=>C3p L4.hh L4.kp fx e tt nt),L4.kp,L4.ok,λrA vA H5 srA kp5 tA fr5=>?_⟩
  show W _ [some (.ref a),some (.ref hd),some (.int ((m:Nat):Int)),some (.int sc),some (.int st),some (.ref p),some (.ref dc),some (.ref ll),some (.int sp),some vA,none,none,none,none,none,none] H5
  have hh5:=A1n L4.hh L4.kp fr5
  have dc5:=L4.dc.fr L4.kp nedc fr5
  have nl4:=Q6 L4.kp ell4
  have ell5:=fr5 _ _ ell4 nl4.1 nl4.2
  refine @K1 W _ _ _ _ _ hW λW hW=>?_
  have lsr:(srt (C6 kk.kws)).length=kk.kws.length:=by rw[(j2 _).length_eq];unfold C6;rw[D6]
  refine⟨_,rfl,_,rfl,_,rfl,_,rfl,_,rfl,hd,hl,p,d,ll,kk,srt (C6 kk.kws),sp,by rw[em];rfl,hh5,kp5,L4.ok,nll,ell5,lsr,λx hx=>?_,lsp,nsp,λrows vr H6 hrow kp6 hh6 tr kq6=>?_⟩
  ·have hx:=(j2 _).mem_iff.mp hx
   obtain⟨w0,hw0⟩:=A1j hx
   rw[L4.ks] at hx
   obtain⟨j,hj,rfl⟩:=Q2.mp hx
   exact⟨C3c (by have:=p6.mp hj;lia),w0,hw0⟩
  obtain⟨ar,ur,rfl,gr,er,tur⟩:=P8 tr
  have nl5:=Q6 kp5 ell5
  have S6:LwS T.aa hd hl p d dc ll ar kk (srt (C6 kk.kws)) vA rA rows H6:=by
   refine⟨kp6,hh6,tA.mv λb o z e=>⟨z,kq6 _ _ e z.2 z.1.1 z.1.2⟩,?_,kq6 _ _ ell5 nll nl5.1 nl5.2,tr.mv λb o z e=>⟨z.2,e⟩⟩
   ·obtain⟨kvs,e,kv⟩:=dc5
    refine⟨kvs,kq6 _ _ e (A9d hh5 e λxs z=>by cases z) (λz=>?_) nedc,kv.mv λb xs e=>kq6 _ _ e (A9d hh5 e λxs z=>by cases z) (R8 kp5 e).1 (R8 kp5 e).2⟩
    obtain⟨dx,g',l',e1⟩:=kpi kp5
    rw[z,e1] at e;cases e
  refine⟨ar,rfl,⟨_,SqL.of er⟩,?_⟩
  refine B7m (K:=K) (a:=ar) (xs:=ur) (λi σ' H'=>∃x10 x11 x12 x13,σ'=[some (.ref a),some (.ref hd),some (.int ((m:Nat):Int)),some (.int sc),some (.int st),some (.ref p),some (.ref dc),some (.ref ll),some (.int sp),some vA,x10,x11,x12,x13,none,none]/\H' ar=some (.lst ur)/\LwS T.aa hd hl p d dc ll ar kk (srt (C6 kk.kws)) vA rA rows H') ⟨none,none,none,none,rfl,er,S6⟩ ?_ ?_ ?_
  ·rintro i σ' H' hi ⟨x10,x11,x12,x13,rfl,e,S⟩
   exact SqL.of e
  ·rintro i x σ' H' hx ⟨x10,x11,x12,x13,rfl,ea,S⟩
   obtain⟨ar',ur',ez,_,er',tur'⟩:=P8 S.tr
   cases ez
   rw[ea] at er'
   cases er'
   obtain⟨dd,hdd,tx⟩:=B1o tur' hx
   obtain⟨wd,ds,r,fs,rfl,r7,why,oks,dep⟩:=hrow _ (X1 hdd)
   obtain⟨tt,ut,rfl,_,ett,tut⟩:=A1b tx
   obtain⟨w1,w2,w3,w4,rfl,tw1,tw2,tw3,tw4⟩:=A7l tut
   cases tw1
   cases tw3
   obtain⟨lt,us,rfl,_,elt,tus⟩:=P8 tw2
   obtain⟨v,whyD,vy,vn⟩:=why.go tus
   refine⟨tt,_,rfl,SqT.of ett,rfl,_,_,rfl,_,_,rfl,_,_,rfl,_,_,rfl,rfl,?_⟩
   have g4:kk.g.length<=400:=by rw[L4.ok.gt.len];have:=L4.ok.m2;lia
   refine⟨_,rfl,_,rfl,_,rfl,_,p,d,kk,wd,lt,us,ds,rfl,hF4 S.hh,S.kp,elt,tus.any,g4,.inr ⟨r,v,whyD,λt1 p1 l1 H7 et1 ep1 el1 s7=>?_⟩⟩
   have flds:B0 TT0 H7 (if (o8 r).isSome=true then [v] else []) fs:=by
    cases hf:(o8 r).isSome with
    | true=>
     obtain⟨fa,rfl,tf⟩:=vy hf
     rw[if_pos rfl]
     exact .cons (tf.keep s7).any .nil
    | false=>
     rw[vn hf,if_neg R9]
     exact .nil
   refine⟨_,rfl,_,rfl,.ref t1,w4,A2g r,fs,rfl,oks,dep,(tw4.keep s7).any,.inr ⟨r,r7,rfl,.tup trivial et1 (.cons (.lst trivial ep1 (B6h _)) (.cons (.lst trivial el1 flds) .nil))⟩,λH8 s8=>?_⟩
   have s78:=s7.tr s8
   have kp8:=S.kp.same s78
   have hh8:=S.hh.same s78
   refine⟨_,rfl,E2 ?_⟩
   refine⟨_,rfl,_,λb=>b≠hd,p,d,kk,rfl,hF4 hh8,(λb z=>C3o hh8 z),(λHx b xs t fx e tt nt=>C3p hh8 kp8 fx e tt nt),kp8,L4.ok,λrB vB H9 srB kp9 tB fr9=>?_⟩
   have eAB:=srA.uniq srB
   subst eAB
   have LB:=srA.lay
   have tA9:=ThV.frG (S.tA.keep s78) fr9
   refine⟨_,rfl,_,_,ThV.dat tB LB.1,ThV.dat tA9 LB.1,LB.1,LB.1,LB.dep DD _,_,rfl,?_⟩
   rw[LB.same]
   have nar:=Q6 kp8 (s78 _ _ ea)
   have nl8:=Q6 kp8 (s78 _ _ S.el)
   exact E2 ⟨_,_,_,_,rfl,fr9 _ _ (s78 _ _ ea) nar.1 nar.2,⟨kp9,A1n hh8 kp8 fr9,tA9,(S.dc.same s78).fr kp8 nedc fr9,fr9 _ _ (s78 _ _ S.el) nl8.1 nl8.2,(S.tr.keep s78).frp fr9⟩⟩
  ·rintro σ' H' ⟨x10,x11,x12,x13,rfl,ea,S⟩
   show W _ [some (.ref a),some (.ref hd),some (.int ((m:Nat):Int)),some (.int sc),some (.int st),some (.ref p),some (.ref dc),some (.ref ll),some (.int sp),some vA,x10,x11,x12,x13,none,none] H'
   refine @K1 W _ _ _ _ _ hW λW hW=>?_
   refine⟨fun σ' Hn=>σ'=[some (.ref a),some (.ref hd),some (.int ((m:Nat):Int)),some (.int sc),some (.int st),some (.ref p),some (.ref dc),some (.ref ll),some (.int sp),some vA,x10,x11,x12,x13,none,none]/\LwE T.aa hd hl p d dc ll kk kk.kws (srt (C6 kk.kws)) Hn,?_,?_⟩
   ·refine⟨_,rfl,_,rfl,_,rfl,_,p,d,dc,kk,kk.kws,by rw[em];rfl,hF4 S.hh,S.kp,S.dc,nedc,.refl _,L4.ok,L4.lo,λH8 kp8 fr8=>?_⟩
    have nl:=Q6 S.kp S.el
    exact⟨_,rfl,E2 ⟨rfl,⟨kp8,A1n S.hh S.kp fr8,S.dc.fr S.kp nedc fr8,fr8 _ _ S.el nl.1 nl.2,L4.ok,L4.lo⟩⟩⟩
   have em':=em
   have nll':=nll
   clear S ea
   rintro σ' H7 ⟨rfl,S7⟩
   refine @K1 W _ _ _ _ _ hW λW hW=>?_
   have did:∀{k:Kst} {kw:Kw} {ls:List Int} {Hx:Hp} {Qv:VK} (dd:V2) (lt:Addr) (us:List V),LwE T.aa hd hl p d dc ll k kw ls Hx->Hx lt=some (.lst us)->B0 TT0 Hx us dd.args->A7j k dd->(∀v Hy b6,LwE T.aa hd hl p d dc ll { S5 k dd with low:=b6 } kw ls Hy->ThV TT0 Hy v (.tuple [.list [],.list []])->Qv v Hy)->C23 T [.ref p,.str dd.word,.ref lt] Hx Qv E0:=λ{k kw ls Hx Qv} dd lt us L el tus dok q=>by
    refine⟨_,p,d,k,dd.word,lt,us,dd.args,rfl,hF4 L.hh,L.kp,el,tus,by rw[L.ok.gt.len];have:=L.ok.m2;lia,.inl ⟨dd,rfl,rfl,L.ok,L.lo.tab.len,dok,λv k' H' mv kp' tv fr=>?_⟩⟩
    obtain⟨r,b6,lb,rfl,rfl⟩:=mv
    have nl:=Q6 L.kp L.el
    exact q v H' b6 ⟨kp',A1n L.hh L.kp fr,L.dc.fr L.kp nedc fr,fr _ _ L.el nl.1 nl.2,A3h L.ok dok,lb⟩ tv
   refine⟨fun σ' Hn=>σ'=[some (.ref a),some (.ref hd),some (.int ((m:Nat):Int)),some (.int sc),some (.int st),some (.ref p),some (.ref dc),some (.ref ll),some (.int sp),some vA,x10,x11,x12,x13,none,none]/\∃k2 ls2,LwE T.aa hd hl p d dc ll k2 kk.kws ls2 Hn/\k2.m=m/\k2.kws.length < 40/\D7 k2.kws sp=none/\ls2.Nodup/\(k2.kws.map (·.1)).Perm ls2/\∀x∈ls2,D7 k2.kws x=D7 kk.kws x,?_,?_⟩
   ·refine⟨_,rfl,ll,_,rfl,.inl (SqL.of S7.el),rfl,_,rfl,?_⟩
    have pmk:(C6 kk.kws).Perm (srt (C6 kk.kws)):=(j2 _).symm
    have ndk:(srt (C6 kk.kws)).Nodup:=pmk.nodup_iff.mp L4.ok.nd
    have elen:(List.map V.int (srt (C6 kk.kws))).length=kk.kws.length:=by rw[D6,lsr]
    rw[elen]
    by_cases h40:kk.kws.length=40
    ·rw[show decide (V.int ((kk.kws.length:Nat):Int)=V.int 40)=true by rw[h40];exact decide_eq_true rfl]
     refine J0 ?_
     obtain⟨ls,hls⟩:∃ls,ls=srt (C6 kk.kws):=⟨_,rfl⟩
     have l40:ls.length=40:=by rw[hls,lsr,h40]
     have S7':=S7
     rw[<-hls] at S7' pmk ndk
     have hne:ls≠[]:=λz=>by rw[z] at l40;cases l40
     have ecat:=List.dropLast_concat_getLast hne
     obtain⟨x,hx⟩:∃x,x=ls.getLast hne:=⟨_,rfl⟩
     rw[<-hx] at ecat
     have mx:x∈ls:=by rw[<-ecat];exact p8 _ (j5.mpr rfl)
     obtain⟨w0,hw0⟩:=A1j (pmk.mem_iff.mpr mx)
     have lx:T0 x:=(L4.ok.way _ (A5k hw0)).1
     have xn:x∉ls.dropLast:=λz=>by
      rw[<-ecat] at ndk
      exact (B66.mp ndk).2.2 x z x (j5.mpr rfl) rfl
     refine⟨_,rfl,_,rfl,.inl ⟨rfl,_,SqL.of S7'.el⟩,ll,_,.int x,rfl,rfl,S7'.el,?_,?_⟩
     ·rw[D6,S0,<-List.getLast?_eq_getElem?,List.getLast?_eq_some_getLast hne,<-hx]
      rfl
     rw[<-List.map_dropLast]
     have S8:=S7'.pop (by rw[l40];have:=L4.ok.m2;lia) nll nlh ls.dropLast
     refine⟨by show 1<=sizeLine;decide,λlt hlt=>?_⟩
     have s9:=Same.upd (o:=.lst [V.int x]) hlt
     refine did (.lift x) lt [.int x] (S8.same s9) B2 (.cons (.int _) .nil) ⟨lx,w0,hw0⟩ λv Hy b6 L tv=>?_
     refine⟨by show 0<=sizeLine;decide,λlf hlf=>⟨v,.ref lf, "done",[],rfl,rfl,DD,.lst trivial B2 .nil,.inl ⟨rfl,tv.keep (Same.upd hlf)⟩,λH' s'=>⟨_,rfl,E2 ?_⟩⟩⟩
     have pmd:(C6 (W9 kk.kws x)).Perm ls.dropLast:=by
      rw[D67]
      have h1:=pmk.filter (λy=>decide (y≠x))
      have h2:=D7a xn
      rw[ecat] at h2
      rw[h2] at h1
      exact h1
     refine⟨rfl,_,ls.dropLast,(L.same (Same.upd hlf)).same s',em,?_,?_,?_,pmd,λy hy=>?_⟩
     ·show (W9 kk.kws x).length < 40
      have:=pmd.length_eq
      unfold C6 at this
      rw[D6,List.length_dropLast,l40] at this
      lia
     ·show D7 (W9 kk.kws x) sp=none
      rw[B6p,nsp]
      split <;> rfl
     ·rw[<-ecat] at ndk
      exact (B66.mp ndk).1
     ·show D7 (W9 kk.kws x) y=_
      rw[B6p,if_neg (λz=>by rw[z] at hy;exact xn hy)]
    ·rw[show decide (V.int ((kk.kws.length:Nat):Int)=V.int 40)=false from decide_eq_false λz=>h40 (by have:=V.int.inj z;lia)]
     exact E2 (E2 ⟨rfl,kk,_,S7,em,OO,nsp,ndk,pmk,λ_ _=>rfl⟩)
   rintro σ' H8 ⟨rfl,k2,ls2,S8,em2,l39,nsp2,nd2,pm2,gw2⟩
   refine @K1 W _ _ _ _ _ hW λW hW=>?_
   obtain⟨dx8,g8,l8,e8⟩:=kpi S8.kp
   refine⟨_,rfl,p,dx8,_,rfl,e8,K4 KK,_,p,d,k2,[],[],rfl,hF4 S8.hh,S8.kp,.nil,rfl,λr vb k3 H9 po kp9 tv9 fr9 ap=>?_⟩
   obtain⟨rfl,rfl⟩:=po
   have tb:=ThV.tpd S8.kp tv9
   have nl8:=Q6 S8.kp S8.el
   have S9:LwE T.aa hd hl p d dc ll k3 kk.kws ls2 H9:=⟨kp9,A1n S8.hh S8.kp fr9,S8.dc.fr S8.kp nedc fr9,fr9 _ _ S8.el nl8.1 nl8.2,S8.ok,S8.lo⟩
   clear S8 tv9 ap kp9 fr9
   show W _ [some (.ref a),some (.ref hd),some (.int ((m:Nat):Int)),some (.int sc),some (.int st),some (.ref p),some (.ref dc),some (.ref ll),some (.int sp),some vA,x10,x11,x12,x13,some vb,none] H9
   refine @K1 W _ _ _ _ _ hW λW hW=>?_
   obtain⟨dx9,g9,l9,e9⟩:=kpi S9.kp
   have mm1:=S9.ok.m1
   have dok:A7j k3 (.lay sp (0,m - 1,1000000000000000000)):=⟨lsp,nsp2,⟨by show 0 < k3.m;lia,by show m - 1 < k3.m;lia,by show (-1000000000000000000:Int)<=1000000000000000000;decide,by show (1000000000000000000:Int)<=1000000000000000000;decide⟩,l39⟩
   refine⟨_,rfl,p,dx9,_,rfl,e9,K4 KK,_,rfl,_,rfl,_,_,rfl,rfl,10,18,rfl,rfl,⟨DD,DD,DD⟩,?_⟩
   have p18:(10:Int) ^ A72 18=1000000000000000000:=by decide
   have em1:((m:Nat):Int) - 1=((m - 1:Nat):Int):=by lia
   refine⟨_,p,d,k3,[.int sp,.int 0,.int (((m:Nat):Int) - 1),.int (10 ^ A72 18)],V2.args (.lay sp (0,m - 1,1000000000000000000)),rfl,hF4 S9.hh,S9.kp,?_,⟨_,⟨_,_,rfl⟩,rfl,S9.ok,S9.lo.tab.len,dok⟩,λr vt k4 H10 po kp10 tv10 fr10 ap=>?_⟩
   ·rw[p18,em1]
    exact .cons (.int _) (.cons (.int _) (.cons (.int _) (.cons (.int _) .nil)))
   obtain⟨dd',⟨x',w',rfl⟩,h2,b6,lb,rfl,rfl⟩:=po
   obtain⟨rfl,rfl⟩:=B6g h2
   have nl9:=Q6 S9.kp S9.el
   have S10:LwE T.aa hd hl p d dc ll { S5 k3 (.lay sp (0,m - 1,1000000000000000000)) with low:=b6 } kk.kws ls2 H10:=⟨kp10,A1n S9.hh S9.kp fr10,S9.dc.fr S9.kp nedc fr10,fr10 _ _ S9.el nl9.1 nl9.2,A3h S9.ok dok,lb⟩
   show W _ [some (.ref a),some (.ref hd),some (.int ((m:Nat):Int)),some (.int sc),some (.int st),some (.ref p),some (.ref dc),some (.ref ll),some (.int sp),some vA,x10,x11,x12,x13,some vb,some vt] H10
   refine @K1 W _ _ _ _ _ hW λW hW=>?_
   have hl3:k3.low.length=k3.m:=S9.lo.tab.len
   have hl6:b6.length=k3.m:=lb.tab.len
   have m12:=S9.ok.m2
   have LM:=E7.mov k3.low b6
   have tt10:=ThV.tpd S9.kp tv10
   have tb10:=tb.frp fr10
   clear tv10 ap
   refine⟨fun σ' Hn=>σ'=[some (.ref a),some (.ref hd),some (.int ((m:Nat):Int)),some (.int sc),some (.int st),some (.ref p),some (.ref dc),some (.ref ll),some (.int sp),some vA,x10,x11,x12,x13,some vb,some vt]/\LwE T.aa hd hl p d dc ll { S5 k3 (.lay sp (0,m - 1,1000000000000000000)) with low:=b6 } kk.kws ls2 Hn,?_,?_⟩
   ·obtain⟨dxa,ga,la,ea⟩:=kpi S10.kp
    refine⟨_,rfl,_,rfl,_,rfl,p,dxa,_,rfl,ea,K4 KK,_,p,d,_,[],[],rfl,hF4 S10.hh,S10.kp,.nil,rfl,λr vb2 k5 H11 po kp11 tv11 fr11 ap=>?_⟩
    obtain⟨rfl,ek5⟩:=po
    have nl10:=Q6 S10.kp S10.el
    rw[ek5] at kp11
    have S11:LwE T.aa hd hl p d dc ll { S5 k3 (.lay sp (0,m - 1,1000000000000000000)) with low:=b6 } kk.kws ls2 H11:=⟨kp11,A1n S10.hh S10.kp fr11,S10.dc.fr S10.kp nedc fr11,fr11 _ _ S10.el nl10.1 nl10.2,S10.ok,S10.lo⟩
    refine V6 (E:=E0) (λd=>d=A85 k3.low b6) (.cons (tb10.frp fr11).any (.cons tv11.any .nil)) ⟨k3.low,b6,rfl,by rw[hl3,hl6],by rw[hl3];lia,rfl⟩ λd' v4 H12 hd4 t4 s4=>?_
    subst hd4
    refine⟨_,_,ThV.dat ((tt10.frp fr11).keep s4) LM.1,ThV.dat t4 LM.1,LM.1,LM.1,LM.dep DD _,_,rfl,?_⟩
    rw[LM.same]
    exact E2 ⟨rfl,S11.same s4⟩
   clear S10 S9 tt10 tb10 tb e9 e8 kp10 fr10
   rintro σ' H11 ⟨rfl,S11⟩
   refine @K1 W _ _ _ _ _ hW λW hW=>?_
   refine⟨fun σ' Hn=>σ'=[some (.ref a),some (.ref hd),some (.int ((m:Nat):Int)),some (.int sc),some (.int st),some (.ref p),some (.ref dc),some (.ref ll),some (.int sp),some vA,x10,x11,x12,x13,some vb,some vt]/\∃k4 w1 w2,LwE T.aa hd hl p d dc ll k4 kk.kws ls2 Hn/\k4.m=m/\k4.kws=W8 (W8 k3.kws sp w1) sp w2,?_,?_⟩
   ·refine⟨_,rfl,_,rfl,_,_,rfl,rfl,⟨DD,DD,DD⟩,_,rfl,by show 2<=sizeLine;decide,λlt hlt=>?_⟩
    have gs:D7 (W8 k3.kws sp (0,m - 1,1000000000000000000)) sp=some (0,m - 1,1000000000000000000):=by rw[B6o,if_pos rfl]
    refine did (.turn sp (-1000000000000000000)) lt [.int sp,.int (-1000000000000000000)] (S11.same (Same.upd hlt)) B2 (.cons (.int _) (.cons (.int _) .nil)) ⟨⟨lsp,_,gs⟩,DD,DD⟩ λv Hy b7 L tv=>?_
    refine⟨by show 0<=sizeLine;decide,λlf hlf=>⟨v,.ref lf, "done",[],rfl,rfl,DD,.lst trivial B2 .nil,.inl ⟨rfl,tv.keep (Same.upd hlf)⟩,λH' s'=>⟨_,rfl,E2 ?_⟩⟩⟩
    exact⟨rfl,_,_,_,(L.same (Same.upd hlf)).same s',em2,rfl⟩
   rintro σ' H12 ⟨rfl,k4,w1,w2,S12,em4,ek4⟩
   refine @K1 W _ _ _ _ _ hW λW hW=>?_
   refine⟨fun σ' Hn=>σ'=[some (.ref a),some (.ref hd),some (.int ((m:Nat):Int)),some (.int sc),some (.int st),some (.ref p),some (.ref dc),some (.ref ll),some (.int sp),some vA,x10,x11,x12,x13,some vb,some vt]/\∃k5,LwE T.aa hd hl p d dc ll k5 kk.kws ls2 Hn/\k5.m=m/\k5.kws=k4.kws/\k5.st=100000000000000000000,?_,?_⟩
   ·refine⟨_,rfl,_,_,rfl,rfl,⟨DD,DD,DD⟩,by show 1<=sizeLine;decide,λlt hlt=>?_⟩
    refine did (.refill 100000000000000000000) lt [.int 100000000000000000000] (S12.same (Same.upd hlt)) B2 (.cons (.int _) .nil) ⟨⟨DD,DD⟩,S12.ok.gt.len,λp x h=>⟨(S12.ok.gt.bd p x h).1,Int.le_trans (S12.ok.gt.bd p x h).2 S12.ok.s1⟩⟩ λv Hy b7 L tv=>?_
    refine⟨by show 0<=sizeLine;decide,λlf hlf=>⟨v,.ref lf, "done",[],rfl,rfl,DD,.lst trivial B2 .nil,.inl ⟨rfl,tv.keep (Same.upd hlf)⟩,λH' s'=>⟨_,rfl,E2 ?_⟩⟩⟩
    exact⟨rfl,_,(L.same (Same.upd hlf)).same s',em4,rfl,rfl⟩
   rintro σ' H13 ⟨rfl,k5,S13,em5,ek5,es5⟩
   refine @K1 W _ _ _ _ _ hW λW hW=>?_
   refine⟨fun σ' Hn=>σ'=[some (.ref a),some (.ref hd),some (.int ((m:Nat):Int)),some (.int sc),some (.int st),some (.ref p),some (.ref dc),some (.ref ll),some (.int sp),some vA,x10,x11,x12,x13,some vb,some vt]/\∃k6,LwE T.aa hd hl p d dc ll k6 kk.kws ls2 Hn/\k6.m=m/\k6.kws=k4.kws,?_,?_⟩
   ·refine⟨_,rfl,_,rfl,_,rfl,OO,OO,?_⟩
    refine B8p (n:=((m:Nat):Int).toNat) (λq ys Hn=>H13=Hn/\ys=E5 q (V.int 100000000000000000000)) ?_ ⟨rfl,rfl⟩ ?_ ?_ ?_
    ·rw[sizeLine_eq];lia
    ·rintro q ys Hn hq ⟨_,rfl⟩
     rw[A1o];exact F7 _
    ·rintro q ys Hn hq ⟨rfl,rfl⟩ ca
     unfold A1z
     exact J0 ⟨_,_,rfl,rfl,⟨DD,DD,DD⟩,rfl,by rw[List.replicate_succ'];rfl⟩
    rintro ys Hn ⟨rfl,rfl⟩ lg hlg
    rw[show ((m:Nat):Int).toNat=m by lia]
    have s1:=Same.upd (o:=.lst (E5 m (V.int 100000000000000000000))) hlg
    refine⟨by show 1<=sizeLine;decide,λlt hlt=>?_⟩
    refine did (.aim (E5 m (some 100000000000000000000))) lt [.ref lg] ((S13.same s1).same (Same.upd hlt)) B2 (.cons (.lst trivial (Same.upd hlt _ _ B2) (C3q _ _)) .nil) ⟨by rw[A1o,em5],λq y h=>by rw[D69 h,es5];decide⟩ λv Hy b7 L tv=>?_
    refine⟨by show 0<=sizeLine;decide,λlf hlf=>⟨v,.ref lf, "done",[],rfl,rfl,DD,.lst trivial B2 .nil,.inl ⟨rfl,tv.keep (Same.upd hlf)⟩,λH' s'=>⟨_,rfl,E2 ?_⟩⟩⟩
    exact⟨rfl,_,(L.same (Same.upd hlf)).same s',em5,ek5⟩
   rintro σ' H14 ⟨rfl,k6,S14,em6,ek6⟩
   refine @K1 W _ _ _ _ _ hW λW hW=>?_
   refine⟨fun σ' Hn=>σ'=[some (.ref a),some (.ref hd),some (.int ((m:Nat):Int)),some (.int sc),some (.int st),some (.ref p),some (.ref dc),some (.ref ll),some (.int sp),some vA,x10,x11,x12,x13,some vb,some vt]/\∃k7,LwE T.aa hd hl p d dc ll k7 kk.kws ls2 Hn/\k7.m=m/\k7.kws=k3.kws,?_,?_⟩
   ·refine⟨_,rfl,_,rfl,by show 1<=sizeLine;decide,λlt hlt=>?_⟩
    have gs:D7 k6.kws sp=some w2:=by rw[ek6,ek4,B6o,if_pos rfl]
    refine did (.lift sp) lt [.int sp] (S14.same (Same.upd hlt)) B2 (.cons (.int _) .nil) ⟨lsp,_,gs⟩ λv Hy b7 L tv=>?_
    refine⟨by show 0<=sizeLine;decide,λlf hlf=>⟨v,.ref lf, "done",[],rfl,rfl,DD,.lst trivial B2 .nil,.inl ⟨rfl,tv.keep (Same.upd hlf)⟩,λH' s'=>⟨_,rfl,E2 ?_⟩⟩⟩
    exact⟨rfl,_,(L.same (Same.upd hlf)).same s',em6,by show W9 k6.kws sp=_;rw[ek6,ek4];exact D64 nsp2⟩
   rintro σ' H15 ⟨rfl,k7,S15,em7,ek7⟩
   subst hW
   refine⟨_,rfl,_,rfl,_,rfl,ll,rfl,⟨_,SqL.of S15.el⟩,?_⟩
   have l2:ls2.length<=40:=by
    have:=pm2.length_eq
    rw[D6] at this
    lia
   have ndK:(C6 (ls2.map λx=>(x,(D7 kk.kws x).getD (0,0,0)))).Nodup:=by
    unfold C6
    rw[A1q,show (Prod.fst ∘ λx:Int=>(x,(D7 kk.kws x).getD (0,0,0)))=id from rfl,List.map_id]
    exact nd2
   refine A3y (xs:=ls2.map V.int) (λi ys Hn=>Same H15 Hn/\∃kvs,Z9 Hn ys kvs/\N8 Hn kvs ((ls2.take i).map λx=>(x,(D7 kk.kws x).getD (0,0,0)))) ?_ ⟨Same.refl _,[],.nil,.nil⟩ ?_ ?_ ?_
   ·rw[D6,sizeLine_eq];lia
   ·rintro i ys Hn hi ⟨sn,kvs,pr,kv⟩
    refine⟨?_,SqL.of (sn _ _ S15.el)⟩
    have h1:=pr.len
    have h2:=kv.len
    rw[D6,Z0] at h2
    lia
   ·rintro i x ys Hn hx ⟨sn,kvs,pr,kv⟩ ca
    rw[S0] at hx
    obtain⟨n,hn,rfl⟩:=A55.mp hx
    have hm2:=X1 hn
    obtain⟨w0,hw0⟩:∃w0,D7 kk.kws n=some w0:=by
     rw[<-gw2 n hm2]
     exact A1j (pm2.mem_iff.mpr hm2)
    obtain⟨kvd,ed,kvD⟩:=S15.dc.same sn
    rcases kvD.val n with ⟨_,z⟩ | ⟨v0,w1',hv,hw1,tv⟩
    ·rw[hw0] at z;cases z
    rw[hw0] at hw1
    cases hw1
    unfold A1z
    refine J0 ⟨_,rfl,_,rfl,_,rfl,dc,v0,rfl,by rw[<-hv];exact U6.k (k:=Sum.inl n) ed,by show 2<=sizeLine;decide,λt ht=>?_⟩
    have st:=Same.upd (o:=.tup [.int n,v0]) ht
    refine⟨sn.tr st,_,(pr.mv st).snoc B2,?_⟩
    rw[A54,hn,V3]
    refine (kv.mv λb xs e=>st _ _ e).snoc ?_
    show ThV TT0 _ v0 (M7 ((D7 kk.kws n).getD (0,0,0)))
    rw[hw0]
    exact (tv.keep st)
   rintro ys Hn ⟨sn,kvs,pr,kv⟩ lp hlp
   rw[D6,A71] at kv
   have sp1:=Same.upd (o:=.lst ys) hlp
   refine⟨lp,ys,kvs,rfl,B2,pr.mv sp1,kv.nodup ndK,?_,λdn hdn=>?_⟩
   ·rw[kv.len,D6,sizeLine_eq];lia
   have sp2:=Same.upd (o:=.dK kvs) hdn
   have SF:=((S15.same sn).same sp1).same sp2
   refine⟨_,p,d,dn,k7,_,by rw[em7];rfl,hF4 SF.hh,SF.kp,⟨kvs,B2,(kv.mv λb xs e=>sp1 _ _ e).mv λb xs e=>sp2 _ _ e⟩,λz=>?_,D66 SF.ok.nd (by rw[ek7];exact pm2) (by rw[ek7];exact gw2),SF.ok,SF.lo,λH' kp' fr'=>told H'⟩
   obtain⟨kvx,ex,_⟩:=((S15.same sn).same sp1).kp.dc
   rw[z,ex] at hdn;cases hdn
theorem all_mk {l:PySem.W.OpenLaw} {w:World} {K:A4} {h:Heap} {mg:Str->Option Value} {fa:Addr} (X:K.In h) (G:h.Ns mainGlobals mg) (hfa:mg "law" = some (.ref fa))
  (h0:FH K "is_whole" B4g)
  (h1:FH K "is_store" B4h)
  (h2:FH K "is_level" B4i)
  (h3:FH K "stepped" B4j)
  (h4:FH K "levels_along" B4k)
  (h5:FH K "is_place" B4l)
  (h6:FH K "is_change" B4m)
  (h7:FH K "is_way" B4n)
  (h8:FH K "turned_land" B0z)
  (h9:FH K "changes_of" B00)
  (h10:FH K "is_table" B01)
  (h11:FH K "is_more" B4o)
  (h12:FH K "behind_way" B4p)
  (h13:FH K "is_within" B4q)
  (h14:FH K "effect_of_none" B4r)
  (h15:FH K "effect_of_one" B4s)
  (h16:FH K "effect_of" B4t)
  (h17:FH K "passed" B4u)
  (h18:FH K "joined" B4v)
  (h19:FH K "first_row" B4w)
  (h20:FH K "row_behind" B4x)
  (h21:FH K "walk_to" B4y)
  (h22:FH K "behind_ways" B4z)
  (h23:FH K "behind_part" B40)
  (h24:FH K "end_of" B41)
  (h25:FH K "rows_from" B42)
  (h26:FH K "still_rises" B43)
  (h27:FH K "rising_walk" B02)
  (h28:FH K "parted_at_round" B03)
  (h29:FH K "parts_by" B44)
  (h30:FH K "filling_parts" B45)
  (h31:FH K "settled" B04)
  (h32:FH K "highest" B46)
  (h33:FH K "lacking" B05)
  (h34:FH K "least" B47)
  (h35:FH K "is_label" B48)
  (h36:FH K "places_below" B06)
  (h37:FH K "_law_hand" B5l)
  (h38:FH K "_law_next" B5m)
  (h39:FH K "_law_take" B5n)
  (h40:FH K "_law_draw" B5o)
  (h41:FH K "_law_scale" B5p)
  (h42:FH K "_law_change" B5q)
  (h43:FH K "_law_store" B5r)
  (h44:FH K "_law_table" B09)
  (h45:FH K "_law_less" B5s)
  (h46:FH K "_law_moved" A8v)
  (h47:FH K "_law_tried" B5t)
  (h48:FH K "_law_is" B1a)
  (h49:FH K "_law_stands" B1b)
  (h50:FH K "_law_kept" A8w)
  (h51:FH K "_law_bad" B1c)
  (h52:FH K "_law_laid" B5u)
  {f53:Addr} {od53 an53:Option Addr} {sl53:Array (Option Value)} {oc53 kV53 dc53 pm53 cd53 ct53:Value} (a53:T5 K mainGlobals "law" = some (some (.ref f53))) (l53:K.lookup f53=some ⟨oc53,od53,.func (A0n "law" "law" (A3x A00) (A0r A00) (B8 A00) .none kV53 dc53 pm53 an53 cd53 ct53),sl53⟩) (c53:A9i K cd53 "law" = true) (k53:j4 K (.ref f53)=true)
  (q_MANY:CH K "MANY" (.int 0))
  (q_WAYS:CH K "WAYS" (.int 1))
  (q_START:CH K "START" (.int 0))
  (q_END:CH K "END" (.int 1))
  (q_CHANGE:CH K "CHANGE" (.int 2))
  (q_MOST_WAYS:CH K "MOST_WAYS" (.int 40))
  (q_LEAST:CH K "LEAST" (.int 0))
  (q_GAIN:CH K "GAIN" (.int 1))
  (q_TOP:CH K "TOP" (.int 2))
  (q_TABLE:CH K "TABLE" (.int 0))
  (q_RISEN:CH K "RISEN" (.int 1))
  (q_FROM:CH K "FROM" (.int 0))
  (q_BY:CH K "BY" (.int 1))
  (q_NUMBERS:CH K "NUMBERS" (.int 0))
  (q_TIMES:CH K "TIMES" (.int 1))
  (zz:BN K ["abs", "all", "bool", "dict", "enumerate", "int", "isinstance", "len", "list", "max", "min", "range", "reversed", "sorted", "tuple"])
  (qal_highest_highest:AH K "highest" "highest_highest")
  (qal_least_least:AH K "least" "least_least")
  {af:Addr} (xa_TrudgeError:T5 K mainGlobals "TrudgeError" = some (some (.ref af)))
  {aG:Addr} (xa_BadLabel:T5 K mainGlobals "BadLabel" = some (some (.ref aG)))
  {bu:Addr} (xa_Taken:T5 K mainGlobals "Taken" = some (some (.ref bu)))
  {aX:Addr} (xa_BadWay:T5 K mainGlobals "BadWay" = some (some (.ref aX)))
  {aK:Addr} (xa_TooMany:T5 K mainGlobals "TooMany" = some (some (.ref aK)))
  {aW:Addr} (xa_NoWay:T5 K mainGlobals "NoWay" = some (some (.ref aW)))
  {aH:Addr} (xa_BadStore:T5 K mainGlobals "BadStore" = some (some (.ref aH)))
  {aQ:Addr} (xa_BadGoal:T5 K mainGlobals "BadGoal" = some (some (.ref aQ)))
  (xt:XTH K af)
  (y_Taken:XIH K af bu "Taken.__init__" "label" B4d)
  (y_TooMany:XIH K af aK "TooMany.__init__" "most" B4e)
  (y_NoWay:XIH K af aW "NoWay.__init__" "label" B4f)
  (y_BadLabel:XNH K af aG)
  (y_BadWay:XNH K af aX)
  (y_BadStore:XNH K af aH)
  (y_BadGoal:XNH K af aQ)
  (kits:KP K [aG,bu,aX,aK,aW,aH,aQ])
  {aa:Addr} (xa_Keeper:T5 K mainGlobals "Keeper" = some (some (.ref aa))) (kh:KH K aa) (kn:NN K aa ["many", "full", "wanted", "laid", "lowest"])
  (fC:MH K aa "__init__" "Keeper.__init__" B07)
  (fS:MH K aa "lay" "Keeper.lay" B49)
  (fD:MH K aa "lift" "Keeper.lift" B5a)
  (fE:MH K aa "turn" "Keeper.turn" B5b)
  (eF:MH K aa "refill" "Keeper.refill" B5c)
  (fT:MH K aa "aim" "Keeper.aim" B5d)
  (eQ:MH K aa "found" "Keeper.found" B5e)
  (eR:MH K aa "moved" "Keeper.moved" B5f)
  (fF:MH K aa "ways" "Keeper.ways" B5g)
  (eT:MH K aa "store" "Keeper.store" B5h)
  (fG:MH K aa "goal" "Keeper.goal" B5i)
  (fI:MH K aa "land" "Keeper.land" B08)
  (eU:MH K aa "least" "Keeper.least" B5j)
  (dP:MH K aa "highest" "Keeper.highest" B5k) :
  ∃fd:FuncData,(∀(s:Shared) (v:Value),BindsTo s fd ⟨[v],[]⟩ [("_law_script",v)])/\∀base:Heap,K.In base->base.Ns mainGlobals mg->B9 l.prog w K mg base CX0 13 fa fd ["_law_script"] (B11 K):=by
 have e:=hfa.symm.trans (w5 X G a53)
 cases e
 let ti:MT K aa "__init__" "Keeper.__init__" B07 ["self", "many", "store", "goal"]:=MT.c fC
 have Fl:=C6d (st:=A00) l53 c53 k53
 let T:Txt K mg:={
  ah:=FT.c X G h0,
  aI:=FT.c X G h1,
  bI:=FT.c X G h2,
  bq:=FT.c X G h3,
  aC:=FT.c X G h4,
  ay:=FT.c X G h5,
  ax:=FT.c X G h6,
  aZ:=FT.c X G h7,
  bb:=FT.c X G h8,
  aB:=FT.c X G h9,
  aj:=FT.c X G h10,
  bT:=FT.c X G h11,
  bz:=FT.c X G h12,
  bD:=FT.c X G h13,
  aJ:=FT.c X G h14,
  aM:=FT.c X G h15,
  bE:=FT.c X G h16,
  cm:=FT.c X G h17,
  cq:=FT.c X G h18,
  bF:=FT.c X G h19,
  bA:=FT.c X G h20,
  bU:=FT.c X G h21,
  be:=FT.c X G h22,
  bf:=FT.c X G h23,
  cr:=FT.c X G h24,
  aR:=FT.c X G h25,
  bg:=FT.c X G h26,
  bh:=FT.c X G h27,
  aE:=FT.c X G h28,
  bp:=FT.c X G h29,
  aN:=FT.c X G h30,
  bV:=FT.c X G h31,
  br:=FT.c X G h32,
  bB:=FT.c X G h33,
  bw:=FT.c X G h34,
  ak:=FT.c X G h35,
  aD:=FT.c X G h36,
  cR:=FT.c X G h37,
  bC:=FT.c X G h38,
  cS:=FT.c X G h39,
  ae:=FT.c X G h40,
  cH:=FT.c X G h41,
  cu:=FT.c X G h42,
  cI:=FT.c X G h43,
  cJ:=FT.c X G h44,
  cD:=FT.c X G h45,
  cK:=FT.c X G h46,
  aL:=FT.c X G h47,
  bW:=FT.c X G h48,
  bJ:=FT.c X G h49,
  cE:=FT.c X G h50,
  dw:=FT.c X G h51,
  cT:=FT.c X G h52,
  g_MANY:=CT.c X G q_MANY,
  g_WAYS:=CT.c X G q_WAYS,
  g_START:=CT.c X G q_START,
  g_END:=CT.c X G q_END,
  g_CHANGE:=CT.c X G q_CHANGE,
  g_MOST_WAYS:=CT.c X G q_MOST_WAYS,
  g_LEAST:=CT.c X G q_LEAST,
  g_GAIN:=CT.c X G q_GAIN,
  g_TOP:=CT.c X G q_TOP,
  g_TABLE:=CT.c X G q_TABLE,
  g_RISEN:=CT.c X G q_RISEN,
  g_FROM:=CT.c X G q_FROM,
  g_BY:=CT.c X G q_BY,
  g_NUMBERS:=CT.c X G q_NUMBERS,
  g_TIMES:=CT.c X G q_TIMES,
  gP:=j6 X G zz.1,
  gQ:=j6 X G zz.2.1,
  fX:=j6 X G zz.2.2.1,
  fY:=j6 X G zz.2.2.2.1,
  cX:=j6 X G zz.2.2.2.2.1,
  fm:=j6 X G zz.2.2.2.2.2.1,
  az:=j6 X G zz.2.2.2.2.2.2.1,
  bi:=j6 X G zz.2.2.2.2.2.2.2.1,
  bO:=j6 X G zz.2.2.2.2.2.2.2.2.1,
  ee:=j6 X G zz.2.2.2.2.2.2.2.2.2.1,
  eh:=j6 X G zz.2.2.2.2.2.2.2.2.2.2.1,
  bZ:=j6 X G zz.2.2.2.2.2.2.2.2.2.2.2.1,
  dr:=j6 X G zz.2.2.2.2.2.2.2.2.2.2.2.2.1,
  cF:=j6 X G zz.2.2.2.2.2.2.2.2.2.2.2.2.2.1,
  eG:=j6 X G zz.2.2.2.2.2.2.2.2.2.2.2.2.2.2.1,
  bX:=AH.of X G qal_highest_highest,
  ci:=AH.of X G qal_least_least,
  af:=af,de:=w5 X G xa_TrudgeError,
  aG:=aG,cY:=w5 X G xa_BadLabel,
  bu:=bu,dQ:=w5 X G xa_Taken,
  aX:=aX,cW:=w5 X G xa_BadWay,
  aK:=aK,du:=w5 X G xa_TooMany,
  aW:=aW,dR:=w5 X G xa_NoWay,
  aH:=aH,cZ:=w5 X G xa_BadStore,
  aQ:=aQ,dv:=w5 X G xa_BadGoal,
  x_Taken:=XT.c xt y_Taken,
  x_TooMany:=XT.c xt y_TooMany,
  x_NoWay:=XT.c xt y_NoWay,
  xc_BadLabel:=XN.of xt y_BadLabel,
  xc_BadWay:=XN.of xt y_BadWay,
  xc_BadStore:=XN.of xt y_BadStore,
  xc_BadGoal:=XN.of xt y_BadGoal,
  kits:=kits,
  aa:=aa,eM:=w5 X G xa_Keeper,ac:=kh.1,cf:=kn.1,cy:=kn.2.1,bQ:=kn.2.2.1,aF:=kn.2.2.2.1,bR:=kn.2.2.2.2.1,
  cG:=ti,eN:=⟨kh.2.1,ti.m.1,ti.m.2,kh.2.2⟩,
  bv:=MT.c fS,
  bG:=MT.c fD,
  bH:=MT.c fE,
  bj:=MT.c eF,
  cg:=MT.c fT,
  aA:=MT.c eQ,
  ai:=MT.c eR,
  bS:=MT.c fF,
  aT:=MT.c eT,
  bx:=MT.c fG,
  aY:=MT.c fI,
  aU:=MT.c eU,
  bP:=MT.c dP,
  fq:=⟨fa,_,Fl,hfa,Fl.binds (λ_ _ _ _ _ _ us hl=>by obtain⟨_,rfl⟩:=B4c hl;rfl)⟩ }
 exact⟨A0n "law" "law" (A3x A00) (A0r A00) (B8 A00) .none kV53 dc53 pm53 an53 cd53 ct53,λs v=>.of_eq rfl,λbase _ _=>D7b T⟩
end
theorem walk {l:PySem.W.OpenLaw} {q:Program} {loose:List Str} {XP:(Str->Option Value)->Heap->Prop} {YP:World->Heap->Prop} {d:DefRec} {K:Params->A4} (hn:l.most=some 63) (hdf:d.params.defaults=[])
  (hY:∀(w:World) (h:Heap),YP w h->(K w.params).In h)
  (F:∀(w:World) (mg:Str->Option Value) (fa:Addr) (h:Heap),(K w.params).In h->h.Ns mainGlobals mg->mg d.name=some (.ref fa)->
   ∃fd:FuncData,(∀(s:Shared) (u:Value),BindsTo s fd ⟨[u],[]⟩ [("_law_script",u)])/\∀base:Heap,(K w.params).In base->base.Ns mainGlobals mg->B9 l.prog w (K w.params) mg base CX0 13 fa fd ["_law_script"] (B11 (K w.params))) :
  PySem.W.WalkO q loose XP YP l.row.toRowW d [] (λf vs=>PySem.call f vs):=
 L2.walk_of (n:=63) (k:=13) (x:= "_law_script") (CX:=λ_=>CX0) (sp:=λw=>B11 (K w.params)) hn DD hdf ⟨rfl,DD,DD,rfl⟩ hY F (λ_ _ a ns hl _ hS=>⟨a,ns,rfl,hS,hl,λ_=>rfl⟩) λ_ _ _ _ _ z=>z
end My
open Lean in
local macro_rules|`(command|init_quot)=>do
 let mut b:Array Name:=#[`PySem.Challenge.pw_trudge_k94_refused_at_every_door,`PySem.Challenge.rw_trudge_k94_refused_at_every_door]
 for (s,x,n) in [("env_",41,1),("heap_",39,1),("heap_",46,1),("heap_",791,1),("o_",43,748),("sts_",49,1),("sts_",71,1),("sts_",93,1),("sts_",108,1),("sts_",130,1),("sts_",145,1),("sts_",167,1),("sts_",189,1),("sts_",204,1),("sts_",254,1),("sts_",320,1),("sts_",392,1),("sts_",468,1),("sts_",682,1),("sts_",767,1),("tree_",47,1),("tree_",70,1),("tree_",92,1),("tree_",107,1),("tree_",129,1),("tree_",144,1),("tree_",166,1),("tree_",188,1),("tree_",203,1),("tree_",253,1),("tree_",319,1),("tree_",391,1),("tree_",467,1),("tree_",593,1),("tree_",678,1),("tree_",766,1),("tree_",790,1),("view_",39,1)] do
  for i in [x:x+n] do
   b:=b.push ((`PySem.Challenge.cw_trudge_k94_refused_at_every_door_holds).str (s++toString i))
 let a<-b.mapM fun c=>`(command|theorem $(mkIdent ((`PySem.W.Fast).str ("tw"++toString c.hash))):ident:True:=trivial)
 return mkNullNode a
init_quot
open PySem PySem.W PyProof.Rows
set_option maxRecDepth 100000 in
set_option maxHeartbeats 0 in
theorem PySem.Challenge.cw_trudge_k94_refused_at_every_door_holds : PySem.Challenge.rw_trudge_k94_refused_at_every_door.Holds := by
 w_on;o_law;k_head;(case hw=>w_witness2)
 k_fill
 refine My.walk (l:=PySem.Challenge.rw_trudge_k94_refused_at_every_door) rfl rfl (λw h Y=>PySem.W.kIn_of Y) ?F
 case F=>
  intro w mg fa h KX G hmg
  refine' My.all_mk KX G hmg ?h0 ?h1 ?h2 ?h3 ?h4 ?h5 ?h6 ?h7 ?h8 ?h9 ?h10 ?h11 ?h12 ?h13 ?h14 ?h15 ?h16 ?h17 ?h18 ?h19 ?h20 ?h21 ?h22 ?h23 ?h24 ?h25 ?h26 ?h27 ?h28 ?h29 ?h30 ?h31 ?h32 ?h33 ?h34 ?h35 ?h36 ?h37 ?h38 ?h39 ?h40 ?h41 ?h42 ?h43 ?h44 ?h45 ?h46 ?h47 ?h48 ?h49 ?h50 ?h51 ?h52 ?a53 ?l53 ?c53 ?k53 ?q_MANY ?q_WAYS ?q_START ?q_END ?q_CHANGE ?q_MOST_WAYS ?q_LEAST ?q_GAIN ?q_TOP ?q_TABLE ?q_RISEN ?q_FROM ?q_BY ?q_NUMBERS ?q_TIMES ?zz ?qal_highest_highest ?qal_least_least ?xa_TrudgeError ?xa_BadLabel ?xa_Taken ?xa_BadWay ?xa_TooMany ?xa_NoWay ?xa_BadStore ?xa_BadGoal ?xt ?y_Taken ?y_TooMany ?y_NoWay ?y_BadLabel ?y_BadWay ?y_BadStore ?y_BadGoal ?kits ?xa_Keeper ?kh ?kn ?fC ?fS ?fD ?fE ?eF ?fT ?eQ ?eR ?fF ?eT ?fG ?fI ?eU ?dP
  (case a53=>k_is);(case l53=>k_is);(case c53=>k_is);(case k53=>k_is)
  (case q_MANY=>exact⟨_,by k_is⟩);(case q_WAYS=>exact⟨_,by k_is⟩);(case q_START=>exact⟨_,by k_is⟩);(case q_END=>exact⟨_,by k_is⟩);(case q_CHANGE=>exact⟨_,by k_is⟩);(case q_MOST_WAYS=>exact⟨_,by k_is⟩);(case q_LEAST=>exact⟨_,by k_is⟩);(case q_GAIN=>exact⟨_,by k_is⟩);(case q_TOP=>exact⟨_,by k_is⟩);(case q_TABLE=>exact⟨_,by k_is⟩);(case q_RISEN=>exact⟨_,by k_is⟩);(case q_FROM=>exact⟨_,by k_is⟩);(case q_BY=>exact⟨_,by k_is⟩);(case q_NUMBERS=>exact⟨_,by k_is⟩);(case q_TIMES=>exact⟨_,by k_is⟩)
  (case zz=>exact⟨by k_is,by k_is,by k_is,by k_is,by k_is,by k_is,by k_is,by k_is,by k_is,by k_is,by k_is,by k_is,by k_is,by k_is,by k_is,trivial⟩)
  (case qal_highest_highest=>exact⟨_,by k_is,by k_is⟩)
  (case qal_least_least=>exact⟨_,by k_is,by k_is⟩)
  (case xa_TrudgeError=>k_is)
  (case xa_BadLabel=>k_is)
  (case xa_Taken=>k_is)
  (case xa_BadWay=>k_is)
  (case xa_TooMany=>k_is)
  (case xa_NoWay=>k_is)
  (case xa_BadStore=>k_is)
  (case xa_BadGoal=>k_is)
  (case xt=>exact⟨_,_,_,_,_,_,_,_,by k_is,by k_is,rfl,by k_is,by k_is,by k_is,by k_is⟩)
  (case y_Taken=>exact⟨_,_,_,_,_,_,_,_,_,_,_,_,_,_,_,_,_,_,_,_,_,by k_is,by k_is,rfl,by k_is,by k_is,by k_is,by k_is,by k_is,by k_is,by k_is,by k_is,by k_is,by k_is,by k_is,by k_is,⟨_,_,_,_,_,_,_,_,_,rfl,by k_is,by k_is⟩,by k_is⟩)
  (case y_TooMany=>exact⟨_,_,_,_,_,_,_,_,_,_,_,_,_,_,_,_,_,_,_,_,_,by k_is,by k_is,rfl,by k_is,by k_is,by k_is,by k_is,by k_is,by k_is,by k_is,by k_is,by k_is,by k_is,by k_is,by k_is,⟨_,_,_,_,_,_,_,_,_,rfl,by k_is,by k_is⟩,by k_is⟩)
  (case y_NoWay=>exact⟨_,_,_,_,_,_,_,_,_,_,_,_,_,_,_,_,_,_,_,_,_,by k_is,by k_is,rfl,by k_is,by k_is,by k_is,by k_is,by k_is,by k_is,by k_is,by k_is,by k_is,by k_is,by k_is,by k_is,⟨_,_,_,_,_,_,_,_,_,rfl,by k_is,by k_is⟩,by k_is⟩)
  (case y_BadLabel=>exact⟨_,_,_,_,_,_,_,_,_,_,_,_,_,_,_,_,_,_,_,by k_is,by k_is,rfl,by k_is,by k_is,by k_is,by k_is,by k_is,by k_is,by k_is,by k_is,by k_is⟩)
  (case y_BadWay=>exact⟨_,_,_,_,_,_,_,_,_,_,_,_,_,_,_,_,_,_,_,by k_is,by k_is,rfl,by k_is,by k_is,by k_is,by k_is,by k_is,by k_is,by k_is,by k_is,by k_is⟩)
  (case y_BadStore=>exact⟨_,_,_,_,_,_,_,_,_,_,_,_,_,_,_,_,_,_,_,by k_is,by k_is,rfl,by k_is,by k_is,by k_is,by k_is,by k_is,by k_is,by k_is,by k_is,by k_is⟩)
  (case y_BadGoal=>exact⟨_,_,_,_,_,_,_,_,_,_,_,_,_,_,_,_,_,_,_,by k_is,by k_is,rfl,by k_is,by k_is,by k_is,by k_is,by k_is,by k_is,by k_is,by k_is,by k_is⟩)
  (case kits=>repeat' (first | exact trivial | exact⟨_,_,_,by k_is⟩ | exact⟨⟨by k_is,rfl⟩,by k_is,rfl⟩ | refine A1r ?_ ?_))
  (case xa_Keeper=>k_is);(case kh=>exact⟨⟨by k_is,by k_is,by k_is,by k_is⟩,by k_is,by k_is⟩);(case kn=>exact⟨by k_is,by k_is,by k_is,by k_is,by k_is,trivial⟩)
  all_goals try (exact⟨_,by k_is,by k_is,_,⟨_,_,_,_,_,_,_,_,_,rfl,by k_is,by k_is⟩,by k_is⟩)
  all_goals (exact⟨_,by k_is,_,⟨_,_,_,_,_,_,_,_,_,rfl,by k_is,by k_is⟩,by k_is⟩)
