import PyProof.Rows.All
import Wide.All
import OpenK.AllK
import Wide.FinOn
import Lean
import PyProof.EqAt
import PyProof.EqKinds
import PyProof.NeData
import PyProof.TupleCall
import KE.KRevIter
import KE.KRevSl
import PyProof.MinMaxWalk
import PyProof.ZipIter
import PyProof.Rows.Range3
import PyProof.Rows.CallKwBuiltin
import PyProof.DictWalks
import PyProof.ReprRoads
import PyProof.ReprLen
import PyProof.CallFns
import KE.KEqDict
import PyProof.P3In
import PyProof.MeetsDictList
import PyProof.Cells
import PyProof.Rows.SortWalk
import PySem.Challenge.RW_trudge_k86_whole_shares
set_option Elab.async false
set_option linter.all false
set_option maxRecDepth 100000
set_option genInjectivity false
set_option genSizeOf false
open _root_.PySem.W renaming Frag->A7,nsIn->G9,mg_of->P7,mg_none_of->W4,kitOne->b6,kia_one->f9,fnOf->A06,kitCls->A3h,keepIn->B42,codeIn->B44
open _root_.Or renaming inl->A8,inr->g4
open _root_.List renaming mem_cons_of_mem->A9,mem_cons_self->B2,length_map->C7,replicate->D9,length_cons->F3,length_append->F5,getElem?_eq_getElem->J6,mem_append->K7,range->L0,append_assoc->L1,mem_singleton->L9,size_toArray->M6,mem_cons->N2,mem_range->N9,getElem?_map->O7,length_set->O8,mem_map->O9,map_append->P6,append_nil->Q0,nil_append->Q1,mem_of_getElem?->Q8,mem_append_right->S1,replicate_succ->S2,length_take->T3,getElem?_set_ne->U2,map_cons->U4,length_range->U5,getElem?_append_right->X9,getElem?_eq_none->Y2,Perm->Y3,getElem?_append_left->b7,length_nil->c5,mem_append_left->f8,getElem?_set->g5,drop_eq_getElem_cons->g6,map_map->g7,take_append_drop->g8,map->g9,mem_filter->k0,length_replicate->k6,take_of_length_le->v5,map_take->v6,getElem?_eq_some_iff->A05,length_singleton->A07,pairwise_append->A09,drop_of_length_le->A1a,eq_nil_of_length_eq_zero->A1b,nodup_cons->A3e,flatten_cons->A3f,cons_append->A3j,getElem?_cons_succ->A3k,filter_cons_of_neg->A3l,drop_zero->A3m,perm_append_comm->A3n,findSome?_cons->A3o,length->A6b,any_cons->A6c,lookup_cons->A6d,mem_iff_getElem->A6e,length_reverse->A6f,filter_cons_of_pos->A6g,mem_reverse->A6j,set_cons_zero->A6k,length_drop->A70,ext_getElem?->A71,take_add_one->A72,find?_cons->A73,nodup_nil->A74,tail_cons->A75,tail_nil->A76,getElem?_cons_zero->A77,set_cons_succ->A78,replicate_zero->A8c,filterMap_cons->B0g,all_cons->B0k,idxOf_lt_length_iff->B0l,getElem?_range->B0m,pairwise_singleton->B0n,extract_eq_take_drop->B0p,mem_flatMap->B0r,getElem?_set_self->B41,getElem?_replicate->B43,foldl_cons->B45,Pairwise->B46,all_eq_true->B47,reverse_cons->B5a,length_zipIdx->B5b,getElem?_drop->B5c,take_zero->B5d,range_succ->B5i,flatMap_append->B5j,mem_filterMap->C1e,getElem_idxOf->C1i,set_append_right->C1k,mem_zipIdx_iff_getElem?->C1l,map_inj_right->C1n,pairwise_cons->C1o,getLast?_eq_some_iff->C1q,length_filter_le->C1t
open _root_.Nat renaming le_refl->D2,zero_le->L4,ne_of_lt->P4,lt_of_lt_of_le->Q7,le_trans->V5,lt_or_ge->c4,lt_irrefl->j9,min_eq_left->A08,le_succ->A3g,zero_add->A3i,le_of_lt->A6a,sub_self->A6h,ne_of_gt->B0h,lt_succ_of_lt->B49,add_assoc->B5f,pos_of_ne_zero->C1r
open _root_.PySem.Heap renaming lt_size->G3,get?_push_size->T2,get?_push_of_some->U3,get?_update_self->C1f,get?_update_other->C1g
open _root_.Bool renaming false_ne_true->G6,false_eq_true->M7,and_eq_true->k8,not_true->v8,not_false->A6i,eq_iff_iff->B0i,not_eq_true'->B48
open _root_.PySem.PassesOwn renaming never->M0
open _root_.Array renaming length_toList->P5,toList_push->T5,toList_append->W3,getElem?_toList->Y1,toList_extract->B0o,toList_reverse->B0q,getElem?_eq_getElem->C1j,getElem?_eq_none->C1m,size_setIfInBounds->C1p
open _root_.Int renaming le_trans->T4,le_of_lt->b8,le_refl->b9,toNat_natCast->k7,toNat->A8b,emod_nonneg->B5g,emod_lt_of_pos->B5h,natCast_nonneg->C1s
open _root_.PySem.F renaming plainAttrs_list->U6,slot_list_append->Y4,type_list_append->Y5,slot_list_index->C1h
open _root_.PySem.Obj renaming mapSeq->Y0
open _root_.Option renaming bind_some->A79,map_some->A8a,map_eq_some_iff->B5k
open _root_.PySem renaming mem_of_lookup->B0j
open _root_.Classical renaming byContradiction->B5e
namespace L2
open PySem PySem.Spec PyProof.Rows
theorem el3 {α β γ:Type} {R T K:α->β->γ->Prop} {p:Prop} (h:∃a b c,R a b c/\T a b c/\K a b c) (f:∀a b c,R a b c->T a b c->K a b c->p):p:=h.elim fun a h=>h.elim fun b h=>h.elim fun c h=>f a b c h.1 h.2.1 h.2.2
theorem el5 {α β:Type} {R T K:α->β->Prop} {p:Prop} (h:∃a b,R a b/\T a b/\K a b) (f:∀a b,R a b->T a b->K a b->p):p:=h.elim fun a h=>h.elim fun b h=>f a b h.1 h.2.1 h.2.2
theorem el2 {α:Type} {A B:α->Prop} {p:Prop} (h:∃a,A a/\B a) (f:∀a,A a->B a->p):p:=h.elim fun a h=>f a h.1 h.2
abbrev Key:=Sum Int Str
def A3p:Key->Value->Bool
 | .inl k,v=>Value.isInt k v
 | .inr x,v=>Value.isStrOf x v
def C1u (w:World):Key->Int
 | .inl k=>hashInt k
 | .inr x=>hashStr w x
theorem k9:∀{k:Key} {v:Value},A3p k v=true->(∃i t,k=Sum.inl i/\v=Value.int i t)\/(∃x t,k=Sum.inr x/\v=Value.str x t)
 | .inl i,v,h=>by
  obtain⟨t,e⟩:=Value.isInt_shape (k:=i) (v:=v) h
  exact .inl ⟨i,t,rfl,e⟩
 | .inr x,v,h=>by
  obtain⟨t,e⟩:=Value.isStrOf_shape (x:=x) (v:=v) h
  exact .inr ⟨x,t,rfl,e⟩
theorem C1v (i:Int) (t:Tok):A3p (.inl i) (.int i t)=true:=by simp [A3p,Value.isInt]
theorem C1w (x:Str) (t:Tok):A3p (.inr x) (.str x t)=true:=by simp [A3p,Value.isStrOf]
theorem C1x (a b:Int):decide ((Sum.inl a:Key)=Sum.inl b)=(a == b):=by
 by_cases e:a=b
 ·subst e;simp
 ·have h:¬ (Sum.inl a:Key)=Sum.inl b:=fun q=>e (Sum.inl.inj q)
  rw[decide_eq_false h]
  exact (beq_eq_false_iff_ne.mpr e).symm
theorem C1y (a b:Str):decide ((Sum.inr a:Key)=Sum.inr b)=decide (a=b):=by
 by_cases e:a=b
 ·subst e;simp
 ·have h:¬ (Sum.inr a:Key)=Sum.inr b:=fun q=>e (Sum.inr.inj q)
  rw[decide_eq_false h,decide_eq_false e]
theorem C1z (a:Int) (b:Str):decide ((Sum.inl a:Key)=Sum.inr b)=false:=decide_eq_false (fun q=>nomatch q)
theorem C10 (a:Str) (b:Int):decide ((Sum.inr a:Key)=Sum.inl b)=false:=decide_eq_false (fun q=>nomatch q)
def U7 (prog:Program) (w:World):PySem.KeyKind prog w Key where
 is:=A3p
 hash:=C1u w
 inj:=fun v a b ha hb=>by
  rcases k9 ha with ⟨i,t,rfl,rfl⟩ | ⟨x,t,rfl,rfl⟩
  ·rcases k9 hb with ⟨j,u,rfl,e⟩ | ⟨y,u,rfl,e⟩
   ·injection e with e1 _;rw[e1]
   ·exact nomatch e
  ·rcases k9 hb with ⟨j,u,rfl,e⟩ | ⟨y,u,rfl,e⟩
   ·exact nomatch e
   ·injection e with e1 _;rw[e1]
 byValue:=fun k v h=>by
  rcases k9 h with ⟨i,t,rfl,rfl⟩ | ⟨x,t,rfl,rfl⟩ <;> rfl
 pyHash:=fun hv h=>by
  rcases k9 hv with ⟨i,t,rfl,rfl⟩ | ⟨x,t,rfl,rfl⟩
  ·exact wpAny_pyHash_int h
  ·exact wpAny_pyHash_str h
 eqBool:=fun hu hv h=>by
  rcases k9 hu with ⟨i,t,rfl,rfl⟩ | ⟨x,t,rfl,rfl⟩
  ·rcases k9 hv with ⟨j,u,rfl,rfl⟩ | ⟨y,u,rfl,rfl⟩
   ·rw[C1x] at h;exact wpAny_eqBool_int h
   ·rw[C1z] at h;exact SeqAt.EqAt.int_str i t y u _ _ _ _ h
  ·rcases k9 hv with ⟨j,u,rfl,rfl⟩ | ⟨y,u,rfl,rfl⟩
   ·rw[C10] at h;exact SeqAt.EqAt.str_int x t j u _ _ _ _ h
   ·rw[C1y] at h;exact wpAny_eqBool_str h
 «strs»:=fun k x t v h=>by
  rcases k9 h with ⟨i,u,rfl,e⟩ | ⟨y,u,rfl,e⟩
  ·exact nomatch e
  ·injection e with e1 _
   subst e1
   cases v <;> rfl
theorem C11 (prog:Program) (w:World) (i:Int) (t:Tok):(U7 prog w).is (.inl i) (.int i t)=true:=C1v i t
theorem C12 (prog:Program) (w:World) (x:Str) (t:Tok):(U7 prog w).is (.inr x) (.str x t)=true:=C1w x t
set_option genInjectivity true in
inductive V where
 | non | bl (b:Bool) | int (i:Int) | str (x:Str) | byt (b:Array UInt8) | flt (b:UInt64) | ref (a:Addr) | ty (n:String)
 deriving DecidableEq
def D8:V->Value->Prop
 | .non,u=>u=Value.none
 | .bl b,u=>u=Value.bool b
 | .int i,u=>∃t,u=Value.int i t
 | .str x,u=>∃t,u=Value.str x t
 | .byt b,u=>∃t,u=Value.bytes b t
 | .flt b,u=>∃t,u=Value.float b t
 | .ref a,u=>u=Value.ref a
 | .ty n,u=>u=Value.type n
abbrev C3:List V->List Value->Prop:=Paired D8
theorem C3.length {xs:List V} {us:List Value} (r:C3 xs us):xs.length=us.length:=Paired.length r
theorem C3.get:∀{xs:List V} {us:List Value} {i:Nat} {x:V},C3 xs us->xs[i]?=some x->∃u,us[i]?=some u/\D8 x u
 | _,_,_,_,.nil,e=>by simp at e
 | _,_,0,_,.cons r _,e=>by simp at e;subst e;exact⟨_,rfl,r⟩
 | _,_,i + 1,x,.cons _ t,e=>by
  obtain⟨u,h1,h2⟩:=C3.get (i:=i) (x:=x) t (by simpa using e)
  exact⟨u,by simpa using h1,h2⟩
theorem C3.set {x:V} {u:Value} (r:D8 x u):∀{xs:List V} {us:List Value} (i:Nat),C3 xs us->C3 (xs.set i x) (us.set i u)
 | _,_,_,.nil=>.nil
 | _,_,0,.cons _ t=>.cons r t
 | _,_,i + 1,.cons q t=>.cons q (C3.set r i t)
theorem C3.append {xs ys:List V} {us ws:List Value} (h:C3 xs us) (s:C3 ys ws):C3 (xs++ys) (us++ws):=by
 induction h with
 | nil=>exact s
 | cons r t ih=>exact .cons r ih
theorem C3.take:∀{xs:List V} {us:List Value} (n:Nat),C3 xs us->C3 (xs.take n) (us.take n)
 | _,_,0,_=>.nil
 | _,_,_ + 1,.nil=>.nil
 | _,_,n + 1,.cons r t=>.cons r (C3.take n t)
theorem C3.drop:∀{xs:List V} {us:List Value} (n:Nat),C3 xs us->C3 (xs.drop n) (us.drop n)
 | _,_,0,r=>r
 | _,_,_ + 1,.nil=>.nil
 | _,_,n + 1,.cons _ t=>C3.drop n t
def A1c:Option V->Option Value->Prop
 | some v,some u=>D8 v u
 | none,none=>True
 | _,_=>False
def KV {κ:Type}:List (κ×V)->List (κ×Value)->Prop:=Paired fun (p:κ×V) (q:κ×Value)=>p.1=q.1/\D8 p.2 q.2
def kV:Key->V
 | .inl i=>.int i
 | .inr x=>.str x
inductive HO where
 | lst (xs:List V)
 | tup (xs:List V)
 | dK (kvs:List (Key×V)) | dT (kvs:List (List Key×V))
 | set (S:Int->Bool) (n:Nat)
 | ins (C dx:Addr) (fs:List (Str×V))
 | own (x:Addr)
 | xd (fs:List (Str×V))
 | met (f x:Addr)
 | rng (lo hi:Int)
 | frz (o:Obj) (u:HO)
 | tbl (ps:Array Value)
 | ext (φ:Heap->Prop)
abbrev Hp:=Addr->Option HO
def upd (H:Hp) (a:Addr) (o:HO):Hp:=fun b=>if b=a then some o else H b
theorem E7 {H:Hp} {a:Addr} {o:HO}:upd H a o a=some o:=by unfold upd;rw[if_pos rfl]
theorem B6 {H:Hp} {a b:Addr} {o:HO} (h:b≠a):upd H a o b=H b:=by unfold upd;rw[if_neg h]
theorem A8d {H:Hp} {a b:Addr} {o u:HO} (h:H a=some o) (h':H b=some u) (d:o≠u):a≠b:=by
 intro e;subst e;rw[h] at h';exact d (Option.some.inj h')
theorem W5 {H:Hp} {a b:Addr} {o:HO} (h:H a=some o) (h':H b=none):a≠b:=by
 intro e;subst e;rw[h] at h';cases h'
section
variable (P:Program) (w:World)
def J1 (H:Hp) (h:Heap) (a:Addr):HO->Prop
 | .lst xs=>xs.length<=sizeLine/\∃(its:List Value) (n:Nat),C3 xs its/\h.get? a=some { cls:=.type "list",data:=.seq its.toArray n }
 | .tup xs=>xs.length<=sizeLine/\∃its:List Value,C3 xs its/\IsTup h a its.toArray
 | .dK kvs=>kvs.length<=sizeLine/\(a == sysModules)=false/\∃vs,KV kvs vs/\h.DictOf (U7 P w) a vs
 | .dT kvs=>kvs.length<=sizeLine/\(a == sysModules)=false/\∃xs:List (List Key×Addr×Value),
   Paired (fun (p:List Key×V) (q:List Key×Addr×Value)=>p.1=q.1/\H q.2.1=some (.tup (p.1.map kV))/\D8 p.2 q.2.2) kvs xs/\
   ∃o es ep,h.get? a=some o/\o.ExactDict/\o.data=.dict es ep/\es.toList=xs.map (entryOfKey (tupleKind (U7 P w)))/\(xs.map (·.1)).Nodup
 | .set S n=>h.SetOf (intKind P w) a S n
 | .ins C dx fs=>H dx=some (.own a)/\fs.length<=1000/\dx≠a/\h.get? a=some (PySem.W.instObj C dx)/\
   ∃mA,h.Ns1 dx mA/\(∀f,A1c (fs.lookup f) (mA f))/\PySem.Within mA (fs.map (·.1))
 | .own _=>∃o,h.get? a=some o
 | .xd fs=>∃mA,h.Ns1 a mA/\∀f,A1c (fs.lookup f) (mA f)
 | .rng lo hi=>∃t u v,h.get? a=some { cls:=.type "range",data:=.fields #[.int lo t,.int hi u,.int 1 v] }
 | .frz o u=>h.get? a=some o/\J1 H h a u
 | .tbl ps=>h.get? a=some { cls:=.none,data:=.fields ps }
 | .met f x=>h.get? a=some (PySem.W.methodObj (.ref f) (.ref x))
 | .ext φ=>φ h/\(∃o,h.get? a=some o)/\∀h1 h2:Heap,φ h1->(∀o,h1.get? a=some o->h2.get? a=some o)->φ h2
def HOk (H:Hp) (h:Heap):Prop:=∀a o,H a=some o->J1 P w H h a o
end
section
variable {P:Program} {w:World} {H H':Hp} {h h':Heap} {a:Addr} {o:HO}
theorem J1.lt (x:J1 P w H h a o):a < h.objs.size:=by
 cases o with
 | lst xs=>obtain⟨_,_,_,_,e⟩:=x;exact G3 e
 | tup xs=>obtain⟨_,_,_,p⟩:=x;exact p.lt
 | dK kvs=>obtain⟨_,_,_,_,o,_,_,e,_⟩:=x;exact G3 e
 | dT kvs=>obtain⟨_,_,_,_,o,_,_,e,_⟩:=x;exact G3 e
 | set S n=>obtain⟨o,_,_,_,e,_⟩:=x;exact G3 e
 | ins C dx fs=>obtain⟨_,_,_,e,_⟩:=x;exact G3 e
 | own y=>obtain⟨_,e⟩:=x;exact G3 e
 | xd fs=>obtain⟨_,⟨_,_,_,e,_⟩,_⟩:=x;exact G3 e
 | rng lo hi=>obtain⟨_,_,_,e⟩:=x;exact G3 e
 | frz ob u=>obtain⟨e,_⟩:=x;exact G3 e
 | tbl ps=>exact G3 (show h.get? a=some _ from x)
 | met f y=>exact G3 (show h.get? a=some _ from x)
 | ext φ=>obtain⟨_,⟨_,e⟩,_⟩:=x;exact G3 e
theorem Paired.mapP {α β:Type} {F G:α->β->Prop} {l₁:List α} {l₂:List β} (h:Paired F l₁ l₂) (f:∀a b,F a b->G a b):Paired G l₁ l₂:=by
 induction h with
 | nil=>exact .nil
 | cons r t ih=>exact .cons (f _ _ r) ih
theorem J1.stay (x:J1 P w H h a o) (k:∀b u,(b=a\/H b=some (.own a))->h.get? b=some u->h'.get? b=some u)
  (ho:∀b,H b=some (.own a)->H' b=some (.own a)) (ht:∀b xs,H b=some (.tup xs)->H' b=some (.tup xs)):J1 P w H' h' a o:=by
 induction o with
 | lst xs=>obtain⟨z,its,n,r,e⟩:=x;exact⟨z,its,n,r,k _ _ (.inl rfl) e⟩
 | tup xs=>obtain⟨z,its,r,ob,e,c⟩:=x;exact⟨z,its,r,ob,k _ _ (.inl rfl) e,c⟩
 | dK kvs=>obtain⟨z,y,vs,r,ob,es,ep,e,c⟩:=x;exact⟨z,y,vs,r,ob,es,ep,k _ _ (.inl rfl) e,c⟩
 | dT kvs=>
  obtain⟨z,y,xs,r,ob,es,ep,e,c⟩:=x
  exact⟨z,y,xs,Paired.mapP r fun p q z=>⟨z.1,ht _ _ z.2.1,z.2.2⟩,ob,es,ep,k _ _ (.inl rfl) e,c⟩
 | set S n=>obtain⟨ob,es,ep,t,e,c⟩:=x;exact⟨ob,es,ep,t,k _ _ (.inl rfl) e,c⟩
 | ins C dx fs=>
  obtain⟨d,z,ne,e,mA,⟨od,es,ep,e2,c⟩,r⟩:=x
  exact⟨ho _ d,z,ne,k _ _ (.inl rfl) e,mA,⟨od,es,ep,k _ _ (.inr d) e2,c⟩,r⟩
 | own y=>obtain⟨ob,e⟩:=x;exact⟨ob,k _ _ (.inl rfl) e⟩
 | xd fs=>obtain⟨mA,⟨od,es,ep,e,c⟩,r⟩:=x;exact⟨mA,⟨od,es,ep,k _ _ (.inl rfl) e,c⟩,r⟩
 | rng lo hi=>obtain⟨t,u,v,e⟩:=x;exact⟨t,u,v,k _ _ (.inl rfl) e⟩
 | frz ob u ih=>obtain⟨e,q⟩:=x;exact⟨k _ _ (.inl rfl) e,ih q⟩
 | tbl ps=>
  have e:h.get? a=some { cls:=.none,data:=.fields ps }:=x
  show h'.get? a=some { cls:=.none,data:=.fields ps }
  exact k a _ (.inl rfl) e
 | met f y=>
  have e:h.get? a=some (PySem.W.methodObj (.ref f) (.ref y)):=x
  show h'.get? a=some (PySem.W.methodObj (.ref f) (.ref y))
  exact k a _ (.inl rfl) e
 | ext φ=>obtain⟨p,⟨o,e⟩,st⟩:=x;exact⟨st _ _ p fun o q=>k _ _ (.inl rfl) q,⟨o,k _ _ (.inl rfl) e⟩,st⟩
theorem HOk.lt (x:HOk P w H h) (e:H a=some o):a < h.objs.size:=(x a o e).lt
theorem HOk.fresh (x:HOk P w H h) (e:h.objs.size<=a):H a=none:=by
 cases q:H a with
 | none=>rfl
 | some u=>exact absurd (Q7 (x.lt q) e) (j9 _)
theorem HOk.kept (x:HOk P w H h) (k:∀b u,h.get? b=some u->h'.get? b=some u):HOk P w H h':=fun a o e=>
 (x a o e).stay (fun b u _ q=>k b u q) (fun _ q=>q) fun _ _ q=>q
theorem HOk.laid (x:HOk P w H h) (k:∀b u,h.get? b=some u->h'.get? b=some u) (hp:h.objs.size<=a) (new:J1 P w (upd H a o) h' a o):HOk P w (upd H a o) h':=fun b u e=>by
 have hn:=x.fresh hp
 by_cases hb:b=a
 ·subst hb;rw[E7] at e;cases e;exact new
 ·rw[B6 hb] at e
  exact (x b u e).stay (fun c v _ q=>k c v q) (fun c q=>by rw[B6 (W5 q hn)];exact q) fun c xs q=>by rw[B6 (W5 q hn)];exact q
end
def Rd (H:Hp) (a:Addr) (u:HO):Prop:=H a=some u\/∃o,H a=some (.frz o u)
theorem Rd.ok {P:Program} {w:World} {H:Hp} {h:Heap} {a:Addr} {u:HO} (r:Rd H a u) (x:HOk P w H h):J1 P w H h a u:=by
 rcases r with r | ⟨o,r⟩
 ·exact x a u r
 ·obtain⟨_,q⟩:=x a _ r
  exact q
def Mut:Option HO->Prop
 | some (.lst _)=>True
 | some (.dK _)=>True
 | some (.dT _)=>True
 | some (.set _ _)=>True
 | some (.ins _ _ _)=>True
 | some (.ext _)=>True
 | _=>False
section
variable {P:Program} {w:World} {H:Hp} {h h':Heap} {x e:Addr} {o':HO}
theorem HOk.write (ok:HOk P w H h) (mu:Mut (H x)) (he:e=x\/H e=some (.own x)) (k:∀b u,b≠e->h.get? b=some u->h'.get? b=some u) (heo:∃u,h'.get? e=some u)
  (new:J1 P w (upd H x o') h' x o'):HOk P w (upd H x o') h':=fun b u q=>by
 have nown:∀c y,H c=some (.own y)->c≠x:=fun c y r z=>by subst z;rw[r] at mu;exact mu
 have ntup:∀c xs,H c=some (.tup xs)->c≠x:=fun c xs r z=>by subst z;rw[r] at mu;exact mu
 by_cases hb:b=x
 ·subst hb;rw[E7] at q;cases q;exact new
 ·rw[B6 hb] at q
  by_cases hbe:b=e
  ·have q':H b=some (.own x):=by
    rcases he with z | z
    ·exact absurd (hbe.trans z) hb
    ·rw[hbe];exact z
   rw[q] at q';cases q'
   obtain⟨v,hv⟩:=heo
   exact⟨v,by rw[hbe];exact hv⟩
  ·refine (ok b u q).stay (fun c v hc r=>k c v ?_ r) (fun c r=>by rw[B6 (nown c b r)];exact r) fun c xs r=>by rw[B6 (ntup c xs r)];exact r
   rcases hc with rfl | hc
   ·exact hbe
   ·rintro rfl
    rcases he with z | z
    ·exact nown c b hc z
    ·rw[hc] at z;cases z;exact hb rfl
end
structure Un (fs ex:List Addr) (H H':Hp) (h h':Heap):Prop where
 keep:∀b o,h.get? b=some o->H b=none->b∉fs->b∉ex->h'.get? b=some o
 slot:∀b o,h.get? b=some o->H b=none->b∈fs->b∉ex->∃sl,h'.get? b=some { o with slots:=sl }
 free:∀b o,h.get? b=some o->H b=none->b∉ex->H' b=none
 there:∀b o,h.get? b=some o->b∉ex->∃o',h'.get? b=some o'
 tups:∀b xs,H b=some (.tup xs)->H' b=some (.tup xs)
 frzs:∀b o u,H b=some (.frz o u)->H' b=some (.frz o u)
 tbls:∀b ps,H b=some (.tbl ps)->∃more,H' b=some (.tbl (ps++more))
section
variable {fs fs' ex ex':List Addr} {H H1 H2:Hp} {h h1 h2 h':Heap} {a x e:Addr} {o:HO}
theorem Un.any (u:Un fs ex H H1 h h1) {b:Addr} {ob:Obj} (q:h.get? b=some ob) (n:H b=none) (hx:b∉ex):∃sl,h1.get? b=some { ob with slots:=sl }:=by
 by_cases hb:b∈fs
 ·exact u.slot b ob q n hb hx
 ·exact⟨ob.slots,u.keep b ob q n hb hx⟩
theorem Un.kept (k:∀b u,h.get? b=some u->h'.get? b=some u):Un fs ex H H h h':=
 ⟨fun b ob q _ _ _=>k b ob q,fun b ob q _ _ _=>⟨ob.slots,k b ob q⟩,fun _ _ _ n _=>n,fun b ob q _=>⟨ob,k b ob q⟩,fun _ _ q=>q,fun _ _ _ q=>q,fun _ ps q=>⟨#[],by rw[q];simp⟩⟩
theorem Un.refl:Un fs ex H H h h:=Un.kept fun _ _ q=>q
theorem Un.laid (k:∀b u,h.get? b=some u->h'.get? b=some u) (hp:h.objs.size<=a) (hn:H a=none):Un fs ex H (upd H a o) h h' where
 keep:=fun b u q _ _ _=>k b u q
 slot:=fun b u q _ _ _=>⟨u.slots,k b u q⟩
 free:=fun b u q n _=>by rw[B6 (P4 (Q7 (G3 q) hp))];exact n
 there:=fun b u q _=>⟨u,k b u q⟩
 tups:=fun b xs q=>by rw[B6 (W5 q hn)];exact q
 frzs:=fun b u xs q=>by rw[B6 (W5 q hn)];exact q
 tbls:=fun b ps q=>⟨#[],by rw[B6 (W5 q hn),q];simp⟩
theorem Un.write (mu:Mut (H x)) (he:e=x\/H e=some (.own x)) (k:∀b u,b≠e->h.get? b=some u->h'.get? b=some u) (heo:∃u,h'.get? e=some u):Un fs ex H (upd H x o) h h':=by
 have hx:∀b,H b=none->b≠x:=fun b n z=>by subst z;rw[n] at mu;exact mu
 have hb:∀b,H b=none->b≠e:=fun b n z=>by
  subst z
  rcases he with r | r
  ·exact hx b n r
  ·rw[n] at r;cases r
 have hm:∀b u,H b=some u->¬ Mut (some u)->b≠x:=fun b u q nm z=>by subst z;rw[q] at mu;exact nm mu
 refine⟨fun b u q n _ _=>k b u (hb b n) q,fun b u q n _ _=>⟨u.slots,k b u (hb b n) q⟩,fun b u q n _=>by rw[B6 (hx b n)];exact n,fun b u q _=>?_,
  fun b xs q=>by rw[B6 (hm b _ q fun z=>z)];exact q,fun b u xs q=>by rw[B6 (hm b _ q fun z=>z)];exact q,fun b ps q=>⟨#[],by rw[B6 (hm b _ q fun z=>z),q];simp⟩⟩
 by_cases hbe:b=e
 ·subst hbe;exact heo
 ·exact⟨u,k b u hbe q⟩
end
def trk (h:Heap) (H:Hp):List Addr:=(L0 h.objs.size).filter fun a=>(H a).isSome
def l3 (h:Heap) (H:Hp):Heap:=PySem.W.hideAll h (trk h H)
theorem C13 (h:Heap) (H:Hp):(l3 h H).objs.size=h.objs.size:=PySem.W.hideAll_size _ _
theorem C14 {h:Heap} {H:Hp} {b:Addr} {o:Obj} (e:h.get? b=some o) (n:H b=none):(l3 h H).get? b=some o:=
 PySem.W.hideAll_get _ e fun hm=>by
  have q:(H b).isSome=true:=(k0.mp hm).2
  rw[n] at q;simp at q
theorem C15 {h:Heap} {H:Hp} {b:Addr} {o:Obj} (e:(l3 h H).get? b=some o):h.get? b=some o/\H b=none:=by
 have e':h.get? b=some o:=PySem.W.of_hideAll (trk h H) e
 refine⟨e',?_⟩
 cases q:H b with
 | none=>rfl
 | some x=>
  have hm:b∈trk h H:=k0.mpr ⟨N9.mpr (G3 e'),by simp [q]⟩
  have z:(l3 h H).get? b=none:=PySem.W.hideAll_none (trk h H) hm
  rw[z] at e;cases e
def C16 (g h:Heap) (L:Addr):List (Addr×Obj):=(L0 h.objs.size).filterMap fun a=>if a=L\/(g.get? a).isSome=true then none else (h.get? a).map fun o=>(a,o)
def M1 (g h:Heap) (L d:Addr):List (Addr×Obj):=(C16 g h L).filter fun p=>decide (p.1≠d)
structure Mod (K:A7) (mg:Str->Option Value) (base:Heap):Prop where
 kin:K.In base
 glob:base.Ns mainGlobals mg
 blt:∃mb,base.Ns builtinsNs mb/\∀x:Str,x≠ "__name__" ->mb x=bootBuiltins x
 nolimit:base.NoLimit
structure Cx where
 prog:Program
 w:World
 K:A7
 mg:Str->Option Value
 base:Heap
 A:Around
 N:List Str
 s₀:Shared
 H₀:Hp
 env:Env
 outer:List Env
 stack:List Env
 ex:List Addr
 fn:Str->Bool
 calm:Bool
 pn:List (Addr×Obj)
 xe:Value->Shared->Prop
def frs (l:List Env):List Addr:=l.filterMap (·.frame)
abbrev Cx.fs (X:Cx):List Addr:=frs X.outer
def Vis (sc:Scope) (x:Str):Prop:=sc.names.lookup x=some .local\/sc.names.lookup x=some .cell\/sc.names.lookup x=some .free
def Loc (sc:Scope) (x:Str):Prop:=sc.names.lookup x=some .local\/sc.names.lookup x=some .cell
def B5l (env:Env) (h:Heap) (m:Str->Option Value) (x:Str) (u:Value):Prop:=
 (env.kindOf x=some .local/\m x=some u)\/((env.kindOf x=some .cell\/env.kindOf x=some .free)/\∃c,env.cells.lookup x=some c/\h.IsCell c (some u))
structure Cx.Ok (X:Cx):Prop where
 mod:Mod X.K X.mg X.base
 kind:X.env.scope.kind=.function
 glob:X.env.globals=mainGlobals
 blt:X.env.builtins=builtinsNs
 above:X.s₀.heap.objs.size<=X.env.locals
 inj:∀x y c,X.env.cells.lookup x=some c->X.env.cells.lookup y=some c->x=y
 has:∀x,(X.env.kindOf x=some .cell\/X.env.kindOf x=some .free)->∃c,X.env.cells.lookup x=some c
 cab:∀x c,X.fn x=true->X.env.cells.lookup x=some c->X.s₀.heap.objs.size<=c
 hd:X.calm=true->X.A.handled=none
 frames:X.A.frames=some X.stack
 stk:X.stack=X.outer\/(X.stack=X.env::X.outer/\X.env.frame=some X.env.locals)
 exf:∀b∈X.ex,b≠X.env.locals/\∀x c,X.env.cells.lookup x=some c->c≠b
 bs:∀b o,X.base.get? b=some o->X.s₀.heap.get? b=some o/\X.H₀ b=none
 bsz:X.base.objs.size<=X.s₀.heap.objs.size
 noex:∀b o,X.base.get? b=some o->b∉X.ex
 exfs:∀b∈X.ex,b∉X.fs
 funs:X.s₀.heap.FunFrames X.base X.outer
 frf:∀b∈X.fs,X.H₀ b=none
structure Inv (X:Cx) (pins:List (Addr×Obj)) (σ:List (Option V)) (H:Hp) (s:Shared):Prop where
 ok:X.Ok
 os:s.os=X.s₀.os
 bare:AllBare s.gens
 base:Un X.fs X.ex X.H₀ H X.s₀.heap s.heap
 loc:∃m,s.heap.Ns X.env.locals m/\∀(i:Nat) (x:Str) (v:V),X.N[i]?=some x->σ[i]?=some (some v)->Vis X.env.scope x->∃u,D8 v u/\B5l X.env s.heap m x u
 cell:∀x c,X.env.cells.lookup x=some c->∃v,s.heap.IsCell c v
 free:H X.env.locals=none
 freeC:∀x c,X.env.cells.lookup x=some c->H c=none
 pin:∀p∈X.pn++pins,s.heap.get? p.1=some p.2/\H p.1=none/\p.1≠X.env.locals/\p.1∉X.fs/\∀v,p.2.data≠.cell v
 hok:HOk X.prog X.w H s.heap
 len:σ.length=X.N.length
section
variable {X:Cx} {pins:List (Addr×Obj)} {σ:List (Option V)} {H H':Hp} {s:Shared} {h':Heap}
theorem Cx.Ok.nofr (ok:X.Ok) {b:Addr} {o:Obj} (e:X.base.get? b=some o):b∉X.fs:=fun hb=>by
 have:=(ok.funs.mem hb).1
 rw[e] at this;cases this
theorem Inv.bs (I:Inv X pins σ H s):∀b o,X.base.get? b=some o->s.heap.get? b=some o/\H b=none:=fun b o e=>
 ⟨I.base.keep b o (I.ok.bs b o e).1 (I.ok.bs b o e).2 (I.ok.nofr e) (I.ok.noex b o e),I.base.free b o (I.ok.bs b o e).1 (I.ok.bs b o e).2 (I.ok.noex b o e)⟩
theorem Inv.bk (I:Inv X pins σ H s):∀b o,X.base.get? b=some o->s.heap.get? b=some o:=fun b o e=>(I.bs b o e).1
theorem Inv.mod (I:Inv X pins σ H s):Mod X.K X.mg X.base:=I.ok.mod
theorem Inv.kIn (I:Inv X pins σ H s):X.K.In s.heap:=I.ok.mod.kin.keeps I.bk
theorem Inv.lt (I:Inv X pins σ H s):X.env.locals < s.heap.objs.size:=let ⟨_,hn,_⟩:=I.loc;hn.lt
theorem Inv.sz (I:Inv X pins σ H s):X.s₀.heap.objs.size<=s.heap.objs.size:=V5 I.ok.above (A6a I.lt)
theorem Inv.nofs (I:Inv X pins σ H s) {a:Addr} (h:s.heap.objs.size<=a):a∉X.fs:=fun hb=>by
 obtain⟨_,o,ho,_⟩:=I.ok.funs.mem hb
 exact absurd (Q7 (G3 ho) (V5 I.sz h)) (j9 _)
theorem Inv.cne (I:Inv X pins σ H s):∀x c,X.env.cells.lookup x=some c->c≠X.env.locals:=fun x c e z=>by
 obtain⟨v,o,ho,hd⟩:=I.cell x c e
 obtain⟨m,⟨o',es,ep,ho',hd',_⟩,_⟩:=I.loc
 rw[z,ho'] at ho;cases ho;rw[hd'] at hd;cases hd
theorem Inv.funs (I:Inv X pins σ H s):s.heap.FunFrames X.base X.outer:=by
 have all:∀(l:List Env),(∀b∈frs l,b∈X.fs)->X.s₀.heap.FunFrames X.base l->s.heap.FunFrames X.base l:=by
  intro l
  induction l with
  | nil=>intro _ _;trivial
  | cons env r ih=>
   intro hs hl
   obtain⟨hk,⟨L,o,hf,hn,ho,hd⟩,hr⟩:=hl
   have hL:L∈X.fs:=hs L (by unfold frs;rw[B0g,hf];exact B2)
   obtain⟨sl,e⟩:=I.base.slot L o ho (I.ok.frf L hL) hL fun z=>I.ok.exfs L z hL
   exact⟨hk,⟨L,_,hf,hn,e,hd⟩,ih (fun b hb=>hs b (by unfold frs;rw[B0g,hf];exact A9 _ hb)) hr⟩
 exact all X.outer (fun _ hb=>hb) I.ok.funs
theorem Inv.stack (I:Inv X pins σ H s):s.heap.FunFrames X.base X.stack:=by
 rcases I.ok.stk with e | ⟨e,hf⟩
 ·rw[e];exact I.funs
 ·rw[e]
  obtain⟨m,hn,_⟩:=I.loc
  refine .cons (by rw[I.ok.kind];decide) hf hn ?_ I.funs
  exact Heap.get?_none_of_le (V5 I.ok.bsz I.ok.above)
theorem Inv.stkSub (I:Inv X pins σ H s):∀b∈frs X.stack,b∈X.env.locals::X.fs:=fun b hb=>by
 rcases I.ok.stk with e | ⟨e,hf⟩
 ·rw[e] at hb;exact A9 _ hb
 ·rw[e] at hb
  unfold frs at hb
  rw[B0g,hf] at hb
  exact hb
theorem Inv.stkFree (I:Inv X pins σ H s):∀b∈frs X.stack,H b=none:=fun b hb=>by
 rcases N2.mp (I.stkSub b hb) with e | hb
 ·rw[e];exact I.free
 ·obtain⟨_,o,ho,_⟩:=I.ok.funs.mem hb
  exact I.base.free b o ho (I.ok.frf b hb) fun z=>I.ok.exfs b z hb
theorem Inv.step {g':Array GenState} {t':Nat} {d':Drawn} {ch:List Addr} (I:Inv X pins σ H s)
  (hch:∀b∈ch,(b∈X.ex\/X.s₀.heap.objs.size<=b)/\b≠X.env.locals/\(∀x c,X.env.cells.lookup x=some c->c≠b)/\∀p∈X.pn++pins,p.1≠b)
  (keep:∀b o,b≠X.env.locals->b∉X.fs->b∉ch->s.heap.get? b=some o->H b=none->h'.get? b=some o)
  (slot:∀b o,b≠X.env.locals->b∈X.fs->b∉ch->s.heap.get? b=some o->H b=none->∃sl,h'.get? b=some { o with slots:=sl }) (free:∀b o,b∉ch->s.heap.get? b=some o->H b=none->H' b=none)
  (there:∀b o,b∉ch->s.heap.get? b=some o->∃o',h'.get? b=some o')
  (tups:∀b xs,H b=some (.tup xs)->H' b=some (.tup xs)) (frzs:∀b o u,H b=some (.frz o u)->H' b=some (.frz o u)) (tbls:∀b ps,H b=some (.tbl ps)->∃more,H' b=some (.tbl (ps++more)))
  (ns:∀m,s.heap.Ns X.env.locals m->h'.Ns X.env.locals m) (hok:HOk X.prog X.w H' h') (hg:AllBare g') :
  Inv X pins σ H' { s with heap:=h',gens:=g',drawn:=d',toks:=t' }:=by
 have neL:∀b o,X.s₀.heap.get? b=some o->b≠X.env.locals:=fun b o e=>P4 (Q7 (G3 e) I.ok.above)
 have neC:∀b o,X.s₀.heap.get? b=some o->b∉X.ex->b∉ch:=fun b o e hx hb=>by
  rcases (hch b hb).1 with z | z
  ·exact hx z
  ·exact absurd (Q7 (G3 e) z) (j9 _)
 have cellK:∀x c,X.env.cells.lookup x=some c->∀v,s.heap.IsCell c v->h'.IsCell c v:=fun x c e v zz1=>el2 zz1 fun o ho hd=>by
  have nch:c∉ch:=fun z=>(hch c z).2.2.1 x c e rfl
  by_cases hc:c∈X.fs
  ·obtain⟨sl,q⟩:=slot c o (I.cne x c e) hc nch ho (I.freeC x c e)
   exact⟨_,q,hd⟩
  ·exact⟨o,keep c o (I.cne x c e) hc nch ho (I.freeC x c e),hd⟩
 refine⟨I.ok,I.os,hg,⟨fun b o e n hb hx=>?_,fun b o e n hb hx=>?_,fun b o e n hx=>?_,fun b o e hx=>?_,fun b xs e=>tups b xs (I.base.tups b xs e),fun b o xs e=>frzs b o xs (I.base.frzs b o xs e),fun b ps e=>?_⟩,?_,fun x c e=>?_,?_,fun x c e=>?_,fun p hp=>?_,hok,I.len⟩
 ·exact keep b o (neL b o e) hb (neC b o e hx) (I.base.keep b o e n hb hx) (I.base.free b o e n hx)
 ·obtain⟨sl,e1⟩:=I.base.slot b o e n hb hx
  obtain⟨sl',e2⟩:=slot b _ (neL b o e) hb (neC b o e hx) e1 (I.base.free b o e n hx)
  exact⟨sl',e2⟩
 ·obtain⟨o',e1⟩:=I.base.there b o e hx
  exact free b o' (neC b o e hx) e1 (I.base.free b o e n hx)
 ·obtain⟨o',e1⟩:=I.base.there b o e hx
  exact there b o' (neC b o e hx) e1
 ·obtain⟨m1,e1⟩:=I.base.tbls b ps e
  obtain⟨m2,e2⟩:=tbls b _ e1
  exact⟨m1++m2,by rw[e2,Array.append_assoc]⟩
 ·obtain⟨m,hn,hl⟩:=I.loc
  refine⟨m,ns m hn,fun i x v e1 e2 e3=>?_⟩
  obtain⟨u,r,l⟩:=hl i x v e1 e2 e3
  refine⟨u,r,?_⟩
  rcases l with l | ⟨k,c,e,z⟩
  ·exact .inl l
  ·exact .inr ⟨k,c,e,cellK x c e _ z⟩
 ·obtain⟨v,z⟩:=I.cell x c e
  exact⟨v,cellK x c e v z⟩
 ·obtain⟨m,⟨o,_,_,ho,_⟩,_⟩:=I.loc
  exact free _ o (fun z=>(hch _ z).2.1 rfl) ho I.free
 ·obtain⟨v,o,ho,hd⟩:=I.cell x c e
  exact free c o (fun z=>(hch c z).2.2.1 x c e rfl) ho (I.freeC x c e)
 ·obtain⟨e,n,ne,nf,d⟩:=I.pin p hp
  have nch:p.1∉ch:=fun z=>(hch p.1 z).2.2.2 p hp rfl
  exact⟨keep p.1 p.2 ne nf nch e n,free p.1 p.2 nch e n,ne,nf,d⟩
theorem Inv.un {t':Nat} (I:Inv X pins σ H s) (u:Un X.fs [] H H' s.heap h') (hok:HOk X.prog X.w H' h'):Inv X pins σ H' { s with heap:=h',toks:=t' }:=by
 obtain⟨m,⟨o,es,ep,ho,r⟩,_⟩:=id I.loc
 obtain⟨sl,hL⟩:=u.any ho I.free (by simp)
 exact I.step (g':=s.gens) (d':=s.drawn) (ch:=[]) (fun _ z=>nomatch z) (fun b o _ hb _ e n=>u.keep b o e n hb (by simp)) (fun b o _ hb _ e n=>u.slot b o e n hb (by simp)) (fun b o _ e n=>u.free b o e n (by simp)) (fun b o _ e=>u.there b o e (by simp)) u.tups u.frzs u.tbls (fun m' hm=>by
  obtain⟨o',es',ep',ho',r'⟩:=hm
  rw[ho] at ho';cases ho'
  exact⟨_,es',ep',hL,r'⟩) hok I.bare
theorem Inv.call {g':Array GenState} {t':Nat} {d':Drawn} {ch:List Addr} (I:Inv X pins σ H s) (u:Un (frs X.stack) ch H H' s.heap h') (hok:HOk X.prog X.w H' h') (hg:AllBare g')
  (hch:∀b∈ch,(b∈X.ex\/X.s₀.heap.objs.size<=b)/\b≠X.env.locals/\(∀x c,X.env.cells.lookup x=some c->c≠b)/\∀p∈X.pn++pins,p.1≠b) :
  Inv X pins σ H' { s with heap:=h',gens:=g',drawn:=d',toks:=t' }:=by
 obtain⟨m,⟨o,es,ep,ho,r⟩,_⟩:=id I.loc
 obtain⟨sl,hL⟩:=u.any ho I.free fun z=>(hch _ z).2.1 rfl
 exact I.step (ch:=ch) hch (fun b o hL hb hc e n=>u.keep b o e n (fun z=>(N2.mp (I.stkSub b z)).elim hL hb) hc) (fun b o _ _ hc e n=>u.any e n hc) (fun b o hc e n=>u.free b o e n hc) (fun b o hc e=>u.there b o e hc) u.tups u.frzs u.tbls (fun m' hm=>by
  obtain⟨o',es',ep',ho',r'⟩:=hm
  rw[ho] at ho';cases ho'
  exact⟨_,es',ep',hL,r'⟩) hok hg
theorem Inv.turned {t':Nat} {it:Addr} (I:Inv X pins σ H s) (k:∀b o,b≠it->s.heap.get? b=some o->h'.get? b=some o) (hn:H it=none) (hL:it≠X.env.locals)
  (h1:it∈X.ex\/X.s₀.heap.objs.size<=it) (h2:∀x c,X.env.cells.lookup x=some c->c≠it) (h3:∀p∈X.pn++pins,p.1≠it):Inv X pins σ H { s with heap:=h',toks:=t' }:=by
 have nit:∀b u,H b=some u->b≠it:=fun b u e z=>by rw[z,hn] at e;cases e
 refine I.step (g':=s.gens) (d':=s.drawn) (ch:=[it]) (fun b hb=>?_) (fun b o _ _ hc e _=>k b o (fun z=>hc (by simp [z])) e) (fun b o _ _ hc e _=>⟨o.slots,k b o (fun z=>hc (by simp [z])) e⟩) (fun _ _ _ _ n=>n)
  (fun b o hc e=>⟨o,k b o (fun z=>hc (by simp [z])) e⟩) (fun _ _ e=>e) (fun _ _ _ e=>e) (fun b ps e=>⟨#[],by rw[e];simp⟩) (fun m hm=>?_) (fun b u e=>?_) I.bare
 ·have e:b=it:=by simpa using hb
  subst e
  exact⟨h1,hL,h2,h3⟩
 ·obtain⟨o,es,ep,ho,r⟩:=hm
  exact⟨o,es,ep,k _ o (Ne.symm hL) ho,r⟩
 ·refine (I.hok b u e).stay (fun c v hc q=>k c v ?_ q) (fun _ q=>q) fun _ _ q=>q
  rcases hc with z | z
  ·rw[z];exact nit b u e
  ·exact nit c _ z
theorem Inv.tok (I:Inv X pins σ H s) (t:Nat):Inv X pins σ H { s with toks:=t }:=I.un (h':=s.heap) (t':=t) Un.refl I.hok
theorem Inv.kept {t':Nat} (I:Inv X pins σ H s) (k:∀b u,s.heap.get? b=some u->h'.get? b=some u):Inv X pins σ H { s with heap:=h',toks:=t' }:=I.un (Un.kept k) (I.hok.kept k)
theorem Inv.laid {a:Addr} {o:HO} {t':Nat} (I:Inv X pins σ H s) (k:∀b u,s.heap.get? b=some u->h'.get? b=some u) (hp:s.heap.objs.size<=a) (new:J1 X.prog X.w (upd H a o) h' a o) :
  Inv X pins σ (upd H a o) { s with heap:=h',toks:=t' }:=I.un (Un.laid k hp (I.hok.fresh hp)) (I.hok.laid k hp new)
theorem Inv.write {x e:Addr} {o:HO} {t':Nat} (I:Inv X pins σ H s) (mu:Mut (H x)) (he:e=x\/H e=some (.own x)) (k:∀b u,b≠e->s.heap.get? b=some u->h'.get? b=some u) (heo:∃u,h'.get? e=some u)
  (new:J1 X.prog X.w (upd H x o) h' x o):Inv X pins σ (upd H x o) { s with heap:=h',toks:=t' }:=I.un (Un.write mu he k heo) (I.hok.write mu he k heo new)
theorem Inv.weak {σ':List (Option V)} (I:Inv X pins σ H s) (hl:σ'.length=σ.length) (w:∀(i:Nat) v,σ'[i]?=some (some v)->σ[i]?=some (some v)):Inv X pins σ' H s:=
 ⟨I.ok,I.os,I.bare,I.base,let ⟨m,hn,hl'⟩:=I.loc;⟨m,hn,fun i x v e1 e2 e3=>hl' i x v e1 (w i v e2) e3⟩,I.cell,I.free,I.freeC,I.pin,I.hok,hl.trans I.len⟩
theorem Inv.pins_of {pins':List (Addr×Obj)} (I:Inv X pins σ H s) (h:∀p∈pins',s.heap.get? p.1=some p.2/\H p.1=none/\p.1≠X.env.locals/\p.1∉X.fs/\∀v,p.2.data≠.cell v):Inv X pins' σ H s:=
 ⟨I.ok,I.os,I.bare,I.base,I.loc,I.cell,I.free,I.freeC,fun p hp=>(K7.mp hp).elim (fun z=>I.pin p (f8 _ z)) (h p),I.hok,I.len⟩
theorem A8e {N:List Str} (hN:N.Nodup) {i j:Nat} {x:Str} (a:N[i]?=some x) (b:N[j]?=some x):i=j:=by
 obtain⟨h1,e1⟩:=A05.mp a
 obtain⟨h2,e2⟩:=A05.mp b
 exact (List.getElem_inj hN).mp (e1.trans e2.symm)
theorem B5m {M:Model} {A:Around} {E:Value->Shared->Prop} {i:Nat} {x:Str} {v:V} {u:Value} {Q:Unit->Shared->Prop} (I:Inv X pins σ H s) (hN:X.N.Nodup) (hi:X.N[i]?=some x) (hx:Loc X.env.scope x) (r:D8 v u)
  (h:∀s',Inv X pins (σ.set i (some v)) H s'->(∃a,Heap.SameBut a s.heap s'.heap/\(a=X.env.locals\/X.env.cells.lookup x=some a))->Q () s') (hf:X.fn x=true\/X.env.scope.names.lookup x=some .local:=by first | exact .inl rfl | exact .inr rfl | assumption):wpAny M A (storeName X.env x u) Q E s:=by
 obtain⟨m,hn,hl⟩:=id I.loc
 have hcls:(X.env.scope.kind == .class||(X.env.scope.kind == .module&&X.env.locals != X.env.globals))=false:=by rw[I.ok.kind];rfl
 have hiσ:i < σ.length:=by rw[I.len];exact (A05.mp hi).1
 have cne:=I.cne
 have tracked:∀{a:Addr} {h':Heap},(∃o,s.heap.get? a=some o/\H a=none)->Heap.SameBut a s.heap h'->HOk X.prog X.w H h':=fun {a h'} ha hs b ob e=>by
  obtain⟨_,_,hfree⟩:=ha
  refine (I.hok b ob e).stay (fun c w' hc q=>(hs.2 c ?_).trans q) (fun _ q=>q) fun _ _ q=>q
  rintro rfl
  rcases hc with rfl | hc
  ·rw[hfree] at e;cases e
  ·rw[hfree] at hc;cases hc
 rcases hx with hk | hk
 ·refine wpAny_storeName_local hk hn (fun h' hn' hs=>?_) hcls
  obtain⟨oL,_,_,hoL,_⟩:=id hn
  refine h _ ⟨I.ok,I.os,I.bare,⟨fun b o e n hb hx=>?_,fun b o e n hb hx=>?_,I.base.free,fun b o e hx=>?_,I.base.tups,I.base.frzs,I.base.tbls⟩,⟨_,hn',fun j y v' e1 e2 e3=>?_⟩,fun y c e=>?_,I.free,I.freeC,fun p hp=>?_,tracked ⟨oL,hoL,I.free⟩ hs,by simpa using I.len⟩ ⟨_,hs,.inl rfl⟩
  ·exact (hs.2 b (P4 (Q7 (G3 e) I.ok.above))).trans (I.base.keep b o e n hb hx)
  ·obtain⟨sl,e1⟩:=I.base.slot b o e n hb hx
   exact⟨sl,(hs.2 b (P4 (Q7 (G3 e) I.ok.above))).trans e1⟩
  ·obtain⟨o',e1⟩:=I.base.there b o e hx
   exact⟨o',(hs.2 b (P4 (Q7 (G3 e) I.ok.above))).trans e1⟩
  ·by_cases hj:j=i
   ·subst hj
    rw[hi] at e1;cases e1
    rw[B41 hiσ] at e2
    cases e2
    exact⟨u,r,.inl ⟨hk,by simp⟩⟩
   ·rw[U2 (Ne.symm hj)] at e2
    obtain⟨u',r',q⟩:=hl j y v' e1 e2 e3
    refine⟨u',r',?_⟩
    rcases q with ⟨k,e⟩ | ⟨k,c,e,z⟩
    ·refine .inl ⟨k,?_⟩
     have:y≠x:=fun e=>hj (A8e hN e1 (e▸hi))
     simp [this,e]
    ·exact .inr ⟨k,c,e,z.sameBut hs (cne y c e)⟩
  ·obtain⟨w',z⟩:=I.cell y c e
   exact⟨w',z.sameBut hs (cne y c e)⟩
  ·obtain⟨e,n,ne,nf,d⟩:=I.pin p hp
   exact⟨(hs.2 p.1 ne).trans e,n,ne,nf,d⟩
 ·have hfn:X.fn x=true:=by
   rcases hf with z | z
   ·exact z
   ·rw[z] at hk;cases hk
  obtain⟨c,hc⟩:=I.ok.has x (.inl hk)
  obtain⟨w',z⟩:=I.cell x c hc
  refine wpAny_storeName_cell I.ok.kind hk hc z (fun h' hc' hs=>?_)
  obtain⟨oc,hoc,hocd⟩:=id z
  refine h { s with heap:=h' } ⟨I.ok,I.os,I.bare,⟨fun b o e n hb hx=>?_,fun b o e n hb hx=>?_,I.base.free,fun b o e hx=>?_,I.base.tups,I.base.frzs,I.base.tbls⟩,⟨m,hn.sameBut hs (Ne.symm (cne x c hc)),fun j y v' e1 e2 e3=>?_⟩,fun y c' e=>?_,I.free,I.freeC,fun p hp=>?_,tracked ⟨oc,hoc,I.freeC x c hc⟩ hs,by simpa using I.len⟩ ⟨c,hs,.inr hc⟩
  ·exact (hs.2 b (P4 (Q7 (G3 e) (I.ok.cab x c hfn hc)))).trans (I.base.keep b o e n hb hx)
  ·obtain⟨sl,e1⟩:=I.base.slot b o e n hb hx
   exact⟨sl,(hs.2 b (P4 (Q7 (G3 e) (I.ok.cab x c hfn hc)))).trans e1⟩
  ·obtain⟨o',e1⟩:=I.base.there b o e hx
   exact⟨o',(hs.2 b (P4 (Q7 (G3 e) (I.ok.cab x c hfn hc)))).trans e1⟩
  ·by_cases hj:j=i
   ·subst hj
    rw[hi] at e1;cases e1
    rw[B41 hiσ] at e2
    cases e2
    exact⟨u,r,.inr ⟨.inl hk,c,hc,hc'⟩⟩
   ·rw[U2 (Ne.symm hj)] at e2
    obtain⟨u',r',q⟩:=hl j y v' e1 e2 e3
    refine⟨u',r',?_⟩
    rcases q with q | ⟨k,c',e,z'⟩
    ·exact .inl q
    ·refine .inr ⟨k,c',e,z'.sameBut hs ?_⟩
     rintro rfl
     exact hj (A8e hN e1 (I.ok.inj _ _ _ e hc▸hi))
  ·by_cases hcc:c'=c
   ·subst hcc;exact⟨_,hc'⟩
   ·obtain⟨w2,z2⟩:=I.cell y c' e
    exact⟨w2,z2.sameBut hs hcc⟩
  ·obtain⟨e,n,ne,nf,d⟩:=I.pin p hp
   refine⟨(hs.2 p.1 ?_).trans e,n,ne,nf,d⟩
   intro q
   rw[q,hoc] at e
   have q':oc=p.2:=Option.some.inj e
   exact d w' (by rw[<-q'];exact hocd)
theorem B0s {M:Model} {A:Around} {E:Value->Shared->Prop} {i:Nat} {x:Str} {v:V} {u:Value} {Q:Unit->Shared->Prop} (I:Inv X pins σ H s) (hN:X.N.Nodup) (hi:X.N[i]?=some x) (hx:Loc X.env.scope x) (r:D8 v u)
  (h:∀s',Inv X pins (σ.set i (some v)) H s'->Q () s') (hf:X.fn x=true\/X.env.scope.names.lookup x=some .local:=by first | exact .inl rfl | exact .inr rfl | assumption):wpAny M A (storeName X.env x u) Q E s:=
 B5m I hN hi hx r (fun s' I' _=>h s' I') hf
theorem Inv.call' {s':Shared} {ch:List Addr} (I:Inv X pins σ H s) (ho:s'.os=s.os) (u:Un (frs X.stack) ch H H' s.heap s'.heap) (hok:HOk X.prog X.w H' s'.heap) (hg:AllBare s'.gens)
  (hch:∀b∈ch,(b∈X.ex\/X.s₀.heap.objs.size<=b)/\b≠X.env.locals/\(∀x c,X.env.cells.lookup x=some c->c≠b)/\∀p∈X.pn++pins,p.1≠b):Inv X pins σ H' s':=by
 obtain⟨h',g',d',t',o'⟩:=s'
 have e:o'=s.os:=ho
 subst e
 exact I.call (g':=g') (t':=t') (d':=d') u hok hg hch
end
abbrev XK:=Value->Option Addr->Hp->Prop
abbrev St:=List (Option V)
abbrev VK:=V->Hp->Prop
abbrev TE:=St->Hp->VK->Prop
abbrev TT:=St->Hp->(Bool->Hp->Prop)->Prop
abbrev TA:=St->Hp->(List V->Hp->Prop)->Prop
structure l4 where
 nx:St->Hp->Prop
 rt:VK
 bk:St->Hp->Prop:=fun _ _=>False
 ct:St->Hp->Prop:=fun _ _=>False
abbrev TS:=l4->St->Hp->Prop
def EP (X:Cx) (pins:List (Addr×Obj)) (σ:St) (Q:VK) (u:Value) (s':Shared):Prop:=∃v H',Inv X pins σ H' s'/\D8 v u/\Q v H'
def TP (X:Cx) (pins:List (Addr×Obj)) (σ:St) (Q:Bool->Hp->Prop) (b:Bool) (s':Shared):Prop:=∃H',Inv X pins σ H' s'/\Q b H'
def AP (X:Cx) (pins:List (Addr×Obj)) (σ:St) (Q:List V->Hp->Prop) (us:List Value) (s':Shared):Prop:=∃vs H',Inv X pins σ H' s'/\C3 vs us/\Q vs H'
def SP (X:Cx) (pins:List (Addr×Obj)) (D:l4) (f:Flow) (s':Shared):Prop:=
 match f with
 | .next=>∃σ' H',Inv X pins σ' H' s'/\D.nx σ' H'
 | .brk=>∃σ' H',Inv X pins σ' H' s'/\D.bk σ' H'
 | .cont=>∃σ' H',Inv X pins σ' H' s'/\D.ct σ' H'
 | .ret u=>∃v σ' H',Inv X pins σ' H' s'/\D8 v u/\D.rt v H'
def PE (X:Cx) (e:Expr) (t:TE):Prop:=
 ∀(pins:List (Addr×Obj)) (s:Shared) (σ:St) (H:Hp) (Q:VK),Inv X pins σ H s->t σ H Q->wpAny (model X.prog X.w) X.A (eval e X.env) (EP X pins σ Q) X.xe s
def PT (X:Cx) (e:Expr) (t:TT):Prop:=
 ∀(pins:List (Addr×Obj)) (s:Shared) (σ:St) (H:Hp) (Q:Bool->Hp->Prop),Inv X pins σ H s->t σ H Q->wpAny (model X.prog X.w) X.A (isTrue e X.env (eval e X.env)) (TP X pins σ Q) X.xe s
def PW (X:Cx) (e:Expr) (t:TT):Prop:=
 ∀(whole:Sem Value) (pins:List (Addr×Obj)) (s:Shared) (σ:St) (H:Hp) (Q:Bool->Hp->Prop),Inv X pins σ H s->t σ H Q->wpAny (model X.prog X.w) X.A (isTrue e X.env whole) (TP X pins σ Q) X.xe s
theorem PW.pt {X:Cx} {e:Expr} {t:TT} (h:PW X e t):PT X e t:=h _
def PA (X:Cx) (es:List Expr) (t:TA):Prop:=
 ∀(pos:Pos) (pins:List (Addr×Obj)) (s:Shared) (σ:St) (H:Hp) (Q:List V->Hp->Prop),Inv X pins σ H s->t σ H Q->wpAny (model X.prog X.w) X.A (spliced (backTo pos (starEach es X.env))) (AP X pins σ Q) X.xe s
def PS (X:Cx) (st:Stmt) (t:TS):Prop:=
 ∀(pins:List (Addr×Obj)) (s:Shared) (σ:St) (H:Hp) (D:l4),Inv X pins σ H s->t D σ H->wpAny (model X.prog X.w) X.A (exec st X.env) (SP X pins D) X.xe s
def PSs (X:Cx) (st:List Stmt) (t:TS):Prop:=
 ∀(pins:List (Addr×Obj)) (s:Shared) (σ:St) (H:Hp) (D:l4),Inv X pins σ H s->t D σ H->wpAny (model X.prog X.w) X.A (execs st X.env) (SP X pins D) X.xe s
theorem thn {α:Type} {t:Sem α} {Q Q':α->Shared->Prop} {M:Model} {A:Around} {E:Value->Shared->Prop} {s:Shared} (h:wpAny M A t Q E s) (hQ:∀a s,Q a s->Q' a s):wpAny M A t Q' E s:=wpAny_mono h hQ fun _ _ x=>x
section
variable {X:Cx}
def Q2 (i:Nat):TE:=fun σ H Q=>∃v,σ[i]?=some (some v)/\Q v H
def tC (v:V):TE:=fun _ H Q=>Q v H
theorem C17 {i:Nat} {x:Str} {pos:Pos} (hN:X.N[i]?=some x) (hv:Vis X.env.scope x) (hd:(x == ("__debug__" : Str))=false:=by decide) (hcd:(x == ("__classdict__" : Str))=false:=by decide):PE X (.Name x pos) (Q2 i):=by
 intro pins s σ H Q I h
 obtain⟨v,e,h⟩:=h
 obtain⟨m,hn,hl⟩:=I.loc
 obtain⟨u,r,l⟩:=hl i x v hN e hv
 have fin:EP X pins σ Q u s:=⟨v,H,I,r,h⟩
 rcases l with ⟨hk,hm⟩ | ⟨hk,c,hc,hcell⟩
 ·exact wpAny_Name (wpAny_loadName_local I.ok.kind hk hn hm fin) hd
 ·rcases hk with hk | hk
  ·exact wpAny_Name (wpAny_loadName_cell I.ok.kind hk hc hcell fin) hd
  ·exact wpAny_Name (wpAny_loadName_free I.ok.kind hk hc hcell fin hcd) hd
theorem C8 {i j pos}:PE X (.Constant (.int i) j pos) (tC (.int i)):=fun _ _ _ H _ I h=>wpAny_Constant_int ⟨.int i,H,I.tok _,⟨_,rfl⟩,h⟩
theorem B0t {b j pos}:PE X (.Constant (.bool b) j pos) (tC (.bl b)):=fun _ _ _ H _ I h=>Constant_bool ⟨.bl b,H,I,rfl,h⟩
theorem B5n {j pos}:PE X (.Constant .none j pos) (tC .non):=fun _ _ _ H _ I h=>Constant_none ⟨.non,H,I,rfl,h⟩
theorem A8f {x j pos}:PE X (.Constant (.str x) j pos) (tC (.str x)):=fun _ _ _ H _ I h=>Calls.Constant_str ⟨.str x,H,I.tok _,⟨_,rfl⟩,h⟩
def Gl (X:Cx) (x:Str):Prop:=X.env.kindOf x=some .globalImplicit
theorem B5o {E:Value->Shared->Prop} {pins:List (Addr×Obj)} {s:Shared} {σ:St} {H:Hp} {x:Str} {u:Value} {pos:Pos} {Q:Value->Shared->Prop} (I:Inv X pins σ H s) (hg:Gl X x) (hm:X.mg x=some u) (h:Q u s)
  (hd:(x == ("__debug__" : Str))=false:=by decide):wpAny (model X.prog X.w) X.A (eval (.Name x pos) X.env) Q E s:=
 Calls.Name_function_global I.ok.kind hg (Calls.loadGlobal_global (by rw[I.ok.glob];exact I.mod.glob.keeps I.bk) hm h) hd
theorem w5 {E:Value->Shared->Prop} {pins:List (Addr×Obj)} {s:Shared} {σ:St} {H:Hp} {x:Str} {u:Value} {pos:Pos} {Q:Value->Shared->Prop} (I:Inv X pins σ H s) (hg:Gl X x) (hm:X.mg x=none) (hv:bootBuiltins x=some u) (h:Q u s)
  (hn:x≠ "__name__" :=by decide) (hd:(x == ("__debug__" : Str))=false:=by decide):wpAny (model X.prog X.w) X.A (eval (.Name x pos) X.env) Q E s:=by
 obtain⟨mb,h1,h2⟩:=I.mod.blt
 exact Calls.Name_function_global I.ok.kind hg (Calls.loadGlobal_builtin (by rw[I.ok.glob];exact I.mod.glob.keeps I.bk) hm (by rw[I.ok.blt];exact h1.keeps I.bk) ((h2 x hn).trans hv) h) hd
theorem D3 {x:Str} {v:V} {u:Value} {pos:Pos} (hg:Gl X x) (hm:X.mg x=some u) (r:D8 v u) (hd:(x == ("__debug__" : Str))=false:=by decide):PE X (.Name x pos) (tC v):=
 fun _ _ _ H _ I h=>B5o I hg hm ⟨v,H,I,r,h⟩ hd
theorem A1d {x:Str} {v:V} {u:Value} {pos:Pos} (hg:Gl X x) (hm:X.mg x=none) (hv:bootBuiltins x=some u) (r:D8 v u) (hn:x≠ "__name__" :=by decide) (hd:(x == ("__debug__" : Str))=false:=by decide):PE X (.Name x pos) (tC v):=
 fun _ _ _ H _ I h=>w5 I hg hm hv ⟨v,H,I,r,h⟩ hn hd
variable {a b:Expr} {ta tb:TE} {pos:Pos}
def PC (X:Cx) (op:CmpOp) (a b:Expr) (t:TE):Prop:=
 ∀(pins:List (Addr×Obj)) (s:Shared) (σ:St) (H:Hp) (Q:VK),Inv X pins σ H s->t σ H Q->
  wpAny (model X.prog X.w) X.A (eval a X.env) (fun v s₁=>wpAny (model X.prog X.w) X.A (eval b X.env) (fun u s₂=>wpAny (model X.prog X.w) X.A (compareOp op v u) (EP X pins σ Q) X.xe s₂) X.xe s₁) X.xe s
def tB (t:TE):TT:=fun σ H Q=>t σ H fun x H1=>∃c,x=.bl c/\Q c H1
theorem C18 {op:CmpOp} {t:TE} (h:PC X op a b t) (h1:behindInMarks op b=false:=by first | exact nobehind _ (by decide) (by decide) | rfl):PT X (.Compare a [op] [b] pos) (tB t):=by
 intro pins s σ H Q I hw
 refine wpAny_isTrue_Compare1 (thn (h pins s σ H _ I hw) fun v s1 h1=>thn h1 fun u s2 h2=>thn h2 fun c s3 zz6=>el5 zz6 fun x H1 I1 r1 q1=>?_) h1
 obtain⟨d,rfl,q⟩:=q1
 cases r1
 exact wpAny_truthy_bool ⟨H1,I1,q⟩
theorem B0u {e:Expr} {t:TE} (h:PE X e t) (he:∀whole,isTrue e X.env whole=(do let v <-whole;standAt e.pos;holding [v] (truthy v)):=by intro _;rfl):PT X e (tB t):=by
 intro pins s σ H Q I hw
 refine isTrue_plain (thn (h pins s σ H _ I hw) fun v s1 zz7=>el5 zz7 fun x H1 I1 r1 q1=>?_) (he _)
 obtain⟨d,rfl,q⟩:=q1
 cases r1
 exact wpAny_truthy_bool ⟨H1,I1,q⟩
variable {tA tB':TT} {M1:List Expr}
def C19 (t u:TT):TT:=fun σ H Q=>t σ H fun c H1=>if c=true then u σ H1 Q else Q false H1
def tOr (t u:TT):TT:=fun σ H Q=>t σ H fun c H1=>if c=true then Q true H1 else u σ H1 Q
def C2a (t:TT):TT:=fun σ H Q=>t σ H fun c H1=>Q (!c) H1
theorem B5p (ha:PT X a tA):PW X (.BoolOp .And [a] pos) tA:=by
 intro wh pins s σ H Q I h
 refine isTrue_and (thn (ha pins s σ H Q I h) fun c s1 e=>?_)
 cases c with
 | true=>exact isTrue_and_nil e
 | false=>exact e
theorem B0v (ha:PT X a tA):PW X (.BoolOp .Or [a] pos) tA:=by
 intro wh pins s σ H Q I h
 refine isTrue_or (thn (ha pins s σ H Q I h) fun c s1 e=>?_)
 cases c with
 | false=>exact isTrue_or_nil e
 | true=>exact e
theorem B5q (ha:PT X a tA) (hb:PW X (.BoolOp .And (b::M1) pos) tB'):PW X (.BoolOp .And (a::b::M1) pos) (C19 tA tB'):=by
 intro wh pins s σ H Q I h
 refine isTrue_and (thn (ha pins s σ H _ I h) fun c s1 zz8=>el2 zz8 fun H1 I1 q1=>?_)
 cases c with
 | true=>exact hb wh pins s1 σ H1 Q I1 q1
 | false=>exact⟨H1,I1,q1⟩
theorem A6l (ha:PT X a tA) (hb:PW X (.BoolOp .Or (b::M1) pos) tB'):PW X (.BoolOp .Or (a::b::M1) pos) (tOr tA tB'):=by
 intro wh pins s σ H Q I h
 refine isTrue_or (thn (ha pins s σ H _ I h) fun c s1 zz9=>el2 zz9 fun H1 I1 q1=>?_)
 cases c with
 | true=>exact⟨H1,I1,q1⟩
 | false=>exact hb wh pins s1 σ H1 Q I1 q1
theorem B0w (ha:PT X a tA):PT X (.UnaryOp .Not a pos) (C2a tA):=by
 intro pins s σ H Q I h
 exact isTrue_not (ha pins s σ H (fun c H1=>Q (!c) H1) I h)
def C2b (ta tb:TE):TE:=fun σ H Q=>ta σ H fun x H1=>∃c,x=.bl c/\if c=true then tb σ H1 Q else Q (.bl false) H1
def C2c (ta tb:TE):TE:=fun σ H Q=>ta σ H fun x H1=>∃c,x=.bl c/\if c=true then Q (.bl true) H1 else tb σ H1 Q
def C2d (ta:TE):TE:=fun σ H Q=>ta σ H fun x H1=>∃c,x=.bl c/\Q (.bl (!c)) H1
theorem A8g {op} {t:TE} (h:PE X a t):PE X (.BoolOp op [a] pos) t:=fun pins s σ H Q I hw=>BoolOp_one (h pins s σ H Q I hw)
theorem A8h (ha:PE X a ta) (hb:PE X (.BoolOp .And (b::M1) pos) tb):PE X (.BoolOp .And (a::b::M1) pos) (C2b ta tb):=by
 intro pins s σ H Q I h
 refine BoolOp_and (thn (ha pins s σ H _ I h) fun v s1 zz10=>el5 zz10 fun x H1 I1 r1 q1=>?_)
 obtain⟨c,rfl,q1⟩:=q1
 cases r1
 refine wpAny_truthy_bool ?_
 cases c with
 | true=>exact hb pins s1 σ H1 Q I1 q1
 | false=>exact⟨.bl false,H1,I1,rfl,q1⟩
theorem C2e (ha:PE X a ta) (hb:PE X (.BoolOp .Or (b::M1) pos) tb):PE X (.BoolOp .Or (a::b::M1) pos) (C2c ta tb):=by
 intro pins s σ H Q I h
 refine BoolOp_or (thn (ha pins s σ H _ I h) fun v s1 zz11=>el5 zz11 fun x H1 I1 r1 q1=>?_)
 obtain⟨c,rfl,q1⟩:=q1
 cases r1
 refine wpAny_truthy_bool ?_
 cases c with
 | false=>exact hb pins s1 σ H1 Q I1 q1
 | true=>exact⟨.bl true,H1,I1,rfl,q1⟩
theorem C2f (ha:PE X a ta):PE X (.UnaryOp .Not a pos) (C2d ta):=by
 intro pins s σ H Q I h
 refine UnaryOp_ (thn (ha pins s σ H _ I h) fun v s1 zz12=>el5 zz12 fun x H1 I1 r1 q1=>?_)
 obtain⟨c,rfl,q1⟩:=q1
 cases r1
 exact not_of (wpAny_truthy_bool ⟨.bl (!c),H1,I1,rfl,q1⟩)
def tIf (t:TT) (ta tb:TE):TE:=fun σ H Q=>t σ H fun c H1=>if c=true then ta σ H1 Q else tb σ H1 Q
theorem C2g {c:Expr} (hc:PT X c tA) (ha:PE X a ta) (hb:PE X b tb):PE X (.IfExp c a b pos) (tIf tA ta tb):=by
 intro pins s σ H Q I h
 refine wpAny_IfExp (thn (hc pins s σ H _ I h) fun d s1 zz13=>el2 zz13 fun H1 I1 q1=>?_)
 cases d with
 | true=>exact ha pins s1 σ H1 Q I1 q1
 | false=>exact hb pins s1 σ H1 Q I1 q1
end
def SqL (K:A7) (H:Hp) (a:Addr) (xs:List V):Prop:=
 Rd H a (.lst xs)\/
  ∃(o:Obj) (its:Array Value) (n:Nat),K.lookup a=some o/\o.cls=.type "list" /\o.dict=none/\o.data=.seq its n/\its.size<=sizeLine/\C3 xs its.toList
def SqT (K:A7) (H:Hp) (a:Addr) (xs:List V):Prop:=
 Rd H a (.tup xs)\/
  ∃(o:Obj) (its:Array Value) (n:Nat),K.lookup a=some o/\o.cls=.type "tuple" /\o.data=.seq its n/\its.size<=sizeLine/\C3 xs its.toList
def C2h:Value->Option V
 | .none=>some .non
 | .bool b=>some (.bl b)
 | .int i _=>some (.int i)
 | .str x _=>some (.str x)
 | .bytes b _=>some (.byt b)
 | .float b _=>some (.flt b)
 | .ref a=>some (.ref a)
 | .type n=>some (.ty n)
 | _=>none
theorem D8.abs {x:V} {u:Value} (r:D8 x u):C2h u=some x:=by
 cases x with
 | non=>cases r;rfl
 | bl _=>cases r;rfl
 | int _=>obtain⟨t,rfl⟩:=r;rfl
 | str _=>obtain⟨t,rfl⟩:=r;rfl
 | byt _=>obtain⟨t,rfl⟩:=r;rfl
 | flt _=>obtain⟨t,rfl⟩:=r;rfl
 | ref _=>cases r;rfl
 | ty _=>cases r;rfl
theorem D8.inj {x y:V} {u:Value} (r:D8 x u) (q:D8 y u):x=y:=Option.some.inj (r.abs.symm.trans q.abs)
theorem C3.inj {xs ys:List V} {us:List Value} (h:C3 xs us) (k:C3 ys us):xs=ys:=by
 induction h generalizing ys with
 | nil=>cases k;rfl
 | cons r t ih=>
  cases k with
  | cons r' t'=>rw[r.inj r',ih t']
section
variable {X:Cx} {pins:List (Addr×Obj)} {σ:St} {H:Hp} {s:Shared} {a:Addr} {xs ys:List V}
theorem SqL.of {K:A7} (h:H a=some (.lst xs)):SqL K H a xs:=.inl (.inl h)
theorem SqT.of {K:A7} (h:H a=some (.tup xs)):SqT K H a xs:=.inl (.inl h)
theorem Inv.list (I:Inv X pins σ H s) (h:SqL X.K H a xs):∃its:List Value,C3 xs its/\PlainL s.heap a its.toArray/\xs.length<=sizeLine:=by
 rcases h with h | ⟨o,its,n,hk,hc,hd,hs,hz,r⟩
 ·obtain⟨z,its,n,r,e⟩:=h.ok I.hok
  exact⟨its,r,⟨_,n,e,rfl,rfl,rfl⟩,z⟩
 ·refine⟨its.toList,r,⟨o,n,I.kIn a o hk,hc,hd,by simpa using hs⟩,?_⟩
  have e:=r.length
  simp only[P5] at e
  lia
theorem Inv.tuple (I:Inv X pins σ H s) (h:SqT X.K H a xs):∃its:List Value,C3 xs its/\IsTup s.heap a its.toArray/\xs.length<=sizeLine:=by
 rcases h with h | ⟨o,its,n,hk,hc,hs,hz,r⟩
 ·obtain⟨z,its,r,p⟩:=h.ok I.hok
  exact⟨its,r,p,z⟩
 ·refine⟨its.toList,r,⟨o,I.kIn a o hk,hc,n,by simpa using hs⟩,?_⟩
  have e:=r.length
  simp only[P5] at e
  lia
theorem Inv.list_inj (I:Inv X pins σ H s) (h:SqL X.K H a xs) (h':SqL X.K H a ys):xs=ys:=by
 obtain⟨its,r,⟨o,n,e,_,_,d⟩,_⟩:=I.list h
 obtain⟨its',r',⟨o',n',e',_,_,d'⟩,_⟩:=I.list h'
 rw[e] at e';cases e'
 rw[d] at d'
 injection d' with d1 _
 have:its=its':=by simpa using congrArg Array.toList d1
 subst this
 exact r.inj r'
end
abbrev Cx.wish (X:Cx) (E:Value->Shared->Prop):Cx:={ X with xe:=E }
abbrev Cx.nox (X:Cx):Cx:=X.wish fun _ _=>False
theorem Cx.Ok.wish {X:Cx} (ok:X.Ok) (E:Value->Shared->Prop):(X.wish E).Ok:=
 ⟨ok.mod,ok.kind,ok.glob,ok.blt,ok.above,ok.inj,ok.has,ok.cab,ok.hd,ok.frames,ok.stk,ok.exf,ok.bs,ok.bsz,ok.noex,ok.exfs,ok.funs,ok.frf⟩
theorem Cx.Ok.unwish {X:Cx} {E:Value->Shared->Prop} (ok:(X.wish E).Ok):X.Ok:=
 ⟨ok.mod,ok.kind,ok.glob,ok.blt,ok.above,ok.inj,ok.has,ok.cab,ok.hd,ok.frames,ok.stk,ok.exf,ok.bs,ok.bsz,ok.noex,ok.exfs,ok.funs,ok.frf⟩
section
variable {X:Cx} {pins:List (Addr×Obj)} {σ:St} {H:Hp} {s:Shared} {E:Value->Shared->Prop}
theorem Inv.wish (I:Inv X pins σ H s) (E:Value->Shared->Prop):Inv (X.wish E) pins σ H s:=⟨I.ok.wish E,I.os,I.bare,I.base,I.loc,I.cell,I.free,I.freeC,I.pin,I.hok,I.len⟩
theorem Inv.unwish (I:Inv (X.wish E) pins σ H s):Inv X pins σ H s:=⟨I.ok.unwish,I.os,I.bare,I.base,I.loc,I.cell,I.free,I.freeC,I.pin,I.hok,I.len⟩
theorem SP.unwish {D:l4} {f:Flow} {s':Shared} (h:SP (X.wish E) pins D f s'):SP X pins D f s':=by
 cases f with
 | next=>obtain⟨σ',H',I,q⟩:=h;exact⟨σ',H',I.unwish,q⟩
 | brk=>obtain⟨σ',H',I,q⟩:=h;exact⟨σ',H',I.unwish,q⟩
 | cont=>obtain⟨σ',H',I,q⟩:=h;exact⟨σ',H',I.unwish,q⟩
 | ret u=>obtain⟨v,σ',H',I,r,q⟩:=h;exact⟨v,σ',H',I.unwish,r,q⟩
theorem PSs.nox {st:List Stmt} {t:TS} (h:PSs X.nox st t):PSs X st t:=fun pins s σ H D I hw=>
 wpAny_mono (h pins s σ H D (I.wish _) hw) (fun _ _ q=>q.unwish) fun _ _ z=>False.elim z
end
section
variable {X:Cx} {st:Stmt} {M1:List Stmt} {t u:TS} {e:Expr} {te:TE} {pos:Pos}
def C2i:TS:=fun D σ H=>D.nx σ H
def B0x (t u:TS):TS:=fun D σ H=>t { D with nx:=u D } σ H
theorem w6:PSs X [] C2i:=fun _ _ σ H _ I h=>wpAny_execs_nil ⟨σ,H,I,h⟩
theorem G4 (h1:PS X st t) (h2:PSs X M1 u):PSs X (st::M1) (B0x t u):=by
 intro pins s σ H D I h
 refine wpAny_execs_cons (thn (h1 pins s σ H { D with nx:=u D } I h) fun f s1 q=>?_)
 cases f with
 | next=>
  obtain⟨σ',H',I',q⟩:=q
  exact h2 pins s1 σ' H' D I' q
 | ret v=>exact q
 | brk=>exact q
 | cont=>exact q
theorem S3 (h1:PS X st t):PSs X [st] t:=by
 intro pins s σ H D I h
 refine wpAny_execs_cons (thn (h1 pins s σ H D I h) fun f s1 q=>?_)
 cases f with
 | next=>exact wpAny_execs_nil q
 | ret v=>exact q
 | brk=>exact q
 | cont=>exact q
theorem Inv.quiet {pins:List (Addr×Obj)} {σ:St} {H:Hp} {s:Shared} (I:Inv X pins σ H s):interactive X.env=false:=by simp [interactive,I.ok.kind]
def B0y (te:TE):TS:=fun D σ H=>te σ H fun _ H1=>D.nx σ H1
theorem S4 (he:PE X e te) (hs:swapsWith e none pos.line X.env=pure false:=by rfl):PS X (.Expr e pos) (B0y te):=by
 intro pins s σ H D I h
 exact wpAny_Expr_any (thn (he pins s σ H _ I h) fun v s1 zz20=>el5 zz20 fun x H1 I1 r1 q1=>⟨σ,H1,I1,q1⟩) I.quiet hs
def C2j (te:TE):TS:=fun D σ H=>te σ H D.rt
theorem Y6 (he:PE X e te):PS X (.Return (some e) pos) (C2j te):=by
 intro pins s σ H D I h
 exact wpAny_Return_some (thn (he pins s σ H _ I h) fun v s1 zz21=>el5 zz21 fun x H1 I1 r1 q1=>⟨x,σ,H1,I1,r1,q1⟩)
def C2k (c:TT) (t u:TS):TS:=fun D σ H=>c σ H fun b H1=>if b=true then t D σ H1 else u D σ H1
theorem l5 {c:Expr} {a b:List Stmt} {tc:TT} (hc:PT X c tc) (ha:PSs X a t) (hb:PSs X b u):PS X (.If c a b pos) (C2k tc t u):=by
 intro pins s σ H D I h
 refine wpAny_If (thn (hc pins s σ H _ I h) fun d s1 zz22=>el2 zz22 fun H1 I1 q1=>?_)
 cases d with
 | true=>exact ha pins s1 σ H1 D I1 q1
 | false=>exact hb pins s1 σ H1 D I1 q1
end
abbrev TG:=V->St->Hp->(St->Hp->Prop)->Prop
abbrev TGs:=List V->St->Hp->(St->Hp->Prop)->Prop
def PG (X:Cx) (target:Expr) (t:TG):Prop:=
 ∀(pins:List (Addr×Obj)) (s:Shared) (σ:St) (H:Hp) (v:V) (u:Value) (Q:St->Hp->Prop),Inv X pins σ H s->D8 v u->t v σ H Q->
  wpAny (model X.prog X.w) X.A (assign target X.env u) (fun _ s'=>∃σ' H',Inv X pins σ' H' s'/\Q σ' H') X.xe s
def PGs (X:Cx) (ts:List Expr) (t:TGs):Prop:=
 ∀(pins:List (Addr×Obj)) (s:Shared) (σ:St) (H:Hp) (vs:List V) (us:List Value) (Q:St->Hp->Prop),Inv X pins σ H s->C3 vs us->t vs σ H Q->
  wpAny (model X.prog X.w) X.A (assignInOrder ((assignEach ts X.env).map (·.2)) us) (fun _ s'=>∃σ' H',Inv X pins σ' H' s'/\Q σ' H') X.xe s
abbrev A6m:=V->V->V->Hp->(Hp->Prop)->Prop
def B0z (X:Cx) (t:A6m):Prop:=
 ∀(pins:List (Addr×Obj)) (s:Shared) (σ:St) (H:Hp) (o i v:V) (ov iv u:Value) (Q:Hp->Prop),Inv X pins σ H s->D8 o ov->D8 i iv->D8 v u->t o i v H Q->
  wpAny (model X.prog X.w) X.A (setItem ov iv u) (fun _ s'=>∃H',Inv X pins σ H' s'/\Q H') X.xe s
abbrev TIp:=V->V->Hp->VK->Prop
def PIp (X:Cx) (op:Operator) (t:TIp):Prop:=
 ∀(pins:List (Addr×Obj)) (s:Shared) (σ:St) (H:Hp) (x y:V) (v u:Value) (Q:VK),Inv X pins σ H s->D8 x v->D8 y u->t x y H Q->
  wpAny (model X.prog X.w) X.A (inplaceOp op v u) (EP X pins σ Q) X.xe s
section
variable {X:Cx} {pos:Pos}
def Y7 (i:Nat):TG:=fun v σ H Q=>Q (σ.set i (some v)) H
theorem J7 {i:Nat} {x:Str} (hN:X.N.Nodup) (hi:X.N[i]?=some x) (hx:Loc X.env.scope x) (hf:X.fn x=true\/X.env.scope.names.lookup x=some .local:=by first | exact .inl rfl | exact .inr rfl | assumption):PG X (.Name x pos) (Y7 i):=by
 intro pins s σ H v u Q I r h
 exact wpAny_assign_Name (B0s I hN hi hx r (fun s' I'=>⟨_,H,I',h⟩) hf)
def B00:TGs:=fun vs σ H Q=>vs=[]/\Q σ H
def A3q (t:TG) (u:TGs):TGs:=fun vs σ H Q=>∃v r,vs=v::r/\t v σ H fun σ' H'=>u r σ' H' Q
theorem A3r:PGs X [] B00:=by
 intro pins s σ H vs us Q I r h
 obtain⟨e,h⟩:=h
 subst e
 cases r
 exact assignInOrder_nil ⟨σ,H,I,h⟩
theorem V6 {e:Expr} {es:List Expr} {t:TG} {u:TGs} (h1:PG X e t) (h2:PGs X es u)
  (hs:(assignEach (e::es) X.env).map (·.2)=assign e X.env::(assignEach es X.env).map (·.2):=by rfl):PGs X (e::es) (A3q t u):=by
 intro pins s σ H vs us Q I r h
 obtain⟨v,vr,e1,h⟩:=h
 subst e1
 cases r with
 | cons r rr=>
  rw[hs]
  refine assignInOrder_cons (thn (h1 pins s σ H _ _ _ I r h) fun _ s1 zz23=>zz23.elim fun σ1 zz24=>zz24.elim fun H1 zz25=>zz25.elim fun I1 q1=>?_)
  exact h2 pins s1 σ1 H1 _ _ Q I1 rr q1
def B01 (K:A7) (n:Nat) (t:TGs):TG:=fun v σ H Q=>∃a xs,v=.ref a/\SqT K H a xs/\xs.length=n/\t xs σ H Q
theorem A3s {es:List Expr} {k:Nat} {t:TGs} {n:Nat} (hc:X.calm=true) (h:PGs X es t)
  (hn:(assignEach es X.env).length=n:=by rfl) (hst:(assignEach es X.env).findIdx? (·.1)=none:=by rfl):PG X (.Tuple es k pos) (B01 X.K n t):=by
 intro pins s σ H v u Q I r hw
 obtain⟨a,xs,e1,hq,hl,hw⟩:=hw
 subst e1
 cases r
 obtain⟨its,rv,ht,hz⟩:=I.tuple hq
 refine assign_Tuple_tuple (I.ok.hd hc) ht (by simp [hn,<-hl,rv.length]) hst fun h' hx=>?_
 have I1:Inv X pins σ H { s with heap:=h' }:=I.kept (t':=s.toks) fun b o e=>hx b o (P4 (G3 e)) e
 exact h pins _ σ H xs _ Q I1 (by simpa using rv) hw
def B5r (to ti:TE) (t:A6m):TG:=fun v σ H Q=>to σ H fun o H1=>ti σ H1 fun i H2=>t o i v H2 fun H3=>Q σ H3
theorem W6 {o i:Expr} {to ti:TE} {t:A6m} (ho:PE X o to) (hi:PE X i ti) (hs:B0z X t)
  (ha:∀v,assign (.Subscript o i pos) X.env v=(do
   let ov <-holding [v] (eval o X.env)
   let iv <-holding [v,ov] (eval i X.env)
   standAt pos
   holding [v,ov,iv] (setItem ov iv v)
   release [v,ov,iv] []):=by intro _;rfl):PG X (.Subscript o i pos) (B5r to ti t):=by
 intro pins s σ H v u Q I r h
 rw[ha]
 refine wpAny_bind (wpAny_holding (thn (ho pins s σ H _ I h) fun ov s1 zz26=>el5 zz26 fun x H1 I1 r1 q1=>?_))
 refine wpAny_bind (wpAny_holding (thn (hi pins s1 σ H1 _ I1 q1) fun iv s2 zz27=>el5 zz27 fun y H2 I2 r2 q2=>?_))
 refine wpAny_bind (wpAny_standAt (wpAny_bind (wpAny_holding (thn (hs pins s2 σ H2 x y v ov iv u _ I2 r1 r2 r q2) fun _ s3 zz28=>el2 zz28 fun H3 I3 q3=>?_))))
 exact wpAny_release ⟨σ,H3,I3,q3⟩
def A1e (te:TE) (g:TG):TS:=fun D σ H=>te σ H fun x H1=>g x σ H1 D.nx
theorem U8 {tg e:Expr} {te:TE} {g:TG} (he:PE X e te) (hg:PG X tg g) (hs:swapsWithSole [tg] e pos.line X.env=pure false:=by rfl) (hw:swappedStores [tg] e X.env=pure none:=by rfl)
  (h1:(assignEach [tg] X.env).map (·.2)=[assign tg X.env]:=by rfl):PS X (.Assign [tg] e pos) (A1e te g):=by
 intro pins s σ H D I h
 refine wpAny_Assign_stores (thn (he pins s σ H _ I h) fun v s1 zz29=>el5 zz29 fun x H1 I1 r1 q1=>?_) hs hw
 rw[h1]
 exact thn (hg pins s1 σ H1 x v _ I1 r1 q1) fun _ s2 q=>q
theorem C0 {i:Nat} {x:Str} {e:Expr} {te:TE} {pos':Pos} (hN:X.N.Nodup) (hi:X.N[i]?=some x) (hx:Loc X.env.scope x) (he:PE X e te) (hs:swapsWith e (some (.Name x pos')) pos.line X.env=pure false:=by rfl) (hf:X.fn x=true\/X.env.scope.names.lookup x=some .local:=by first | exact .inl rfl | exact .inr rfl | assumption) :
  PS X (.Assign [.Name x pos'] e pos) (A1e te (Y7 i)):=by
 intro pins s σ H D I h
 refine wpAny_Assign_Name (thn (he pins s σ H _ I h) fun v s1 zz30=>el5 zz30 fun y H1 I1 r1 q1=>?_) hs
 exact B0s I1 hN hi hx r1 (fun s2 I2=>⟨_,H1,I2,q1⟩) hf
def C2l (to ti te:TE) (tget:V->V->Hp->VK->Prop) (tip:TIp) (tset:A6m):TS:=fun D σ H=>to σ H fun o H1=>ti σ H1 fun i H2=>tget o i H2 fun x H3=>te σ H3 fun y H4=>tip x y H4 fun z H5=>tset o i z H5 fun H6=>D.nx σ H6
def B5s (X:Cx) (t:V->V->Hp->VK->Prop):Prop:=
 ∀(pins:List (Addr×Obj)) (s:Shared) (σ:St) (H:Hp) (o i:V) (ov iv:Value) (Q:VK),Inv X pins σ H s->D8 o ov->D8 i iv->t o i H Q->
  wpAny (model X.prog X.w) X.A (getItem ov iv) (EP X pins σ Q) X.xe s
theorem B5t {o i e:Expr} {to ti te:TE} {tget:V->V->Hp->VK->Prop} {tip:TIp} {tset:A6m} {op:Operator} {tpos:Pos} (ho:PE X o to) (hi:PE X i ti) (hg:B5s X tget) (he:PE X e te) (hp:PIp X op tip) (hs:B0z X tset)
  (ha:∀ov iv new,augStore i ov iv new=(do holding [new,ov,iv] (setItem ov iv new);release [new,ov,iv] [];pure .next):=by intros;rfl):PS X (.AugAssign (.Subscript o i tpos) op e pos) (C2l to ti te tget tip tset):=by
 intro pins s σ H D I h
 refine wpAny_AugAssign_SubscriptAny (thn (ho pins s σ H _ I h) fun ov s1 zz34=>el5 zz34 fun x1 H1 I1 r1 q1=>?_) ha
 refine thn (hi pins s1 σ H1 _ I1 q1) fun iv s2 zz35=>el5 zz35 fun x2 H2 I2 r2 q2=>?_
 refine thn (hg pins s2 σ H2 x1 x2 ov iv _ I2 r1 r2 q2) fun old s3 zz36=>el5 zz36 fun x3 H3 I3 r3 q3=>?_
 refine thn (he pins s3 σ H3 _ I3 q3) fun v s4 zz37=>el5 zz37 fun x4 H4 I4 r4 q4=>?_
 refine thn (hp pins s4 σ H4 x3 x4 old v _ I4 r3 r4 q4) fun new s5 zz38=>el5 zz38 fun x5 H5 I5 r5 q5=>?_
 exact thn (hs pins s5 σ H5 x1 x2 x5 ov iv new _ I5 r1 r2 r5 q5) fun _ s6 zz39=>el2 zz39 fun H6 I6 q6=>⟨σ,H6,I6,q6⟩
def ipI (f:Int->Int->Int):TIp:=fun x y H Q=>∃i j,x=.int i/\y=.int j/\Q (.int (f i j)) H
theorem C2m:PIp X .Add (ipI fun i j=>i + j):=by
 intro pins s σ H x y v u Q I r1 r2 h
 obtain⟨i,j,e1,e2,q⟩:=h
 subst e1;subst e2
 obtain⟨t,rfl⟩:=r1
 obtain⟨t',rfl⟩:=r2
 exact iadd_int ⟨.int _,H,I.tok _,⟨_,rfl⟩,q⟩
theorem C2n:PIp X .Sub (ipI fun i j=>i - j):=by
 intro pins s σ H x y v u Q I r1 r2 h
 obtain⟨i,j,e1,e2,q⟩:=h
 subst e1;subst e2
 obtain⟨t,rfl⟩:=r1
 obtain⟨t',rfl⟩:=r2
 exact isub_int ⟨.int _,H,I.tok _,⟨_,rfl⟩,q⟩
def B02 (c:TT) (tb:TS):TS:=fun D σ H=>∃W:Nat->St->Hp->Prop,(∃m,W m σ H)/\∀m σ H,W m σ H->
 c σ H fun b H1=>if b=true then ∃N:St->Hp->Prop,(∀σ' H',N σ' H'->∃m',m' < m/\W m' σ' H')/\tb { D with nx:=N,ct:=N,bk:=D.nx } σ H1 else D.nx σ H1
theorem A6n {c:Expr} {body:List Stmt} {tc:TT} {tb:TS} (hp:PassesOwn (model X.prog X.w) X.A X.env X.xe) (hc:PT X c tc) (hb:PSs X body tb):PS X (.While c body [] pos) (B02 tc tb):=by
 intro pins s σ H D I h
 obtain⟨W,⟨m0,w0⟩,turn⟩:=h
 refine wpAny_While (codeAny_whileLoop (fun n s'=>∃σ' H',Inv X pins σ' H' s'/\W n σ' H') ?_ m0 ⟨σ,H,I,w0⟩)
 rintro n s1 ⟨σ1,H1,I1,w1⟩
 refine wpAny_passesOwn hp (thn (hc pins s1 σ1 H1 _ I1 (turn n σ1 H1 w1)) fun b s2 zz40=>el2 zz40 fun H2 I2 q2=>?_)
 cases b with
 | true=>
  obtain⟨N,hN,q2⟩:=q2
  rw[if_pos rfl]
  refine wpAny_passesOwn hp (thn (hb pins s2 σ1 H2 _ I2 q2) fun f s3 q3=>?_)
  cases f with
  | next=>
   obtain⟨σ3,H3,I3,n3⟩:=q3
   obtain⟨m',hm,w3⟩:=hN σ3 H3 n3
   exact⟨m',hm,σ3,H3,I3,w3⟩
  | cont=>
   obtain⟨σ3,H3,I3,n3⟩:=q3
   obtain⟨m',hm,w3⟩:=hN σ3 H3 n3
   exact⟨m',hm,σ3,H3,I3,w3⟩
  | brk=>exact q3
  | ret v=>exact q3
 | false=>
  rw[if_neg G6]
  exact wpAny_execs_nil ⟨σ1,H2,I2,q2⟩
end
structure It where
 go:Nat->Hp->Prop
 yld:Nat->Hp->V->Hp->Prop
 stop:Nat->Hp->Prop
def Y8 (X:Cx) (pins:List (Addr×Obj)) (H:Hp) (b:Addr):Prop:=
 H b=none/\b≠X.env.locals/\b∉X.fs/\(b∈X.ex\/X.s₀.heap.objs.size<=b)/\(∀x c,X.env.cells.lookup x=some c->c≠b)/\∀p∈X.pn++pins,p.1≠b
theorem Inv.fpOk {X:Cx} {pins:List (Addr×Obj)} {σ:St} {H H':Hp} {s:Shared} {b:Addr} (I:Inv X pins σ H s) (hb:s.heap.objs.size<=b) (hn:H' b=none):Y8 X pins H' b:=by
 refine⟨hn,B0h (Q7 I.lt hb),I.nofs hb,.inr (V5 I.sz hb),fun x c e z=>?_,fun p hp z=>?_⟩
 ·obtain⟨v,q⟩:=I.cell x c e
  exact absurd (Q7 q.lt (by rw[z];exact hb)) (j9 _)
 ·exact absurd (Q7 (G3 (I.pin p hp).1) (by rw[z];exact hb)) (j9 _)
structure A1f (P:Program) (w:World) (K:A7) (tg:Expr) (J:It) (fp:List Addr) (it:Addr) (tn:Nat->Heap->Prop):Prop where
 mem:it∈fp
 obj:∀i h,tn i h->∀b∈fp,∃o,h.get? b=some o/\∀v,o.data≠.cell v
 keep:∀i h h',tn i h->(∀b∈fp,∀o,h.get? b=some o->h'.get? b=some o)->tn i h'
 item:∀(X:Cx),X.prog=P->X.w=w->X.K=K->X.calm=true->∀(i:Nat) (pins:List (Addr×Obj)) (s:Shared) (σ:St) (H:Hp) (E:Value->Shared->Prop),Inv X pins σ H s->(∀b∈fp,Y8 X pins H b)->tn i s.heap->J.go i H->
  wpAny (model P w) X.A (pyNext (.ref it)) (fun r s1=>∃u,r=some u/\
   wpAny (model P w) X.A (letOwnedTupleGo tg (.ref it) u) (fun _ s2=>∃x H',Inv X pins σ H' s2/\D8 x u/\J.yld i H x H'/\tn (i + 1) s2.heap/\∀b∈fp,H' b=none) E s1) E s
 done:∀(X:Cx),X.prog=P->X.w=w->X.K=K->X.calm=true->∀(i:Nat) (pins:List (Addr×Obj)) (s:Shared) (σ:St) (H:Hp) (E:Value->Shared->Prop),Inv X pins σ H s->(∀b∈fp,Y8 X pins H b)->tn i s.heap->J.stop i H->
  wpAny (model P w) X.A (pyNext (.ref it)) (fun r s1=>r=none/\Inv X pins σ H s1) E s
 self:∀(A:Around) (i:Nat) (s:Shared) (Q:Value->Shared->Prop) (E:Value->Shared->Prop),tn i s.heap->Q (.ref it) s->wpAny (model P w) A (pyIter (.ref it)) Q E s
abbrev TI:=St->Hp->(It->Hp->Prop)->Prop
def PIE (X:Cx) (pins:List (Addr×Obj)) (σ:St) (tg:Expr) (R:It->Hp->Prop) (itv:Value) (s2:Shared):Prop:=
 ∃(it:Addr) (fp:List Addr) (tn:Nat->Heap->Prop) (J:It) (H':Hp),itv=.ref it/\Inv X pins σ H' s2/\A1f X.prog X.w X.K tg J fp it tn/\tn 0 s2.heap/\(∀b∈fp,Y8 X pins H' b)/\R J H'
def PI (X:Cx) (tg iter:Expr) (wi:TI):Prop:=
 ∀(pins:List (Addr×Obj)) (s:Shared) (σ:St) (H:Hp) (R:It->Hp->Prop),Inv X pins σ H s->wi σ H R->
  wpAny (model X.prog X.w) X.A (eval iter X.env) (fun v s1=>wpAny (model X.prog X.w) X.A (pyIter v) (PIE X pins σ tg R) X.xe s1) X.xe s
theorem A8i {M:Model} {A:Around} {E:Value->Shared->Prop} {s:Shared} {tg:Expr} {it:Addr} {u:Value} {o:Obj} {n:String} {vs:Array Value} {Q:Unit->Shared->Prop} (ho:s.heap.get? it=some o) (hc:o.cls=.type n) (hd:o.data=.fields vs)
  (hn:["enumerate", "zip", "dict_itemiterator", "dict_reverseitemiterator", "odict_iterator", "itertools.zip_longest", "itertools.pairwise"].contains n=false) (hQ:Q () s):wpAny M A (letOwnedTupleGo tg (.ref it) u) Q E s:=by
 unfold letOwnedTupleGo
 cases tg <;> first
  | exact wpAny_pure hQ
  | (cases u <;> first
    | exact wpAny_pure hQ
    | (refine wpAny_bind (wpAny_load ho ?_)
       rw[hc,hd]
       show wpAny M A (if (["enumerate", "zip", "dict_itemiterator", "dict_reverseitemiterator", "odict_iterator", "itertools.zip_longest", "itertools.pairwise"].contains n&&vs[0]? == some (rawInt _))=true then _ else _) Q E s
       rw[if_neg (by intro h;rw[hn,Bool.false_and] at h;cases h)]
       exact wpAny_pure hQ))
def Itl (K:A7) (a:Addr):It:=
 ⟨fun i H=>∃xs x,SqL K H a xs/\xs[i]?=some x,fun i H x H'=>H'=H/\∀xs,SqL K H a xs->xs[i]?=some x,fun i H=>∃xs,SqL K H a xs/\xs.length<=i⟩
def Itr (lo:Int) (n:Nat):It:=⟨fun i _=>i < n,fun i H x H'=>H'=H/\x=.int (lo + i),fun i _=>n<=i⟩
theorem C2o {P:Program} {w:World} {K:A7} {tg:Expr} (a it:Addr):A1f P w K tg (Itl K a) [it] it (fun i h=>h.IsListIter it a i) where
 mem:=by simp
 obj:=fun i h st b hb=>by
  have e:b=it:=by simpa using hb
  subst e
  obtain⟨o,e,c,d⟩:=st
  exact⟨o,e,fun v z=>by rw[d] at z;cases z⟩
 keep:=fun i h h' st k=>st.at fun o e=>k it (by simp) o e
 item:=by
  intro X hP hw hK hc i pins s σ H E I hf st hg
  subst hP hw hK
  obtain⟨xs,x,hq,hx⟩:=hg
  obtain⟨its,rv,p,hz⟩:=I.list hq
  obtain⟨u,hu,ru⟩:=rv.get hx
  obtain⟨f0,f1,f2,f3,f4,f5⟩:=hf it (by simp)
  refine wpAny_pyNext_list_item st p.isList (x:=u) (by simpa using hu) fun h' st' sb=>?_
  have I1:Inv X pins σ H { s with heap:=h' }:=I.turned (t':=s.toks) (fun b o hb e=>(sb.2 b hb).trans e) f0 f1 f3 f4 f5
  obtain⟨o,e,c,d⟩:=id st'
  exact⟨u,rfl,A8i (s:={ s with heap:=h' }) e c d (by decide) ⟨x,H,I1,ru,⟨rfl,fun ys hy=>by rw[I.list_inj hy hq];exact hx⟩,st',fun b hb=>(hf b hb).1⟩⟩
 done:=by
  intro X hP hw hK hc i pins s σ H E I hf st hg
  subst hP hw hK
  obtain⟨xs,hq,hx⟩:=hg
  obtain⟨its,rv,p,hz⟩:=I.list hq
  obtain⟨f0,f1,f2,f3,f4,f5⟩:=hf it (by simp)
  have hl:=rv.length
  exact wpAny_pyNext_list_end (I.ok.hd hc) st p.isList (by simp;lia) fun h' eb=>⟨rfl,I.turned (t':=s.toks) (fun b o hb e=>eb b o hb e) f0 f1 f3 f4 f5⟩
 self:=fun _ _ _ _ _ st h=>wpAny_pyIter_listiter st h
theorem C2p {P:Program} {w:World} {K:A7} {tg:Expr} (it:Addr) (lo:Int) (n:Nat):A1f P w K tg (Itr lo n) [it] it (fun i h=>IsRangeIter h it (lo + (i:Nat) * 1) ((n:Int) - (i:Nat)) 1) where
 mem:=by simp
 obj:=fun i h st b hb=>by
  have e:b=it:=by simpa using hb
  subst e
  exact⟨_,st,fun v z=>by
   have z':Data.fields _=Data.cell v:=z
   cases z'⟩
 keep:=fun i h h' st k=>k it (by simp) _ st
 item:=by
  intro X hP hw hK hc i pins s σ H E I hf st hg
  subst hP hw hK
  obtain⟨f0,f1,f2,f3,f4,f5⟩:=hf it (by simp)
  have W:=Walks.range (prog:=X.prog) (w:=X.w) (I.ok.hd hc) it lo 1 n
  refine W.item i s _ _ hg st fun v h' tk hv st' kk=>?_
  obtain⟨t,rfl⟩:=hv
  have I1:Inv X pins σ H { s with heap:=h',toks:=tk }:=I.turned (fun b o hb e=>kk b o (by simpa using hb) e) f0 f1 f3 f4 f5
  refine⟨_,rfl,A8i (s:={ s with heap:=h',toks:=tk }) (n:= "range_iterator") st' rfl rfl (by decide) ⟨.int (lo + i),H,I1,⟨t,?_⟩,⟨rfl,rfl⟩,st',fun b hb=>(hf b hb).1⟩⟩
  rw[Int.mul_one]
 done:=by
  intro X hP hw hK hc i pins s σ H E I hf st hg
  subst hP hw hK
  obtain⟨f0,f1,f2,f3,f4,f5⟩:=hf it (by simp)
  exact wpAny_pyNext_range_end (I.ok.hd hc) st (by have:n<=i:=hg;lia) fun h' eb=>⟨rfl,I.turned (t':=s.toks) (fun b o hb e=>eb b o hb e) f0 f1 f3 f4 f5⟩
 self:=fun _ _ _ _ _ st h=>wpAny_pyIter_rangeiter st h
section
variable {X:Cx} {tg:Expr}
def C2q (K:A7) (tl:TE):TI:=fun σ H R=>tl σ H fun x H1=>∃a,x=.ref a/\(∃xs,SqL K H1 a xs)/\R (Itl K a) H1
theorem A6o {l:Expr} {tl:TE} (hl:PE X l tl):PI X tg l (C2q X.K tl):=by
 intro pins s σ H R I h
 refine thn (hl pins s σ H _ I h) fun v s1 zz41=>el5 zz41 fun x H1 I1 r1 q1=>?_
 obtain⟨a,e,⟨xs,hq⟩,q⟩:=q1
 subst e
 cases r1
 obtain⟨its,rv,p,hz⟩:=I1.list hq
 refine wpAny_pyIter_list p.isList ?_
 refine⟨s1.heap.objs.size,[s1.heap.objs.size],_,_,H1,rfl,I1.kept (t':=s1.toks) fun b o e=>U3 _ e,C2o a _,⟨_,T2 _ rfl,rfl,rfl⟩,fun b hb=>?_,q⟩
 have e:b=s1.heap.objs.size:=by simpa using hb
 subst e
 exact I1.fpOk (D2 _) (I1.hok.fresh (D2 _))
theorem C2r {pins:List (Addr×Obj)} {σ:St} {H:Hp} {s:Shared} {R:It->Hp->Prop} {E:Value->Shared->Prop} {lo hi:Int} {t u v:Tok} {tk:Nat} (I:Inv X pins σ H s) (h1:-(2 ^ 62)<=lo) (h2:lo < 2 ^ 62) (h3:-(2 ^ 62)<=hi) (h4:hi < 2 ^ 62)
  (q:R (Itr lo (hi - lo).toNat) H):wpAny (model X.prog X.w) X.A (pyIter (.ref s.heap.objs.size)) (PIE X pins σ tg R) E { s with heap:=s.heap.push { cls:=.type "range",data:=.fields #[.int lo t,.int hi u,.int 1 v] },toks:=tk }:=by
 refine wpAny_pyIter_range (IsRange.new ..) (small_one h1 h2 h3 h4) ?_
 have I1:Inv X pins σ H { s with heap:=s.heap.push { cls:=.type "range",data:=.fields #[.int lo t,.int hi u,.int 1 v] },toks:=tk }:=I.kept fun b o e=>U3 _ e
 refine⟨(s.heap.push { cls:=.type "range",data:=.fields #[.int lo t,.int hi u,.int 1 v] }).objs.size,[(s.heap.push { cls:=.type "range",data:=.fields #[.int lo t,.int hi u,.int 1 v] }).objs.size],_,_,H,rfl,
  I1.kept (t':=tk) fun b o e=>U3 _ e,C2p _ lo (hi - lo).toNat,?_,fun b hb=>?_,q⟩
 ·have e1:lo + ((0:Nat):Int) * 1=lo:=by simp
  have e2:(((hi - lo).toNat:Nat):Int) - ((0:Nat):Int)=Builtin.Range.rangeSize lo hi 1:=by rw[rangeSize_one];split <;> lia
  show IsRangeIter _ _ (lo + ((0:Nat):Int) * 1) ((((hi - lo).toNat:Nat):Int) - ((0:Nat):Int)) 1
  rw[e1,e2]
  exact T2 _ rfl
 ·have e:b=(s.heap.push { cls:=.type "range",data:=.fields #[.int lo t,.int hi u,.int 1 v] }).objs.size:=by simpa using hb
  subst e
  exact I1.fpOk (D2 _) (I1.hok.fresh (D2 _))
def B5u (ta:TA):TI:=fun σ H R=>ta σ H fun vs H1=>∃j:Int,vs=[.int j]/\-(2 ^ 62)<=j/\j < 2 ^ 62/\R (Itr 0 j.toNat) H1
theorem i7 {a:Expr} {ta:TA} {p pos:Pos} (hg:Gl X "range") (hm:X.mg "range" = none) (ha:PA X [a] ta) (hs:starEach [a] X.env=[(false,eval a X.env)]:=by rfl):PI X tg (.Call (.Name "range" p) [a] [] pos) (B5u ta):=by
 intro pins s σ H R I h
 refine Call_ (w5 I hg hm boot_range (PyProof.Rows.callWith_type1 (thn (ha pos pins s σ H _ I h) fun us s1 zz43=>el5 zz43 fun vs H1 I1 r1 q1=>?_) hs rfl))
 obtain⟨j,e,q1,q2,q⟩:=q1
 subst e
 cases r1 with
 | cons r rr=>
  cases rr
  obtain⟨t,rfl⟩:=r
  exact call_range_1 (C2r I1 (by lia) (by lia) q1 q2 (by simpa using q))
def B5v (wi:TI) (g:TG) (tb:TS):TS:=fun D σ H=>wi σ H fun J H1=>∃W:Nat->Nat->St->Hp->Prop,(∃m,W 0 m σ H1)/\∀i m σ H,W i m σ H->
 (J.stop i H/\D.nx σ H)\/(J.go i H/\∃N:St->Hp->Prop,(∀σ' H',N σ' H'->∃m',m' < m/\W (i + 1) m' σ' H')/\∀x H',J.yld i H x H'->g x σ H' fun σ2 H2=>tb { D with nx:=N,ct:=N,bk:=D.nx } σ2 H2)
def A6p (fp:List Addr) (h:Heap):List (Addr×Obj):=fp.filterMap fun b=>(h.get? b).map fun o=>(b,o)
theorem A8j {fp:List Addr} {h:Heap} {b:Addr} {o:Obj} (hb:b∈fp) (e:h.get? b=some o):(b,o)∈A6p fp h:=C1e.mpr ⟨b,hb,by rw[e];rfl⟩
theorem C2s {fp:List Addr} {h:Heap} {p:Addr×Obj} (hp:p∈A6p fp h):p.1∈fp/\h.get? p.1=some p.2:=by
 obtain⟨b,hb,e⟩:=C1e.mp hp
 cases q:h.get? b with
 | none=>rw[q] at e;cases e
 | some o=>
  rw[q] at e
  have e':(b,o)=p:=Option.some.inj e
  subst e'
  exact⟨hb,q⟩
theorem Inv.pinned {pins:List (Addr×Obj)} {σ:St} {H:Hp} {s:Shared} {fp:List Addr} (I:Inv X pins σ H s) (hf:∀b∈fp,Y8 X pins H b) (ho:∀b∈fp,∃o,s.heap.get? b=some o/\∀v,o.data≠.cell v):Inv X (pins++A6p fp s.heap) σ H s:=
 I.pins_of fun p hp=>(K7.mp hp).elim (fun z=>I.pin p (S1 _ z)) fun z=>by
  obtain⟨hb,e⟩:=C2s z
  obtain⟨f0,f1,f2,_⟩:=hf p.1 hb
  obtain⟨o,e',d⟩:=ho p.1 hb
  rw[e] at e';cases e'
  exact⟨e,f0,f1,f2,d⟩
theorem Inv.unpinned {pins pl:List (Addr×Obj)} {σ:St} {H:Hp} {s:Shared} (I:Inv X (pins++pl) σ H s):Inv X pins σ H s:=I.pins_of fun p hp=>I.pin p (S1 _ (f8 _ hp))
theorem O0 {iter:Expr} {body:List Stmt} {wi:TI} {g:TG} {tb:TS} {pos:Pos} (hp:PassesOwn (model X.prog X.w) X.A X.env X.xe) (hc:X.calm=true) (hi:PI X tg iter wi) (hg:PG X tg g) (hb:PSs X body tb)
  (hs:∀x,foldedSetIterable iter X.env x=pure x:=by intro _;rfl):PS X (.For tg iter body [] pos) (B5v wi g tb):=by
 intro pins s σ H D I h
 refine wpAny_For (thn (hi pins s σ H _ I h) fun v s1 h1=>thn h1 fun itv s2 h2=>?_) hs
 obtain⟨it,fp,tn,J,H2,e,I2,T,st2,f2,W,⟨m0,w0⟩,turn⟩:=h2
 subst e
 have stat:∀{H':Hp},(∀b∈fp,H' b=none)->∀b∈fp,Y8 X pins H' b:=fun hn b hb=>⟨hn b hb,(f2 b hb).2⟩
 refine codeAny_forLoop_any (fun n s'=>∃i σ' H',Inv X pins σ' H' s'/\tn i s'.heap/\(∀b∈fp,H' b=none)/\W i n σ' H') ?_ m0 ⟨0,σ,H2,I2,st2,fun b hb=>(f2 b hb).1,w0⟩
 rintro n s3 ⟨i,σ3,H3,I3,st3,fr3,w3⟩
 rcases turn i n σ3 H3 w3 with ⟨stop,qn⟩ | ⟨go,N,hN,step⟩
 ·refine wpAny_passesOwn hp (thn (T.done X rfl rfl rfl hc i pins s3 σ3 H3 X.xe I3 (stat fr3) st3 stop) fun r s4 zz45=>zz45.elim fun hr I4=>?_)
  subst hr
  exact wpAny_execs_nil ⟨σ3,H3,I4,qn⟩
 ·refine wpAny_passesOwn hp (thn (T.item X rfl rfl rfl hc i pins s3 σ3 H3 X.xe I3 (stat fr3) st3 go) fun r s4 zz46=>el2 zz46 fun u hr h4=>?_)
  subst hr
  refine wpAny_passesOwn hp (thn h4 fun _ s5 zz47=>zz47.elim fun x zz48=>zz48.elim fun H5 zz49=>zz49.elim fun I5 zz50=>zz50.elim fun r5 zz51=>zz51.elim fun y5 zz52=>zz52.elim fun st5 fr5=>?_)
  have I5':=I5.pinned (stat fr5) (T.obj _ _ st5)
  refine wpAny_passesOwn hp (thn (hg _ s5 σ3 H5 x u _ I5' r5 (step x H5 y5)) fun _ s6 zz53=>zz53.elim fun σ6 zz54=>zz54.elim fun H6 zz55=>zz55.elim fun I6 q6=>?_)
  refine wpAny_passesOwn hp (thn (hb _ s6 σ6 H6 _ I6 q6) fun f s7 q7=>?_)
  have again:∀{σ7:St} {H7:Hp},Inv X (pins++A6p fp s5.heap) σ7 H7 s7->N σ7 H7->∃m,m < n/\∃i σ' H',Inv X pins σ' H' s7/\tn i s7.heap/\(∀b∈fp,H' b=none)/\W i m σ' H':=fun {σ7 H7} I7 n7=>by
   obtain⟨m',hm,w7⟩:=hN σ7 H7 n7
   refine⟨m',hm,i + 1,σ7,H7,I7.unpinned,T.keep _ _ _ st5 fun b hb o e=>(I7.pin (b,o) (S1 _ (S1 _ (A8j hb e)))).1,fun b hb=>?_,w7⟩
   obtain⟨o,e,d⟩:=T.obj _ _ st5 b hb
   exact (I7.pin (b,o) (S1 _ (S1 _ (A8j hb e)))).2.1
  cases f with
  | next=>obtain⟨σ7,H7,I7,n7⟩:=q7;exact again I7 n7
  | cont=>obtain⟨σ7,H7,I7,n7⟩:=q7;exact again I7 n7
  | brk=>obtain⟨σ7,H7,I7,q7⟩:=q7;exact⟨σ7,H7,I7.unpinned,q7⟩
  | ret v=>obtain⟨x7,σ7,H7,I7,r7,q7⟩:=q7;exact⟨x7,σ7,H7,I7.unpinned,r7,q7⟩
end
theorem C2t {c:TT} {tb:TS} {D:l4} {σ:St} {H:Hp} (Pv:St->Hp->Prop) (μ:St->Hp->Nat) (h0:Pv σ H)
  (hs:∀σ H,Pv σ H->c σ H fun b H1=>if b=true then tb { D with nx:=fun σ' H'=>Pv σ' H'/\μ σ' H' < μ σ H,ct:=fun σ' H'=>Pv σ' H'/\μ σ' H' < μ σ H,bk:=D.nx } σ H1 else D.nx σ H1)
  (mono:∀σ H Q Q',(∀b H1,Q b H1->Q' b H1)->c σ H Q->c σ H Q'):B02 c tb D σ H:=by
 refine⟨fun m σ H=>m=μ σ H/\Pv σ H,⟨_,rfl,h0⟩,?_⟩
 rintro m σ H ⟨rfl,p⟩
 refine mono σ H _ _ (fun b H1 q=>?_) (hs σ H p)
 cases b with
 | true=>exact⟨_,fun σ' H' zz56=>zz56.elim fun p' l=>⟨_,l,rfl,p'⟩,q⟩
 | false=>exact q
abbrev R2:=V->V->Hp->VK->Prop
def OpR (X:Cx) (f:Value->Value->Sem Value) (r:R2):Prop:=
 ∀(pins:List (Addr×Obj)) (s:Shared) (σ:St) (H:Hp) (x y:V) (v u:Value) (Q:VK),Inv X pins σ H s->D8 x v->D8 y u->r x y H Q->
  wpAny (model X.prog X.w) X.A (f v u) (EP X pins σ Q) X.xe s
def UnR (X:Cx) (f:Value->Sem Value) (r:V->Hp->VK->Prop):Prop:=
 ∀(pins:List (Addr×Obj)) (s:Shared) (σ:St) (H:Hp) (x:V) (v:Value) (Q:VK),Inv X pins σ H s->D8 x v->r x H Q->
  wpAny (model X.prog X.w) X.A (f v) (EP X pins σ Q) X.xe s
def W7 (X:Cx) (f:Value) (r:List V->Hp->VK->Prop):Prop:=
 ∀(pins:List (Addr×Obj)) (s:Shared) (σ:St) (H:Hp) (xs:List V) (us:List Value) (Q:VK),Inv X pins σ H s->C3 xs us->r xs H Q->
  wpAny (model X.prog X.w) X.A (call f us) (EP X pins σ Q) X.xe s
def tOp (r:R2) (ta tb:TE):TE:=fun σ H Q=>ta σ H fun x H1=>tb σ H1 fun y H2=>r x y H2 Q
def tUn (r:V->Hp->VK->Prop) (ta:TE):TE:=fun σ H Q=>ta σ H fun x H1=>r x H1 Q
def rI (C:Int->Int->Prop) (g:Int->Int->V):R2:=fun x y H Q=>∃i j,x=.int i/\y=.int j/\C i j/\Q (g i j) H
def rI0 (g:Int->Int->V):R2:=fun x y H Q=>∃i j,x=.int i/\y=.int j/\Q (g i j) H
def rU (g:Int->V):V->Hp->VK->Prop:=fun x H Q=>∃i,x=.int i/\Q (g i) H
section
variable {X:Cx} {a b c:Expr} {ta tb tc:TE} {pos:Pos}
theorem B03 (ha:PE X a ta) (hb:PE X b tb) {pins:List (Addr×Obj)} {s:Shared} {σ:St} {H:Hp} {R:V->V->Hp->Prop} (I:Inv X pins σ H s)
  (h:ta σ H fun x H1=>tb σ H1 fun y H2=>R x y H2) {Q:Value->Shared->Prop} {f:Value->Value->Sem Value}
  (hf:∀v u s2 x y H2,Inv X pins σ H2 s2->D8 x v->D8 y u->R x y H2->wpAny (model X.prog X.w) X.A (f v u) Q X.xe s2) :
  wpAny (model X.prog X.w) X.A (eval a X.env) (fun v s₁=>wpAny (model X.prog X.w) X.A (eval b X.env) (fun u s₂=>wpAny (model X.prog X.w) X.A (f v u) Q X.xe s₂) X.xe s₁) X.xe s:=by
 refine thn (ha pins s σ H _ I h) fun v s1 zz57=>el5 zz57 fun x H1 I1 r1 q1=>?_
 refine thn (hb pins s1 σ H1 _ I1 q1) fun u s2 zz58=>el5 zz58 fun y H2 I2 r2 q2=>?_
 exact hf v u s2 x y H2 I2 r1 r2 q2
theorem M8 {op:Operator} {r:R2} (ho:OpR X (binaryOp op) r) (ha:PE X a ta) (hb:PE X b tb):PE X (.BinOp a op b pos) (tOp r ta tb):=by
 intro pins s σ H Q I h
 exact wpAny_BinOp (B03 ha hb I h fun v u s2 x y H2 I2 rx ry q=>ho pins s2 σ H2 x y v u Q I2 rx ry q)
theorem C2u {op:UnaryOp} {r:V->Hp->VK->Prop} (ho:UnR X (unaryOp op) r) (ha:PE X a ta):PE X (.UnaryOp op a pos) (tUn r ta):=by
 intro pins s σ H Q I h
 exact UnaryOp_ (thn (ha pins s σ H _ I h) fun v s1 zz59=>el5 zz59 fun x H1 I1 r1 q1=>ho pins s1 σ H1 x v Q I1 r1 q1)
theorem opI {f:Value->Value->Sem Value} {C:Int->Int->Prop} {g:Int->Int->Int}
  (rule:∀(i j:Int) (t u:Tok) (s:Shared) (Q:Value->Shared->Prop) (E:Value->Shared->Prop),C i j->Q (.int (g i j) s.toks) { s with toks:=s.toks + 1 }->wpAny (model X.prog X.w) X.A (f (.int i t) (.int j u)) Q E s) :
  OpR X f (rI C fun i j=>.int (g i j)):=by
 intro pins s σ H x y v u Q I rx ry h
 obtain⟨i,j,rfl,rfl,hc,q⟩:=h
 obtain⟨t,rfl⟩:=rx
 obtain⟨t',rfl⟩:=ry
 exact rule i j t t' s _ _ hc ⟨.int (g i j),H,I.tok _,⟨_,rfl⟩,q⟩
theorem A8k {f:Value->Value->Sem Value} {g:Int->Int->Int}
  (rule:∀(i j:Int) (t u:Tok) (s:Shared) (Q:Value->Shared->Prop) (E:Value->Shared->Prop),Q (.int (g i j) s.toks) { s with toks:=s.toks + 1 }->wpAny (model X.prog X.w) X.A (f (.int i t) (.int j u)) Q E s) :
  OpR X f (rI0 fun i j=>.int (g i j)):=by
 intro pins s σ H x y v u Q I rx ry h
 obtain⟨i,j,rfl,rfl,q⟩:=h
 obtain⟨t,rfl⟩:=rx
 obtain⟨t',rfl⟩:=ry
 exact rule i j t t' s _ _ ⟨.int (g i j),H,I.tok _,⟨_,rfl⟩,q⟩
theorem A8l {f:Value->Value->Sem Value} {g:Int->Int->Bool}
  (rule:∀(i j:Int) (t u:Tok) (s:Shared) (Q:Value->Shared->Prop) (E:Value->Shared->Prop),Q (.bool (g i j)) s->wpAny (model X.prog X.w) X.A (f (.int i t) (.int j u)) Q E s) :
  OpR X f (rI0 fun i j=>.bl (g i j)):=by
 intro pins s σ H x y v u Q I rx ry h
 obtain⟨i,j,rfl,rfl,q⟩:=h
 obtain⟨t,rfl⟩:=rx
 obtain⟨t',rfl⟩:=ry
 exact rule i j t t' s _ _ ⟨.bl (g i j),H,I,rfl,q⟩
def A3t (i j:Int):Prop:=0<=j/\j<=1000000/\i.natAbs < 2 ^ 64
def A6q (i j:Int):Prop:=(-(2 ^ 64) < i/\i < 2 ^ 64)\/(-(2 ^ 64) < j/\j < 2 ^ 64)
theorem A6q.ok {i j:Int} (h:A6q i j):IntMulOk i j:=by
 rcases h with ⟨h1,h2⟩ | ⟨h1,h2⟩
 ·exact .of_left (intBits_le_64 h1 h2)
 ·exact .of_right (intBits_le_64 h1 h2)
theorem L6:OpR X (binaryOp .Add) (rI0 fun i j=>.int (i + j)):=A8k fun _ _ _ _ _ _ _ q=>add_int q
theorem A8m:OpR X (binaryOp .Sub) (rI0 fun i j=>.int (i - j)):=A8k fun _ _ _ _ _ _ _ q=>sub_int q
theorem A3u:OpR X (binaryOp .Mult) (rI A6q fun i j=>.int (i * j)):=opI fun _ _ _ _ _ _ _ hc q=>mul_int q hc.ok
theorem i8:OpR X (binaryOp .Mod) (rI (fun _ j=>0 < j) fun i j=>.int (i % j)):=opI fun i j _ _ _ _ _ hc q=>by
 have h1:(0:Int) < j:=hc
 exact mod_int' (by lia) (by rw[Int.fmod_eq_emod_of_nonneg i (by lia)];exact q)
theorem A6r:OpR X (binaryOp .Pow) (rI A3t fun i j=>.int (i ^ j.toNat)):=opI fun _ _ _ _ _ _ _ hc q=>pow_int_small hc.1 hc.2.1 hc.2.2 q
theorem B04:OpR X (binaryOp .LShift) (rI A3t fun i j=>.int (i * 2 ^ j.toNat)):=opI fun _ _ _ _ _ _ _ hc q=>lshift_int_small hc.1 hc.2.1 hc.2.2 q
theorem x6:OpR X (binaryOp .BitAnd) (rI0 fun i j=>.int (Builtin.bitAnd i j)):=A8k fun _ _ _ _ _ _ _ q=>and_int q
theorem A8n:OpR X (binaryOp .BitOr) (rI0 fun i j=>.int (Builtin.bitOr i j)):=A8k fun _ _ _ _ _ _ _ q=>or_int q
theorem unI {f:Value->Sem Value} {g:Int->Int}
  (rule:∀(i:Int) (t:Tok) (s:Shared) (Q:Value->Shared->Prop) (E:Value->Shared->Prop),Q (.int (g i) s.toks) { s with toks:=s.toks + 1 }->wpAny (model X.prog X.w) X.A (f (.int i t)) Q E s) :
  UnR X f (rU fun i=>.int (g i)):=by
 intro pins s σ H x v Q I rx h
 obtain⟨i,rfl,q⟩:=h
 obtain⟨t,rfl⟩:=rx
 exact rule i t s _ _ ⟨.int (g i),H,I.tok _,⟨_,rfl⟩,q⟩
theorem C2v:UnR X (unaryOp .USub) (rU fun i=>.int (-i)):=unI fun _ _ _ _ _ q=>neg_int q
end
def B5w:V->V->Bool
 | .non,.non=>true | .non,.int _=>true | .int _,.non=>true | .non,.bl _=>true | .bl _,.non=>true | .non,.str _=>true | .str _,.non=>true
 | .int _,.int _=>true | .bl _,.bl _=>true | .str _,.str _=>true | .byt _,.byt _=>true
 | .int _,.str _=>true | .str _,.int _=>true | .bl _,.str _=>true | .str _,.bl _=>true
 | _,_=>false
def rEq:R2:=fun x y H Q=>B5w x y=true/\Q (.bl (decide (x=y))) H
def rNe:R2:=fun x y H Q=>B5w x y=true/\Q (.bl (!decide (x=y))) H
theorem B5x {i j:Int}:decide (V.int i=V.int j)=(i == j):=by
 rw[B0i]
 simp
theorem B5y {i j:Bool}:decide (V.bl i=V.bl j)=(i == j):=by
 rw[B0i]
 simp
theorem B5z {i j:Str}:decide (V.str i=V.str j)=(i == j):=by
 rw[B0i]
 simp
theorem B50 {i j:Array UInt8}:decide (V.byt i=V.byt j)=(i.toList == j.toList):=by
 rw[B0i]
 cases i
 cases j
 simp
section
variable {X:Cx} {a b c:Expr} {ta tb tc:TE} {pos:Pos}
theorem J8 {pins:List (Addr×Obj)} {σ:St} {H:Hp} {s:Shared} {Q:VK} {k k':Bool} (I:Inv X pins σ H s) (q:Q (.bl k) H) (e:k=k'):EP X pins σ Q (.bool k') s:=by
 subst e
 exact⟨.bl k,H,I,rfl,q⟩
theorem B51:OpR X (compareOp .Eq) rEq:=by
 intro pins s σ H x y v u Q I rx ry h
 obtain⟨hs,q⟩:=h
 cases x with
 | non=>
  cases rx
  cases y with
  | non=>cases ry;exact PySem.EqNone.eq_none_none (J8 I q (by simp))
  | bl j=>cases ry;exact PySem.EqNone.eq_none_bool (J8 I q (by simp))
  | int j=>obtain⟨t',rfl⟩:=ry;exact PySem.EqNone.eq_none_int (J8 I q (by simp))
  | str j=>obtain⟨t',rfl⟩:=ry;exact PySem.EqNone.eq_none_str (J8 I q (by simp))
  | _=>exact absurd (show false=true from hs) G6
 | bl i=>
  cases rx
  cases y with
  | non=>cases ry;exact PySem.EqNone.eq_bool_none (J8 I q (by simp))
  | bl j=>cases ry;exact eq_bool (J8 I q B5y)
  | str j=>obtain⟨t',rfl⟩:=ry;exact PySem.EqMixed.eq_bool_str (J8 I q (by simp))
  | _=>exact absurd (show false=true from hs) G6
 | int i=>
  obtain⟨t,rfl⟩:=rx
  cases y with
  | non=>cases ry;exact PySem.EqNone.eq_int_none (J8 I q (by simp))
  | int j=>obtain⟨t',rfl⟩:=ry;exact eq_int (J8 I q B5x)
  | str j=>obtain⟨t',rfl⟩:=ry;exact PySem.EqMixed.eq_int_str (J8 I q (by simp))
  | _=>exact absurd (show false=true from hs) G6
 | str i=>
  obtain⟨t,rfl⟩:=rx
  cases y with
  | non=>cases ry;exact PySem.EqNone.eq_str_none (J8 I q (by simp))
  | bl j=>cases ry;exact PySem.EqMixed.eq_str_bool (J8 I q (by simp))
  | int j=>obtain⟨t',rfl⟩:=ry;exact PySem.EqMixed.eq_str_int (J8 I q (by simp))
  | str j=>obtain⟨t',rfl⟩:=ry;exact eq_str (J8 I q B5z)
  | _=>exact absurd (show false=true from hs) G6
 | byt i=>
  obtain⟨t,rfl⟩:=rx
  cases y with
  | byt j=>obtain⟨t',rfl⟩:=ry;exact PySem.W.eq_bytes (J8 I q B50)
  | _=>exact absurd (show false=true from hs) G6
 | _=>cases y <;> exact absurd (show false=true from hs) G6
theorem C2w:OpR X (compareOp .NotEq) rNe:=by
 intro pins s σ H x y v u Q I rx ry h
 obtain⟨hs,q⟩:=h
 cases x with
 | non=>
  cases rx
  cases y with
  | non=>cases ry;exact PySem.EqNone.ne_none_none (J8 I q (by simp))
  | bl j=>cases ry;exact PySem.EqNone.ne_none_bool (J8 I q (by simp))
  | int j=>obtain⟨t',rfl⟩:=ry;exact PySem.EqNone.ne_none_int (J8 I q (by simp))
  | str j=>obtain⟨t',rfl⟩:=ry;exact PySem.EqNone.ne_none_str (J8 I q (by simp))
  | _=>exact absurd (show false=true from hs) G6
 | bl i=>
  cases rx
  cases y with
  | non=>cases ry;exact PySem.EqNone.ne_bool_none (J8 I q (by simp))
  | bl j=>cases ry;exact ne_bool (J8 I q (congrArg not B5y))
  | str j=>obtain⟨t',rfl⟩:=ry;exact PySem.EqMixed.ne_bool_str (J8 I q (by simp))
  | _=>exact absurd (show false=true from hs) G6
 | int i=>
  obtain⟨t,rfl⟩:=rx
  cases y with
  | non=>cases ry;exact PySem.EqNone.ne_int_none (J8 I q (by simp))
  | int j=>obtain⟨t',rfl⟩:=ry;exact ne_int (J8 I q (congrArg not B5x))
  | str j=>obtain⟨t',rfl⟩:=ry;exact PySem.EqMixed.ne_int_str (J8 I q (by simp))
  | _=>exact absurd (show false=true from hs) G6
 | str i=>
  obtain⟨t,rfl⟩:=rx
  cases y with
  | non=>cases ry;exact PySem.EqNone.ne_str_none (J8 I q (by simp))
  | bl j=>cases ry;exact PySem.EqMixed.ne_str_bool (J8 I q (by simp))
  | int j=>obtain⟨t',rfl⟩:=ry;exact PySem.EqMixed.ne_str_int (J8 I q (by simp))
  | str j=>obtain⟨t',rfl⟩:=ry;exact ne_str (J8 I q (congrArg not B5z))
  | _=>exact absurd (show false=true from hs) G6
 | byt i=>
  obtain⟨t,rfl⟩:=rx
  cases y with
  | byt j=>obtain⟨t',rfl⟩:=ry;exact PySem.W.ne_bytes (J8 I q (congrArg not B50))
  | _=>exact absurd (show false=true from hs) G6
 | _=>cases y <;> exact absurd (show false=true from hs) G6
theorem x8:OpR X (compareOp .Lt) (rI0 fun i j=>.bl (decide (i < j))):=A8l fun _ _ _ _ _ _ _ q=>lt_int q
theorem B05:OpR X (compareOp .LtE) (rI0 fun i j=>.bl (decide (i<=j))):=A8l fun _ _ _ _ _ _ _ q=>le_int q
theorem A1g:OpR X (compareOp .Gt) (rI0 fun i j=>.bl (decide (j < i))):=A8l fun _ _ _ _ _ _ _ q=>gt_int q
theorem A8o:OpR X (compareOp .GtE) (rI0 fun i j=>.bl (decide (j<=i))):=A8l fun _ _ _ _ _ _ _ q=>ge_int q
theorem l6:OpR X (compareOp .Is) (fun x y H Q=>y=.non/\Q (.bl (decide (x=.non))) H):=by
 intro pins s σ H x y v u Q I rx ry h
 obtain⟨rfl,q⟩:=h
 cases ry
 refine is_none_gen (J8 I q ?_)
 cases x <;> first
  | (cases rx;rfl)
  | (obtain⟨t,rfl⟩:=rx;rfl)
theorem l7:OpR X (compareOp .IsNot) (fun x y H Q=>y=.non/\Q (.bl (!decide (x=.non))) H):=by
 intro pins s σ H x y v u Q I rx ry h
 obtain⟨rfl,q⟩:=h
 cases ry
 refine isnot_none_gen (J8 I q ?_)
 cases x <;> first
  | (cases rx;rfl)
  | (obtain⟨t,rfl⟩:=rx;rfl)
theorem D0 (b:Expr) {op:CmpOp} (h:op≠.In:=by decide) (h2:op≠.NotIn:=by decide):behindInMarks op b=false:=by
 have e1:(op == CmpOp.In)=false:=by cases op <;> first | rfl | exact absurd rfl h
 have e2:(op == CmpOp.NotIn)=false:=by cases op <;> first | rfl | exact absurd rfl h2
 cases b <;> simp [behindInMarks,e1,e2]
theorem A8p {op:CmpOp} {r:R2} (ho:OpR X (compareOp op) r) (ha:PE X a ta) (hb:PE X b tb) (hm:behindInMarks op b=false):PE X (.Compare a [op] [b] pos) (tOp r ta tb):=by
 intro pins s σ H Q I h
 exact wpAny_Compare1 (B03 ha hb I h fun v u s2 x y H2 I2 rx ry q=>ho pins s2 σ H2 x y v u Q I2 rx ry q) hm
def B52 (t:TE):TT:=fun σ H Q=>t σ H fun x H'=>∃k,x=.bl k/\Q k H'
theorem W8 {op:CmpOp} {r:R2} (ho:OpR X (compareOp op) r) (ha:PE X a ta) (hb:PE X b tb) (hm:behindInMarks op b=false):PT X (.Compare a [op] [b] pos) (B52 (tOp r ta tb)):=by
 intro pins s σ H Q I h
 refine wpAny_isTrue_Compare1 (thn (ha pins s σ H _ I h) fun v s1 zz60=>el5 zz60 fun x H1 I1 r1 q1=>thn (hb pins s1 σ H1 _ I1 q1) fun u s2 zz61=>el5 zz61 fun y H2 I2 r2 q2=>
  thn (ho pins s2 σ H2 x y v u _ I2 r1 r2 q2) fun c s3 zz62=>zz62.elim fun z zz63=>zz63.elim fun H3 zz64=>zz64.elim fun I3 zz65=>zz65.elim fun r3 zz66=>zz66.elim fun k zz67=>zz67.elim fun e q3=>?_) hm
 subst e
 cases r3
 exact wpAny_truthy_bool ⟨H3,I3,q3⟩
def B06 (r r':R2) (ta tb tc:TE):TE:=fun σ H Q=>ta σ H fun x H1=>tb σ H1 fun y H2=>r x y H2 fun z H3=>∃k,z=.bl k/\
 (if k=true then tc σ H3 fun w' H4=>r' y w' H4 Q else Q (.bl false) H3)
theorem C2x {op op':CmpOp} {r r':R2} (ho:OpR X (compareOp op) r) (ho':OpR X (compareOp op') r') (ha:PE X a ta) (hb:PE X b tb) (hc:PE X c tc)
  (hm:lastMarks [op,op'] [b,c]=false:=by with_unfolding_all rfl):PE X (.Compare a [op,op'] [b,c] pos) (B06 r r' ta tb tc):=by
 intro pins s σ H Q I h
 refine Compare_chain (thn (ha pins s σ H _ I h) fun v s1 zz68=>el5 zz68 fun x H1 I1 r1 q1=>chain_link (thn (hb pins s1 σ H1 _ I1 q1) fun u s2 zz69=>el5 zz69 fun y H2 I2 r2 q2=>
  thn (ho pins s2 σ H2 x y v u _ I2 r1 r2 q2) fun d s3 zz70=>zz70.elim fun z zz71=>zz71.elim fun H3 zz72=>zz72.elim fun I3 zz73=>zz73.elim fun r3 zz74=>zz74.elim fun k zz75=>zz75.elim fun e q3=>?_)) hm
 subst e
 cases r3
 refine wpAny_truthy_bool ?_
 cases k with
 | false=>exact ite_ff ⟨.bl false,H3,I3,rfl,q3⟩
 | true=>exact ite_tt (chain_last (thn (hc pins s3 σ H3 _ I3 q3) fun w' s4 zz76=>el5 zz76 fun z' H4 I4 r4 q4=>ho' pins s4 σ H4 y z' u w' Q I4 r2 r4 q4))
theorem C2y {op op':CmpOp} {r r':R2} (ho:OpR X (compareOp op) r) (ho':OpR X (compareOp op') r') (ha:PE X a ta) (hb:PE X b tb) (hc:PE X c tc)
  (hm:lastMarks [op,op'] [b,c]=false:=by with_unfolding_all rfl):PT X (.Compare a [op,op'] [b,c] pos) (B52 (B06 r r' ta tb tc)):=by
 intro pins s σ H Q I h
 refine isTrue_chain (thn (ha pins s σ H _ I h) fun v s1 zz77=>el5 zz77 fun x H1 I1 r1 q1=>test_link (thn (hb pins s1 σ H1 _ I1 q1) fun u s2 zz78=>el5 zz78 fun y H2 I2 r2 q2=>
  thn (ho pins s2 σ H2 x y v u _ I2 r1 r2 q2) fun d s3 zz79=>zz79.elim fun z zz80=>zz80.elim fun H3 zz81=>zz81.elim fun I3 zz82=>zz82.elim fun r3 zz83=>zz83.elim fun k zz84=>zz84.elim fun e q3=>?_)) hm
 subst e
 cases r3
 refine wpAny_truthy_bool ?_
 cases k with
 | false=>
  obtain⟨k',e',q'⟩:=q3
  cases e'
  exact ite_ff ⟨H3,I3,q'⟩
 | true=>
  refine ite_tt (test_last (thn (hc pins s3 σ H3 _ I3 q3) fun w' s4 zz85=>el5 zz85 fun z' H4 I4 r4 q4=>thn (ho' pins s4 σ H4 y z' u w' _ I4 r2 r4 q4) fun d' s5 zz86=>zz86.elim fun z2 zz87=>zz87.elim fun H5 zz88=>zz88.elim fun I5 zz89=>zz89.elim fun r5 zz90=>zz90.elim fun k2 zz91=>zz91.elim fun e2 q5=>?_))
  subst e2
  cases r5
  exact wpAny_truthy_bool ⟨H5,I5,q5⟩
theorem A3v:(sizeLine:Nat) < 2 ^ 63:=by rw[sizeLine_eq];decide
theorem Y9 {x:V} {us:List Value} (r:C3 [x] us):∃u,us=[u]/\D8 x u:=by
 cases r with
 | cons r1 r2=>cases r2;exact⟨_,rfl,r1⟩
theorem A8q {x y:V} {us:List Value} (r:C3 [x,y] us):∃u w',us=[u,w']/\D8 x u/\D8 y w':=by
 cases r with
 | cons r1 r2=>
  cases r2 with
  | cons r3 r4=>cases r4;exact⟨_,_,rfl,r1,r3⟩
theorem C2z:W7 X (.builtin "abs") (fun xs H Q=>∃i,xs=[.int i]/\Q (.int (if i < 0 then -i else i)) H):=by
 intro pins s σ H xs us Q I r h
 obtain⟨i,rfl,q⟩:=h
 obtain⟨u,rfl,t,rfl⟩:=Y9 r
 exact call_abs_int fun u tk=>⟨.int (if i < 0 then -i else i),H,I.tok _,⟨_,rfl⟩,q⟩
theorem B53 (hc:X.calm=true):W7 X (.builtin "max") (fun xs H Q=>∃i j,xs=[.int i,.int j]/\Q (.int (if j > i then j else i)) H):=by
 intro pins s σ H xs us Q I r h
 obtain⟨i,j,rfl,q⟩:=h
 obtain⟨u,w',rfl,⟨t,rfl⟩,⟨t',rfl⟩⟩:=A8q r
 refine max_two_ints (I.ok.hd hc) fun h' tk k=>⟨_,H,I.kept k,?_,q⟩
 by_cases hj:j > i
 ·rw[if_pos hj,if_pos hj];exact⟨_,rfl⟩
 ·rw[if_neg hj,if_neg hj];exact⟨_,rfl⟩
theorem A1h (hc:X.calm=true):W7 X (.builtin "min") (fun xs H Q=>∃i j,xs=[.int i,.int j]/\Q (.int (if j < i then j else i)) H):=by
 intro pins s σ H xs us Q I r h
 obtain⟨i,j,rfl,q⟩:=h
 obtain⟨u,w',rfl,⟨t,rfl⟩,⟨t',rfl⟩⟩:=A8q r
 refine min_two_ints (I.ok.hd hc) fun h' tk k=>⟨_,H,I.kept k,?_,q⟩
 by_cases hj:j < i
 ·rw[if_pos hj,if_pos hj];exact⟨_,rfl⟩
 ·rw[if_neg hj,if_neg hj];exact⟨_,rfl⟩
theorem B54:W7 X (.type "int") (fun xs H Q=>(∃i,xs=[.int i]/\Q (.int i) H)\/∃k,xs=[.bl k]/\Q (.int (if k then 1 else 0)) H):=by
 intro pins s σ H xs us Q I r h
 rcases h with ⟨i,rfl,q⟩ | ⟨k,rfl,q⟩
 ·obtain⟨u,rfl,t,rfl⟩:=Y9 r
  exact call_int_int ⟨.int i,H,I,⟨_,rfl⟩,q⟩
 ·obtain⟨u,rfl,r1⟩:=Y9 r
  cases r1
  exact call_int_bool ⟨.int (if k then 1 else 0),H,I.tok _,⟨_,rfl⟩,q⟩
end
structure B07 (h:Heap) (x dx C:Addr) (mA:Str->Option Value):Prop where
 obj:h.get? x=some (PySem.W.instObj C dx)
 ns:h.Ns1 dx mA
 ne:dx≠x
theorem C20 {h:Heap} {dx:Addr} {mA:Str->Option Value} (n:h.Ns1 dx mA):∃od,h.get? dx=some od/\∀name,PySem.W.lookIn name od=some (mA name):=by
 obtain⟨o,es,ep,ho,hd,hk,_,hm⟩:=n
 refine⟨o,ho,fun name=>?_⟩
 have e:=hm name
 unfold nsFind findBy at e
 rw[<-Array.find?_toList] at e
 unfold PySem.W.lookIn
 rw[hd]
 dsimp only
 split
 ·rename_i y q
  rw[q] at e
  exact congrArg some e
 ·rename_i q
  rw[q] at e
  have a:es.toList.any (·.refKey)=false:=by
   rw[List.any_eq_false]
   intro y hy
   obtain⟨z,t,hkey⟩:=hk y (Array.mem_toList_iff.mp hy)
   simp [DictEntry.refKey,hkey]
  have a':¬ es.toList.any (·.refKey)=true:=by rw[a];exact G6
  rw[if_neg a']
  exact congrArg some e
theorem B07.look {h:Heap} {x dx C:Addr} {mA:Str->Option Value} (I:B07 h x dx C mA):∃od,PySem.W.InstAt h x (PySem.W.instObj C dx) C (some od)/\∀name,PySem.W.lookIn name od=some (mA name):=
 let ⟨od,ho,hl⟩:=C20 I.ns
 ⟨od,⟨I.obj,rfl,rfl,ho⟩,hl⟩
section
variable {prog:Program} {w:World} {A:Around} {E:Value->Shared->Prop} {s:Shared} {K:A7} {x dx C f:Addr} {mA:Str->Option Value} {name:Str} {v:Value}
end
section
variable {P:Program} {w:World} {H H':Hp} {h h':Heap} {a C dx:Addr} {fs fs':List (Str×V)}
theorem C21 (hok:HOk P w H h) (e:H a=some (.ins C dx fs)):∃mA,B07 h a dx C mA/\(∀f,A1c (fs.lookup f) (mA f))/\PySem.Within mA (fs.map (·.1))/\fs.length<=1000/\H dx=some (.own a):=by
 obtain⟨d,z,ne,ob,mA,n,r,q⟩:=(show J1 P w H h a (.ins C dx fs) from hok a _ e)
 exact⟨mA,⟨ob,n,ne⟩,r,q,z,d⟩
end
structure Cls (K:A7) (C:Addr):Prop where
 pg:PySem.W.plainGet K C Str.empty=true
 hd:PySem.W.hasDictIn K C=true
 po:PySem.W.plainOver K C=true
 sa:PySem.W.findIn K (.ref C) "__setattr__" = some (some (.builtin "object.__setattr__"))
theorem Cls.get {K:A7} {C:Addr} (c:Cls K C) (f:Str):PySem.W.plainGet K C f=true:=c.pg
section
variable {X:Cx} {pins:List (Addr×Obj)} {σ:St} {H:Hp} {s:Shared} {a C dx:Addr} {fs:List (Str×V)} {f:Str} {v:V} {A:Around} {E:Value->Shared->Prop}
end
section
variable {X:Cx} {o e value:Expr} {f:Str} {pos pos' tpos:Pos} {ta tv:TE}
end
section
variable {X:Cx} {pins:List (Addr×Obj)} {σ:St} {H:Hp} {s:Shared} {A:Around} {E:Value->Shared->Prop} {Q:Value->Shared->Prop} {c:Value} {b:Bool}
inductive V7 (K:A7) (H:Hp):V->Value->Prop where
 | non:V7 K H .non (.type "NoneType")
 | bl (x:Bool):V7 K H (.bl x) (.type "bool")
 | int (i:Int):V7 K H (.int i) (.type "int")
 | str (x:Str):V7 K H (.str x) (.type "str")
 | flt (x:UInt64):V7 K H (.flt x) (.type "float")
 | lst {a:Addr} {xs:List V} (e:H a=some (.lst xs)):V7 K H (.ref a) (.type "list")
 | frz {a:Addr} {o:Obj} {xs:List V} (e:H a=some (.frz o (.lst xs))):V7 K H (.ref a) (.type "list")
 | tup {a:Addr} {xs:List V} (e:H a=some (.tup xs)):V7 K H (.ref a) (.type "tuple")
 | dK {a:Addr} {kvs:List (Key×V)} (e:H a=some (.dK kvs)):V7 K H (.ref a) (.type "dict")
 | dT {a:Addr} {kvs:List (List Key×V)} (e:H a=some (.dT kvs)):V7 K H (.ref a) (.type "dict")
 | ins {a C dx:Addr} {fs:List (Str×V)} (e:H a=some (.ins C dx fs)) (cl:Cls K C) (ha:PySem.W.findIn K (.ref C) "__class__" = some (some (.builtin "object.__class__")))
   (hn:PySem.W.specialIn K (.builtin "object.__class__") "__get__" = some (some (.builtin "getset_descriptor.__get__"))) (htk:PySem.W.takesIn K (.builtin "object.__class__")=some true)
   (hm:PySem.W.mroIn K C (.type "object")=some true):V7 K H (.ref a) (.ref C)
theorem B55 {x:V} {u t:Value} (I:Inv X pins σ H s) (rx:D8 x u) (ty:V7 X.K H x t) (e:b6 X.K t c=some b) (h:∀tk,Q (.bool b) { s with toks:=tk }) :
  wpAny (model X.prog X.w) A (call (.builtin "isinstance") [u,c]) Q E s:=by
 cases ty with
 | non=>cases (show u=Value.none from rx);exact f9 PySem.W.kitx_none I.kIn True.intro e (fun z=>nomatch z) h
 | bl y=>cases (show u=Value.bool y from rx);exact f9 PySem.W.kitx_bool I.kIn True.intro e (fun z=>nomatch z) h
 | int i=>obtain⟨t,q⟩:=(show ∃t,u=Value.int i t from rx);cases q;exact f9 PySem.W.kitx_int I.kIn True.intro e (fun z=>nomatch z) h
 | str y=>obtain⟨t,q⟩:=(show ∃t,u=Value.str y t from rx);cases q;exact f9 PySem.W.kitx_str I.kIn True.intro e (fun z=>nomatch z) h
 | flt y=>obtain⟨t,q⟩:=(show ∃t,u=Value.float y t from rx);cases q;exact f9 PySem.W.kitx_float I.kIn True.intro e (fun z=>nomatch z) h
 | @lst a xs ea=>
  cases (show u=Value.ref a from rx)
  obtain⟨_,_,n,_,h1⟩:=(show J1 X.prog X.w H s.heap a (.lst xs) from I.hok a _ ea)
  exact f9 PySem.W.kitx_list I.kIn ⟨_,h1,rfl⟩ e (fun z=>nomatch z) h
 | @frz a ob xs ea=>
  cases (show u=Value.ref a from rx)
  obtain⟨_,_,_,n,_,h1⟩:=(show J1 X.prog X.w H s.heap a (.frz ob (.lst xs)) from I.hok a _ ea)
  exact f9 PySem.W.kitx_list I.kIn ⟨_,h1,rfl⟩ e (fun z=>nomatch z) h
 | @tup a xs ea=>
  cases (show u=Value.ref a from rx)
  obtain⟨_,_,_,p⟩:=(show J1 X.prog X.w H s.heap a (.tup xs) from I.hok a _ ea)
  obtain⟨o,h1,h2,_⟩:=p
  exact f9 PySem.W.kitx_tuple I.kIn ⟨o,h1,h2⟩ e (fun z=>nomatch z) h
 | @dK a kvs ea=>
  cases (show u=Value.ref a from rx)
  obtain⟨_,_,vs,_,p⟩:=(show J1 X.prog X.w H s.heap a (.dK kvs) from I.hok a _ ea)
  obtain⟨o,es,ep,h1,h2,_⟩:=p
  exact f9 PySem.W.kitx_dict I.kIn ⟨o,h1,h2.1⟩ e (fun z=>nomatch z) h
 | @dT a kvs ea=>
  cases (show u=Value.ref a from rx)
  obtain⟨_,_,xs,_,o,es,ep,h1,h2,_⟩:=(show J1 X.prog X.w H s.heap a (.dT kvs) from I.hok a _ ea)
  exact f9 PySem.W.kitx_dict I.kIn ⟨o,h1,h2.1⟩ e (fun z=>nomatch z) h
 | @ins a C dx fs ea cl ha hn htk hm=>
  cases (show u=Value.ref a from rx)
  obtain⟨mA,O,_⟩:=C21 I.hok ea
  obtain⟨od,J,_⟩:=O.look
  exact f9 (PySem.W.kitx_own (cl.get _) cl.hd ha hn htk hm) I.kIn J e (fun z=>nomatch z) h
end
structure P8 (k:Nat) (A:Around):Prop where
 hd:A.handled=none
 dp:A.depth + 3 * k + 5 < recursionLimit
 un:A.units + 16 * k + 200 < cLine
 gd:A.guards=some []
theorem P8.mono {j k:Nat} {A:Around} (r:P8 k A) (h:j<=k):P8 j A:=⟨r.hd,by have:=r.dp;lia,by have:=r.un;lia,r.gd⟩
theorem P8.deeper {k:Nat} {A:Around} (r:P8 (k + 1) A) (env:Env):P8 k (A.deeper env):=
 ⟨r.hd,by have:=r.dp;show A.depth + 1 + 3 * k + 5 < _;lia,by have:=r.un;show A.units + 3 + 16 * k + 200 < _;lia,r.gd⟩
theorem P8.depth {k:Nat} {A:Around} (r:P8 k A):A.depth < recursionLimit:=by have:=r.dp;lia
theorem P8.units {k:Nat} {A:Around} (r:P8 k A):A.units + 64 < cLine:=by have:=r.un;lia
def Z0:TA:=fun _ H Q=>Q [] H
def W9 (ta:TE) (tr:TA):TA:=fun σ H Q=>ta σ H fun x H1=>tr σ H1 fun xs H2=>Q (x::xs) H2
section
variable {X:Cx} {e:Expr} {es:List Expr} {te:TE} {t:TA} {pos:Pos}
theorem C6:PA X [] Z0:=fun _ _ _ _ H Q I h=>Calls.spliced_nil ⟨[],H,I,.nil,h⟩
theorem B3 (ha:PE X e te) (hr:PA X es t) (hs:starEach (e::es) X.env=(false,eval e X.env)::starEach es X.env:=by rfl):PA X (e::es) (W9 te t):=by
 intro pos pins s σ H Q I h
 rw[hs]
 show wpAny _ _ (spliced ((false,eval e X.env)::backTo pos (starEach es X.env))) _ _ s
 refine Calls.spliced_cons (thn (ha pins s σ H _ I h) fun u s1 zz173=>el5 zz173 fun x H1 I1 r1 q1=>?_)
 exact thn (hr pos pins s1 σ H1 _ I1 q1) fun us s2 zz174=>el5 zz174 fun xs H2 I2 r2 q2=>⟨x::xs,H2,I2,.cons r1 r2,q2⟩
def C22 (t:TA):TE:=fun σ H Q=>t σ H fun xs H1=>xs.length<=sizeLine/\∀p,H1 p=none->Q (.ref p) (upd H1 p (.tup xs))
def C23 (t:TA):TE:=fun σ H Q=>t σ H fun xs H1=>xs.length<=sizeLine/\∀p,H1 p=none->Q (.ref p) (upd H1 p (.lst xs))
theorem A6s {x1} (h:PA X es t):PE X (.Tuple es x1 pos) (C22 t):=by
 intro pins s σ H Q I hq
 refine wpAny_Tuple_spliced (thn (h pos pins s σ H _ I hq) fun us s1 zz175=>zz175.elim fun xs zz176=>zz176.elim fun H1 zz177=>zz177.elim fun I1 zz178=>zz178.elim fun r zz179=>zz179.elim fun z q=>⟨by rw[<-r.length];exact z,?_⟩)
 have hf:H1 s1.heap.objs.size=none:=I1.hok.fresh (D2 _)
 refine⟨.ref s1.heap.objs.size,upd H1 s1.heap.objs.size (.tup xs),I1.laid (t':=s1.toks) (fun b u e=>U3 _ e) (D2 _) ?_,rfl,q _ hf⟩
 exact⟨z,us,r,⟨_,T2 _ rfl,rfl,_,rfl⟩⟩
theorem B08 (h:PA X es t):PE X (.List es pos) (C23 t):=by
 intro pins s σ H Q I hq
 refine wpAny_List_spliced (thn (h pos pins s σ H _ I hq) fun us s1 zz180=>zz180.elim fun xs zz181=>zz181.elim fun H1 zz182=>zz182.elim fun I1 zz183=>zz183.elim fun r zz184=>zz184.elim fun z q=>⟨by rw[<-r.length];exact z,?_⟩)
 have hf:H1 s1.heap.objs.size=none:=I1.hok.fresh (D2 _)
 refine⟨.ref s1.heap.objs.size,upd H1 s1.heap.objs.size (.lst xs),I1.laid (t':=s1.toks) (fun b u e=>U3 _ e) (D2 _) ?_,rfl,q _ hf⟩
 exact⟨z,us,0,r,T2 _ rfl⟩
end
abbrev Sp:=List V->Hp->VK->XK->Prop
abbrev CXT:=List Env->Hp->Shared->XK->Value->Shared->Prop
structure A8r (P:Program) (w:World) (K:A7) (mg:Str->Option Value) (base:Heap) (A:Around) (outer:List Env) (s:Shared) (H:Hp):Prop where
 frames:A.frames=some outer
 mod:Mod K mg base
 bs:∀b o,base.get? b=some o->s.heap.get? b=some o/\H b=none
 bsz:base.objs.size<=s.heap.objs.size
 funs:s.heap.FunFrames base outer
 frf:∀b∈frs outer,H b=none
 hok:HOk P w H s.heap
 bare:AllBare s.gens
def CE (outer:List Env) (P:Program) (w:World) (H:Hp) (s:Shared) (Q:VK) (u:Value) (s':Shared):Prop:=
 ∃v H',s'.os=s.os/\AllBare s'.gens/\Un (frs outer) [] H H' s.heap s'.heap/\HOk P w H' s'.heap/\D8 v u/\Q v H'
def CR (CX:CXT) (outer:List Env) (P:Program) (w:World) (H:Hp) (s:Shared) (Q:VK) (E:XK) (r:Result) (s':Shared):Prop:=
 match r with
 | .ok (.ret u)=>CE outer P w H s Q u s'
 | .ok _=>False
 | .error e=>CX outer H s E e s'
structure C9 (P:Program) (w:World) (K:A7) (mg:Str->Option Value) (base:Heap) (CX:CXT) (k:Nat) (f:Addr) (fd:FuncData) (ps:List Str) (sp:Sp):Prop where
 len:∀vs H Q E,sp vs H Q E->vs.length=ps.length
 run:∀(A:Around) (outer:List Env) (s:Shared) (H:Hp) (args:Args) (us:List Value) (vs:List V) (Q:VK) (E:XK),P8 k A->A8r P w K mg base A outer s H->BindsTo s fd args (ps.zip us)->C3 vs us->sp vs H Q E->
  codeAny (model P w) A (.call (.ref f) args) (CR CX outer P w H s Q E) s
theorem C9.imp {P:Program} {w:World} {K:A7} {mg:Str->Option Value} {base:Heap} {CX:CXT} {k:Nat} {f:Addr} {fd:FuncData} {ps:List Str} {sp sp':Sp} (F:C9 P w K mg base CX k f fd ps sp)
  (h:∀vs H Q E,sp' vs H Q E->sp vs H Q E):C9 P w K mg base CX k f fd ps sp':=
 ⟨fun vs H Q E q=>F.len vs H Q E (h _ _ _ _ q),fun A outer s H args us vs Q E hr he hb hv hs=>F.run A outer s H args us vs Q E hr he hb hv (h _ _ _ _ hs)⟩
section
variable {X:Cx} {pins:List (Addr×Obj)} {σ:St} {H:Hp} {s s':Shared}
theorem Inv.env0 (I:Inv X pins σ H s):A8r X.prog X.w X.K X.mg X.base X.A X.stack s H:=
 ⟨I.ok.frames,I.ok.mod,I.bs,V5 I.ok.bsz I.sz,I.stack,I.stkFree,I.hok,I.bare⟩
theorem Inv.after {Q:VK} {u:Value} (I:Inv X pins σ H s) (h:CE X.stack X.prog X.w H s Q u s'):EP X pins σ Q u s':=by
 obtain⟨v,H',os,bare,un,hok,r,q⟩:=h
 obtain⟨hh,g,d,t,os'⟩:=s'
 obtain rfl:os'=s.os:=os
 exact⟨v,H',I.call (h':=hh) (g':=g) (d':=d) (t':=t) (ch:=[]) un hok bare (fun b z=>absurd z (by simp)),r,q⟩
end
def B09 (sp:Sp) (dvs:List V) (E:XK) (t:TA):TE:=fun σ H Q=>t σ H fun vs H1=>sp (vs++dvs) H1 Q E
def A3w (K:A7) (fd:FuncData) (ps:List Str) (ds:List Value):Prop:=
 ∀(s:Shared) (us:List Value),K.In s.heap->(us++ds).length=ps.length->BindsTo s fd ⟨us,[]⟩ (ps.zip (us++ds))
theorem A3w.all {K:A7} {fd:FuncData} {ps:List Str} (h:∀us:List Value,us.length=ps.length->bindArgs fd ⟨us,[]⟩=pure (ps.zip us)):A3w K fd ps []:=fun s us _ hl=>by
 rw[Q0] at hl ⊢
 exact .of_eq (h us hl)
def B1a (CX:CXT) (X:Cx) (E:XK):Prop:=∀(pins:List (Addr×Obj)) (σ:St) (H:Hp) (s:Shared) (e:Value) (s':Shared),Inv X pins σ H s->CX X.stack H s E e s'->X.xe e s'
section
variable {X:Cx} {CX:CXT} {k:Nat} {f C:Addr} {fd:FuncData} {ps:List Str} {sp:Sp} {dvs:List V} {ds:List Value} {E:XK} {x m:Str} {p pos apos:Pos} {e o:Expr} {es:List Expr} {ta:TE} {t:TA}
theorem C24 {pins:List (Addr×Obj)} {σ:St} {H:Hp} {s:Shared} {Q:VK} {us:List Value} {vs:List V} (F:C9 X.prog X.w X.K X.mg X.base CX k f fd ps sp) (hr:P8 k X.A) (hb:A3w X.K fd ps ds) (hd:C3 dvs ds) (hx:B1a CX X E)
  (I:Inv X pins σ H s) (r:C3 vs us) (h:sp (vs++dvs) H Q E):wpAny (model X.prog X.w) X.A (call (.ref f) us) (EP X pins σ Q) X.xe s:=by
 have r2:C3 (vs++dvs) (us++ds):=r.append hd
 have hl:(us++ds).length=ps.length:=by rw[<-r2.length];exact F.len _ _ _ _ h
 refine wpAny_call (codeAny_mono (F.run X.A X.stack s H ⟨us,[]⟩ (us++ds) (vs++dvs) Q E hr I.env0 (hb s us I.kIn hl) r2 h) fun r s' hq=>?_)
 cases r with
 | error e=>exact hx pins σ H s e s' I hq
 | ok fl=>
  cases fl with
  | ret u=>exact I.after hq
  | next=>exact False.elim hq
  | brk=>exact False.elim hq
  | cont=>exact False.elim hq
theorem B7 (F:C9 X.prog X.w X.K X.mg X.base CX k f fd ps sp) (hr:P8 k X.A) (hg:Gl X x) (hm:X.mg x=some (.ref f)) (hk:B42 X.K (.ref f)=true) (hb:A3w X.K fd ps ds) (hd:C3 dvs ds) (hx:B1a CX X E)
  (ha:PA X (e::es) t) (hdb:(x == ("__debug__" : Str))=false:=by decide) (he:starEach (e::es) X.env=(false,eval e X.env)::starEach es X.env:=by rfl) (hpl:(backTo pos (starEach es X.env)).any (·.1)=false:=by rfl) :
  PE X (.Call (.Name x p) (e::es) [] pos) (B09 sp dvs E t):=by
 intro pins s σ H Q I h
 refine wpAny_Call_Name_kw (B5o I hg hm ?_ hdb)
 refine PySem.W.callWith_K (h₀:=X.base) I.ok.mod.kin hk (thn (ha pos pins s σ H _ I h) fun us s1 zz185=>el5 zz185 fun vs H1 I1 r q=>⟨I1.kIn,?_⟩) he hpl
 exact C24 F hr hb hd hx I1 r q
end
section
variable {X:Cx} {CX:CXT} {k:Nat} {f C:Addr} {fd:FuncData} {ps ks:List Str} {sp:Sp} {E:XK} {x m:Str} {p pos apos kpos:Pos} {e o:Expr} {es:List Expr} {kws:List Keyword} {te ta:TE} {t tk:TA} {nm:Option Str}
variable {g:List Value->List Value->List Value} {gV:List V->List V->List V}
end
structure E3 (N P:List Str) (sc:Scope):Prop where
 kind:sc.kind=.function
 co:sc.isCoroutine=false
 gen:sc.isGenerator=false
 nd:N.Nodup
 pre:N.take P.length=P
 par:∀x∈P,sc.names.lookup x=some .local\/sc.names.lookup x=some .cell
 nofree:∀y∈sc.names,y.2≠.free
theorem B56 {kindOf:Str->Option NameKind} {x:Str}:∀{binds:List (Str×Value)} {m:Str->Option Value},(∀v,(x,v)∉binds)->bindL kindOf binds m x=m x
 | [],_,_=>rfl
 | (n,v)::r,m,h=>by
  unfold bindL
  rw[B56 fun w hw=>h w (A9 _ hw)]
  split
  ·have:x≠n:=by rintro rfl;exact h v B2
   simp [this]
  ·rfl
theorem B57 {kindOf:Str->Option NameKind} {x:Str}:∀{binds:List (Str×Value)} {m:Str->Option Value},(∀v,(x,v)∉binds)->bindC kindOf binds m x=m x
 | [],_,_=>rfl
 | (n,v)::r,m,h=>by
  unfold bindC
  rw[B57 fun w hw=>h w (A9 _ hw)]
  split
  ·rfl
  ·have:x≠n:=by rintro rfl;exact h v B2
   simp [this]
theorem B58 {kindOf:Str->Option NameKind} {x:Str} {v:Value}:∀{P:List Str} {vs:List Value} {i:Nat} {m:Str->Option Value},P.Nodup->P[i]?=some x->vs[i]?=some v->kindOf x=some .local->
  bindL kindOf (P.zip vs) m x=some v
 | [],_,_,_,_,h,_,_=>by simp at h
 | _::_,[],_,_,_,_,h,_=>by simp at h
 | p::P,w::vs,0,m,nd,h1,h2,hk=>by
  simp at h1 h2;subst h1;subst h2
  show bindL kindOf ((p,w)::P.zip vs) m p=_
  unfold bindL
  rw[B56 fun v hv=>(A3e.mp nd).1 (List.of_mem_zip hv).1,if_pos hk]
  simp
 | p::P,w::vs,i + 1,m,nd,h1,h2,hk=>by
  show bindL kindOf ((p,w)::P.zip vs) m x=_
  unfold bindL
  exact B58 (i:=i) (A3e.mp nd).2 (by simpa using h1) (by simpa using h2) hk
theorem B59 {kindOf:Str->Option NameKind} {x:Str} {v:Value}:∀{P:List Str} {vs:List Value} {i:Nat} {m:Str->Option Value},P.Nodup->P[i]?=some x->vs[i]?=some v->kindOf x≠some .local->
  bindC kindOf (P.zip vs) m x=some v
 | [],_,_,_,_,h,_,_=>by simp at h
 | _::_,[],_,_,_,_,h,_=>by simp at h
 | p::P,w::vs,0,m,nd,h1,h2,hk=>by
  simp at h1 h2;subst h1;subst h2
  show bindC kindOf ((p,w)::P.zip vs) m p=_
  unfold bindC
  rw[B57 fun v hv=>(A3e.mp nd).1 (List.of_mem_zip hv).1,if_neg hk]
  simp
 | p::P,w::vs,i + 1,m,nd,h1,h2,hk=>by
  show bindC kindOf ((p,w)::P.zip vs) m x=_
  unfold bindC
  exact B59 (i:=i) (A3e.mp nd).2 (by simpa using h1) (by simpa using h2) hk
def start (N:List Str) (vs:List V):St:=vs.map some++D9 (N.length - vs.length) none
def i9 (CX:CXT) (P:Program) (w:World) (K:A7) (mg:Str->Option Value) (base:Heap) (N:List Str) (qual:Str) (scope:Scope) (f:Addr) (cd:Value) (A:Around) (outer:List Env) (s:Shared) (H:Hp) (E:XK):Cx where
 prog:=P
 w:=w
 K:=K
 mg:=mg
 base:=base
 A:=A.deeper (envOfC qual scope s.heap.objs.size f cd)
 N:=N
 s₀:=s
 H₀:=H
 env:=envOfC qual scope s.heap.objs.size f cd
 outer:=outer
 stack:=envOfC qual scope s.heap.objs.size f cd::outer
 ex:=[]
 calm:=true
 fn:=fun _=>true
 pn:=[]
 xe:=fun e s'=>wpAny (model P w) (A.deeper (envOfC qual scope s.heap.objs.size f cd)) (leaving (envOfC qual scope s.heap.objs.size f cd) e) (fun _ s''=>CX outer H s E e s'') (fun e' s''=>CX outer H s E e' s'') s'
theorem B6a {sc:Scope} {n:Nat} {x:Str} (h:sc.names.lookup x=some .cell):∃c,(cellsFrom n sc.names []).lookup x=some c:=by
 have q:=PySem.W.cellsFrom_some sc.names n [] (.inl h)
 exact Option.isSome_iff_exists.mp q
theorem C25 {CX:CXT} {P:Program} {w:World} {K:A7} {mg:Str->Option Value} {base:Heap} {N ps:List Str} {qual:Str} {scope:Scope} {f:Addr} {cd:Value} {A:Around} {outer:List Env} {s s1:Shared} {H:Hp} {E:XK} {us:List Value} {vs:List V}
  (S:E3 N ps scope) (hd:A.handled=none) (e0:A8r P w K mg base A outer s H) (hl:vs.length=ps.length) (r:C3 vs us)
  (x:InCallC s s.heap.objs.size (bindL (envOfC qual scope s.heap.objs.size f cd).kindOf (ps.zip us) fun _=>none) (cellsFrom (s.heap.objs.size + 1) scope.names []) (bindC (envOfC qual scope s.heap.objs.size f cd).kindOf (ps.zip us) fun _=>none) s1) :
  Inv (i9 CX P w K mg base N qual scope f cd A outer s H E) [] (start N vs) H s1:=by
 have hpl:ps.length<=N.length:=by have:=congrArg A6b S.pre;rw[T3] at this;lia
 obtain⟨h1,tk,rfl,hk⟩:=x.done
 have noA:∀b:Addr,b∉(i9 CX P w K mg base N qual scope f cd A outer s H E).ex:=fun b z=>absurd (show b∈([]:List Addr) from z) (by simp)
 refine⟨⟨e0.mod,S.kind,rfl,rfl,D2 _,fun y z c h1 h2=>?_,fun y hy=>?_,fun y c _ h=>?_,fun _=>hd,Around.frames_deeper e0.frames,.inr ⟨rfl,rfl⟩,fun b z=>absurd z (noA b),e0.bs,e0.bsz,fun b _ _=>noA b,fun b z=>absurd z (noA b),e0.funs,e0.frf⟩,
  rfl,e0.bare,Un.kept hk,⟨_,x.toInCall.ns,fun i y v h1 h2 h3=>?_⟩,fun y c h=>⟨_,x.cell y c h⟩,e0.hok.fresh (D2 _),fun y c h=>?_,fun p hp=>absurd (show p∈([]:List (Addr×Obj)) from hp) (by simp),e0.hok.kept hk,?_⟩
 ·exact name_of_addr x.apart (B0j h1) (B0j h2)
 ·have hy:scope.names.lookup y=some .cell\/scope.names.lookup y=some .free:=hy
  rcases hy with hy | hy
  ·exact B6a hy
  ·exact absurd rfl (S.nofree _ (B0j hy))
 ·exact A6a (x.above y c (B0j h))
 ·have hi:i < vs.length:=by
   unfold start at h2
   by_cases hi:i < vs.length
   ·exact hi
   ·rw[X9 (by simpa using hi)] at h2
    rw[B43] at h2
    split at h2 <;> cases h2
  have ha:vs[i]?=some v:=by
   unfold start at h2
   rw[b7 (by simpa using hi),O7] at h2
   cases e:vs[i]? with
   | none=>rw[e] at h2;cases h2
   | some a=>rw[e] at h2;cases h2;rfl
  obtain⟨u,hu,rv⟩:=r.get ha
  have hp:ps[i]?=some y:=by
   rw[<-S.pre,List.getElem?_take_of_lt (by lia)];exact h1
  have ndP:ps.Nodup:=by rw[<-S.pre];exact S.nd.sublist (List.take_sublist _ _)
  refine⟨u,rv,?_⟩
  rcases S.par y (Q8 hp) with k | k
  ·exact .inl ⟨k,B58 ndP hp hu k⟩
  ·obtain⟨c,e⟩:=B6a (n:=s.heap.objs.size + 1) k
   refine .inr ⟨.inl k,c,e,?_⟩
   have q:=x.cell y c e
   rw[B59 ndP hp hu (by show scope.names.lookup y≠_;rw[k];decide)] at q
   exact q
 ·exact e0.hok.fresh (A6a (x.above y c (B0j h)))
 ·unfold start
  show _=N.length
  rw[F5,C7,k6]
  lia
theorem C26 {CX:CXT} {P:Program} {w:World} {K:A7} {mg:Str->Option Value} {base:Heap} {k:Nat} {f:Addr} {name qual:Str} {params:Arguments} {body:List Stmt} {scope:Scope} {dV kV doc pm cdv ct oc:Value} {an od:Option Addr}
  {osl:Array (Option Value)} {N ps:List Str} {sp:Sp} (lk:K.lookup f=some ⟨oc,od,.func (A06 name qual params body scope dV kV doc pm an cdv ct),osl⟩) (hcd:B44 K cdv qual=true) (S:E3 N ps scope)
  (len:∀vs H Q E,sp vs H Q E->vs.length=ps.length)
  (hbody:∀(A:Around) (outer:List Env) (s:Shared) (H:Hp) (vs:List V) (Q:VK) (E:XK),P8 k (A.deeper (envOfC qual scope s.heap.objs.size f cdv))->sp vs H Q E->
   ∃t,PSs (i9 CX P w K mg base N qual scope f cdv A outer s H E) body t/\t { nx:=fun _ H'=>Q .non H',rt:=Q } (start N vs) H) :
  C9 P w K mg base CX (k + 1) f (A06 name qual params body scope dV kV doc pm an cdv ct) ps sp:=by
 refine⟨len,fun A outer s H args us vs Q E hr e0 hb r hsp=>?_⟩
 have hl:=len _ _ _ _ hsp
 have KX:K.In s.heap:=e0.mod.kin.keeps fun b o e=>(e0.bs b o e).1
 have lim:s.heap.NoLimit:=e0.mod.nolimit.keeps fun b o e=>(e0.bs b o e).1
 have hkind:∀y∈ps.zip us,scope.names.lookup y.1=some .local\/(scope.names.lookup y.1=some .cell/\((cellsFrom (s.heap.objs.size + 1) scope.names []).lookup y.1).isSome=true):=fun ⟨n,v⟩ hy=>by
  rcases S.par n (List.of_mem_zip hy).1 with q | q
  ·exact .inl q
  ·exact .inr ⟨q,PySem.W.cellsFrom_some _ _ _ (.inl q)⟩
 refine codeAny_call_function hr.depth (KX _ _ lk) rfl S.co S.gen rfl (PySem.W.codeRec_of KX hcd) (hb _ _ _ _ ?_)
 refine wpAny_newFunctionEnv_cells S.kind hkind fun env he s1 x=>?_
 subst he
 refine⟨lim.keeps x.toInCall.keep,codeAny_func ?_⟩
 obtain⟨t,ht,hq⟩:=hbody A outer s H vs Q E (hr.deeper _) hsp
 have I:Inv (i9 CX P w K mg base N qual scope f cdv A outer s H E) [] (start N vs) H s1:=C25 S hr.hd e0 hl r x
 refine wpAny_mono (ht [] s1 (start N vs) H _ I hq) (fun fl s' hs=>?_) fun e s' hs=>hs
 have fin:∀{σ':St} {H':Hp} {v:V} {u:Value},Inv (i9 CX P w K mg base N qual scope f cdv A outer s H E) [] σ' H' s'->D8 v u->Q v H'->CE outer P w H s Q u s':=
  fun {σ' H' v u} J rv q=>⟨v,H',J.os,J.bare,J.base,J.hok,rv,q⟩
 cases fl with
 | ret u=>
  obtain⟨v,σ',H',J,rv,q⟩:=hs
  exact fin J rv q
 | next=>
  obtain⟨σ',H',J,q⟩:=hs
  exact fin (v:=V.non) (u:=Value.none) J rfl q
 | brk=>
  obtain⟨_,_,_,q⟩:=hs
  exact False.elim q
 | cont=>
  obtain⟨_,_,_,q⟩:=hs
  exact False.elim q
section
variable {X:Cx} {x:Str} {p pos:Pos} {e:Expr} {es:List Expr} {t:TA} {id T:String} {r:List V->Hp->VK->Prop}
def tCB (r:List V->Hp->VK->Prop) (t:TA):TE:=fun σ H Q=>t σ H fun vs H1=>r vs H1 Q
theorem F8 (hc:W7 X (.builtin id) r) (hg:Gl X x) (hm:X.mg x=none) (hv:bootBuiltins x=some (.builtin id)) (ha:PA X (e::es) t) (hn:x≠ "__name__" :=by decide) (hdb:(x == ("__debug__" : Str))=false:=by decide)
  (he:starEach (e::es) X.env=(false,eval e X.env)::starEach es X.env:=by rfl) (hpl:(backTo pos (starEach es X.env)).any (·.1)=false:=by rfl):PE X (.Call (.Name x p) (e::es) [] pos) (tCB r t):=by
 intro pins s σ H Q I h
 refine wpAny_Call_Name_kw (w5 I hg hm hv ?_ hn hdb)
 exact PyProof.Rows.callWith_builtin1 (thn (ha pos pins s σ H _ I h) fun us s1 zz213=>el5 zz213 fun vs H1 I1 r1 q1=>hc pins s1 σ H1 vs us Q I1 r1 q1) he hpl
theorem l8 (hc:W7 X (.type T) r) (hg:Gl X x) (hm:X.mg x=none) (hv:bootBuiltins x=some (.type T)) (ha:PA X (e::es) t) (hn:x≠ "__name__" :=by decide) (hdb:(x == ("__debug__" : Str))=false:=by decide)
  (he:starEach (e::es) X.env=(false,eval e X.env)::starEach es X.env:=by rfl) (hpl:(backTo pos (starEach es X.env)).any (·.1)=false:=by rfl):PE X (.Call (.Name x p) (e::es) [] pos) (tCB r t):=by
 intro pins s σ H Q I h
 refine wpAny_Call_Name_kw (w5 I hg hm hv ?_ hn hdb)
 exact PyProof.Rows.callWith_type1 (thn (ha pos pins s σ H _ I h) fun us s1 zz214=>el5 zz214 fun vs H1 I1 r1 q1=>hc pins s1 σ H1 vs us Q I1 r1 q1) he hpl
end
end L2
namespace HT
open PySem PyProof.Rows
section
open PySem.SeqAt
open PySem.AutoSeq1 (wpAny_loadPart')
open PySem.MeetsSeq PySem.MeetsSeq2 PySem.MeetsSeq3
end
section
variable {prog:Program} {w:World} {A:Around} {E:Value->Shared->Prop} {s:Shared}
def sIx (n d:Nat):Option Int->Nat
 | none=>d
 | some v=>if v < 0 then (v + (n:Int)).toNat else min v.toNat n
theorem sIx_none (n d:Nat):sIx n d none=d:=rfl
theorem sIx_nat (n d k:Nat):sIx n d (some (k:Int))=min k n:=by
 show (if (k:Int) < 0 then ((k:Int) + (n:Int)).toNat else min (k:Int).toNat n)=min k n
 rw[if_neg (by lia),k7]
end
end HT
namespace L2
open PySem PySem.Spec PyProof.Rows
abbrev TO:=St->Hp->(Option Int->Hp->Prop)->Prop
def PO (X:Cx) (e:Option Expr) (t:TO):Prop:=
 ∀(pins:List (Addr×Obj)) (s:Shared) (σ:St) (H:Hp) (Q:Option Int->Hp->Prop),Inv X pins σ H s->t σ H Q->
  wpAny (model X.prog X.w) X.A (evalPart e X.env) (fun u s'=>∃o H',Inv X pins σ H' s'/\IsPart u o/\Q o H') X.xe s
def C27:TO:=fun _ H Q=>Q none H
def C28 (t:TE):TO:=fun σ H Q=>t σ H fun x H1=>∃i,x=.int i/\Q (some i) H1
theorem B6b {ns:List Int}:∀{us:List Value},C3 (ns.map V.int) us->IntsAre us ns:=by
 induction ns with
 | nil=>intro us r;rw[List.map_nil] at r;cases r;exact .nil
 | cons n ns ih=>
  intro us r
  rw[U4] at r
  cases r with
  | cons r1 r2=>
   obtain⟨t,e⟩:=r1
   subst e
   exact .cons n t (ih r2)
section
variable {X:Cx} {e:Expr} {te:TE} {lo hi:Option Expr} {tl th:TO} {pos p2:Pos}
theorem A8s:PO X none C27:=by
 intro pins s σ H Q I h
 rw[evalPart_none]
 exact wpAny_pure ⟨none,H,I,.none,h⟩
theorem A8t (h:PE X e te):PO X (some e) (C28 te):=by
 intro pins s σ H Q I hw
 rw[evalPart_some]
 refine thn (h pins s σ H _ I hw) fun u s1 zz215=>el5 zz215 fun x H1 I1 r1 q1=>?_
 obtain⟨i,rfl,q⟩:=q1
 obtain⟨t,rfl⟩:=r1
 exact⟨some i,H1,I1,.int i t,q⟩
def SlR (X:Cx) (r:V->Option Int->Option Int->Hp->VK->Prop):Prop:=
 ∀(pins:List (Addr×Obj)) (s:Shared) (σ:St) (H:Hp) (x:V) (v vl vu:Value) (lo hi:Option Int) (sl:Addr) (Q:VK),Inv X pins σ H s->D8 x v->s.heap.IsSliceOf sl vl vu .none->IsPart vl lo->IsPart vu hi->r x lo hi H Q->
  ∃T id,typeLookup (.type T) "__getitem__" = pure (some (.builtin id))/\s.TypeIs v T/\wpAny (model X.prog X.w) X.A (getItem v (.ref sl)) (EP X pins σ Q) X.xe s
def tSl (r:V->Option Int->Option Int->Hp->VK->Prop) (te:TE) (tl th:TO):TE:=fun σ H Q=>te σ H fun x H1=>tl σ H1 fun l H2=>th σ H2 fun u H3=>r x l u H3 Q
theorem A6t {r:V->Option Int->Option Int->Hp->VK->Prop} (hr:SlR X r) (he:PE X e te) (hl:PO X lo tl) (hu:PO X hi th):PE X (.Subscript e (.Slice lo hi none p2) pos) (tSl r te tl th):=by
 intro pins s σ H Q I h
 refine Subscript_ (thn (he pins s σ H _ I h) fun v s1 zz216=>el5 zz216 fun x H1 I1 r1 q1=>?_)
 refine wpAny_Slice (thn (hl pins s1 σ H1 _ I1 q1) fun vl s2 zz217=>el5 zz217 fun l H2 I2 pl q2=>thn (hu pins s2 σ H2 _ I2 q2) fun vu s3 zz218=>el5 zz218 fun u H3 I3 pu q3=>?_)
 rw[evalPart_none]
 refine wpAny_pure ?_
 have I4:Inv X pins σ H3 { s3 with heap:=s3.heap.push { cls:=.type "slice",data:=.fields #[vl,vu,.none] } }:=I3.kept (t':=s3.toks) fun b ob q=>U3 _ q
 obtain⟨T,id,hT,ht,hg⟩:=hr pins { s3 with heap:=s3.heap.push { cls:=.type "slice",data:=.fields #[vl,vu,.none] } } σ H3 x v vl vu l u s3.heap.objs.size Q I4 r1 (Heap.IsSliceOf.new ..) pl pu q3
 show wpAny (model X.prog X.w) X.A (subscriptTail e (.Slice lo hi none p2) v (.ref s3.heap.objs.size)) (EP X pins σ Q) X.xe { s3 with heap:=s3.heap.push { cls:=.type "slice",data:=.fields #[vl,vu,.none] } }
 exact tail_any (ops:=[.ref s3.heap.objs.size,v]) ht hT hg (by with_unfolding_all rfl)
def c6 (xs:List V) (lo hi:Option Int):List V:=(xs.drop (HT.sIx xs.length 0 lo)).take (HT.sIx xs.length xs.length hi - HT.sIx xs.length 0 lo)
theorem C29 (xs:List V) (lo hi:Option Int):(c6 xs lo hi).length<=xs.length:=by
 unfold c6
 rw[T3,A70]
 lia
end
def ixN (n:Nat) (i:Int):Option Nat:=if 0<=i then (if i < n then some i.toNat else none) else if -(n:Int)<=i then some (i + n).toNat else none
def atI {α:Type} (xs:List α) (i:Int):Option α:=(ixN xs.length i).bind fun j=>xs[j]?
theorem B6c {n:Nat} {i:Int} {j:Nat} (h:ixN n i=some j):seqIndex? i n=some j/\j < n/\-(n:Int)<=i/\i < n:=by
 unfold ixN at h
 by_cases h0:0<=i
 ·rw[if_pos h0] at h
  by_cases h1:i < n
  ·rw[if_pos h1] at h
   have e:i.toNat=j:=Option.some.inj h
   exact⟨by rw[seqIndex_of h0 h1,e],by lia,by lia,h1⟩
  ·rw[if_neg h1] at h;cases h
 ·rw[if_neg h0] at h
  by_cases h1:-(n:Int)<=i
  ·rw[if_pos h1] at h
   have e:(i + n).toNat=j:=Option.some.inj h
   exact⟨by rw[seqIndex_neg (by lia) h1,e],by lia,h1,by lia⟩
  ·rw[if_neg h1] at h;cases h
theorem A8u {α:Type} {xs:List α} {i:Int} {v:α} (h:atI xs i=some v):∃j,seqIndex? i xs.length=some j/\xs[j]?=some v/\j < xs.length/\-(xs.length:Int)<=i/\i < xs.length:=by
 unfold atI at h
 cases e:ixN xs.length i with
 | none=>rw[e] at h;cases h
 | some j=>
  rw[e] at h
  obtain⟨h1,h2,h3,h4⟩:=B6c e
  exact⟨j,h1,h,h2,h3,h4⟩
theorem j0 {α:Type} {xs:List α} {j:Nat} {v:α} (h:xs[j]?=some v):atI xs (j:Int)=some v:=by
 have hj:j < xs.length:=(A05.mp h).1
 have e:ixN xs.length (j:Int)=some j:=by
  unfold ixN
  rw[if_pos (by lia),if_pos (by lia)];simp
 unfold atI;rw[e];exact h
theorem B6d {α:Type} (xs:List α) (v:α):atI (xs++[v]) (-1)=some v:=by
 have hl:(xs++[v]).length=xs.length + 1:=by simp
 have e:ixN (xs++[v]).length (-1)=some xs.length:=by
  unfold ixN
  rw[hl,if_neg (by decide),if_pos (by lia)]
  congr 1
  lia
 unfold atI
 rw[e]
 show (xs++[v])[xs.length]?=some v
 simp
def B1b (b:Expr):Prop:=∀o i,subscripted b false o i=operate [o,i] (getItem o i)
def IxR (X:Cx) (r:R2):Prop:=
 ∀(value slice:Expr) (pins:List (Addr×Obj)) (s:Shared) (σ:St) (H:Hp) (x y:V) (v u:Value) (Q:VK),Inv X pins σ H s->D8 x v->D8 y u->r x y H Q->
  subscripted slice false v u=operate [v,u] (getItem v u)->wpAny (model X.prog X.w) X.A (subscriptTail value slice v u) (EP X pins σ Q) X.xe s
def MtR (X:Cx) (id:String) (r:V->List V->Hp->VK->Prop):Prop:=
 ∀(pins:List (Addr×Obj)) (s:Shared) (σ:St) (H:Hp) (x:V) (xs:List V) (v:Value) (us:List Value) (Q:VK),Inv X pins σ H s->D8 x v->C3 xs us->r x xs H Q->
  wpAny (model X.prog X.w) X.A (call (.builtin id) (v::us)) (EP X pins σ Q) X.xe s
section
variable {X:Cx} {a b:Expr} {ta tb:TE} {pos:Pos}
theorem IxR.or {r r':R2} (h:IxR X r) (h':IxR X r'):IxR X (fun x y H Q=>r x y H Q\/r' x y H Q):=by
 intro value slice pins s σ H x y v u Q I rx ry q hs
 rcases q with q | q
 ·exact h value slice pins s σ H x y v u Q I rx ry q hs
 ·exact h' value slice pins s σ H x y v u Q I rx ry q hs
theorem K4 {r:R2} (hr:IxR X r) (ha:PE X a ta) (hb:PE X b tb) (hs:B1b b):PE X (.Subscript a b pos) (tOp r ta tb):=by
 intro pins s σ H Q I h
 exact Subscript_ (B03 ha hb I h fun v u s2 x y H2 I2 rx ry q=>hr a b pins s2 σ H2 x y v u Q I2 rx ry q (hs _ _))
def B6e (K:A7):R2:=fun x y H Q=>∃p xs i v,x=.ref p/\y=.int i/\SqL K H p xs/\atI xs i=some v/\Q v H
def B6f (K:A7):R2:=fun x y H Q=>∃p xs i v,x=.ref p/\y=.int i/\SqT K H p xs/\atI xs i=some v/\Q v H
def B6g:R2:=fun x y H Q=>∃z i c,x=.str z/\y=.int i/\z.length<=sizeLine/\atI z.cps.toList i=some c/\Q (.str ⟨#[c]⟩) H
theorem M3:IxR X (B6e X.K):=by
 intro value slice pins s σ H x y v u Q I rx ry h hs
 obtain⟨p,xs,i,z,rfl,rfl,hq,he,q⟩:=h
 cases rx
 obtain⟨t,rfl⟩:=ry
 obtain⟨its,r,pl,hz⟩:=I.list hq
 obtain⟨j,h1,h2,h3,h4,h5⟩:=A8u he
 obtain⟨w,ew,rw'⟩:=r.get h2
 have hl:=r.length
 have hn:=A3v
 have fin:EP X pins σ Q w s:=⟨z,H,I,rw',q⟩
 by_cases h0:0<=i
 ·have hj:i.toNat=j:=by
   rw[seqIndex_of h0 h5] at h1
   exact Option.some.inj h1
  exact item_listR pl.isList h0 (by lia) (by rw[hj];simpa using ew) fin hs
 ·have hj:(i + (its.toArray.size:Int)).toNat=j:=by
   rw[seqIndex_neg (by lia) h4] at h1
   rw[M6,<-hl]
   exact Option.some.inj h1
  exact subscriptTail_builtinR (x:=w) pl.isList.typeIs slot_list_getitem.lookup
   (wpAny_getItem_list_neg (Q:=fun r s'=>r=w/\EP X pins σ Q r s') pl.isList (by lia) (by rw[M6] <;> lia) (by lia) (by rw[hj];simpa using ew) ⟨rfl,fin⟩) hs
theorem C3a:IxR X (B6f X.K):=by
 intro value slice pins s σ H x y v u Q I rx ry h hs
 obtain⟨p,xs,i,z,rfl,rfl,hq,he,q⟩:=h
 cases rx
 obtain⟨t,rfl⟩:=ry
 obtain⟨its,r,pl,hz⟩:=I.tuple hq
 obtain⟨j,h1,h2,h3,h4,h5⟩:=A8u he
 obtain⟨w,ew,rw'⟩:=r.get h2
 have hl:=r.length
 have hn:=A3v
 have fin:EP X pins σ Q w s:=⟨z,H,I,rw',q⟩
 exact subscriptTail_builtinR (x:=w) pl.typeIs slot_tuple_getitem.lookup
  (getItem_tuple (j:=j) (Q:=fun r s'=>r=w/\EP X pins σ Q r s') pl (by lia) (by lia) (by rw[M6,<-hl];exact h1) (by simpa using ew) ⟨rfl,fin⟩) hs
theorem C3b:IxR X B6g:=by
 intro value slice pins s σ H x y v u Q I rx ry h hs
 obtain⟨z,i,c,rfl,rfl,hz,he,q⟩:=h
 obtain⟨t,rfl⟩:=rx
 obtain⟨t',rfl⟩:=ry
 obtain⟨j,h1,h2,h3,h4,h5⟩:=A8u he
 have hl:z.cps.toList.length=z.length:=by simp [Str.length]
 rw[hl] at h1 h4 h5
 have hn:=A3v
 exact tail_any (typeIs_str s z t) slot_str_getitem.lookup (getItem_str (c:=c) (by
  have e1:decide (i < -(2 ^ 63:Int))=false:=decide_eq_false (by lia)
  have e2:decide (i ≥ 2 ^ 63)=false:=decide_eq_false (by lia)
  rw[e1,e2,Bool.or_false]) (by rw[h1];simpa using h2) ⟨.str ⟨#[c]⟩,H,I.tok _,⟨_,rfl⟩,q⟩) hs
def rIx (K:A7):R2:=fun x y H Q=>B6e K x y H Q\/B6f K x y H Q\/B6g x y H Q
theorem A1i:IxR X (rIx X.K):=M3.or (C3a.or C3b)
theorem C3c (its:List Value) (n j:Nat) (u:Value):Y0 (·.setIfInBounds j u) { cls:=.type "list",data:=.seq its.toArray n }={ cls:=.type "list",data:=.seq (its.set j u).toArray n }:=by
 simp [Y0]
theorem Inv.lst {pins:List (Addr×Obj)} {σ:St} {H:Hp} {s:Shared} {p:Addr} {xs:List V} (I:Inv X pins σ H s) (h:H p=some (.lst xs)) :
  ∃(its:List Value) (n:Nat),C3 xs its/\s.heap.get? p=some { cls:=.type "list",data:=.seq its.toArray n }/\xs.length<=sizeLine:=by
 obtain⟨z,its,n,r,e⟩:=I.hok p _ h
 exact⟨its,n,r,e,z⟩
theorem Inv.lstUpd {pins:List (Addr×Obj)} {σ:St} {H:Hp} {s:Shared} {p:Addr} {xs ys:List V} {its its':List Value} {n n':Nat} {f:Obj->Obj} (I:Inv X pins σ H s) (h:H p=some (.lst xs))
  (ho:s.heap.get? p=some { cls:=.type "list",data:=.seq its.toArray n }) (hf:f { cls:=.type "list",data:=.seq its.toArray n }={ cls:=.type "list",data:=.seq its'.toArray n' }) (r:C3 ys its') (hz:ys.length<=sizeLine) (t:Nat) :
  Inv X pins σ (upd H p (.lst ys)) { s with heap:=s.heap.update p f,toks:=t }:=by
 have e:(s.heap.update p f).get? p=some { cls:=.type "list",data:=.seq its'.toArray n' }:=by
  rw[C1f f ho (by rw[hf] <;> rfl),hf]
 refine I.write (x:=p) (e:=p) (by rw[h];trivial) (.inl rfl) (fun b u hb q=>(C1g _ _ (Ne.symm hb)).trans q) ⟨_,e⟩ ?_
 exact⟨hz,its',n',r,e⟩
def B6h:V->V->V->Hp->(Hp->Prop)->Prop:=fun o i v H Q=>∃p xs k j,o=.ref p/\i=.int k/\H p=some (.lst xs)/\ixN xs.length k=some j/\Q (upd H p (.lst (xs.set j v)))
theorem U9:B0z X B6h:=by
 intro pins s σ H o i v ov iv u Q I ro ri rv h
 obtain⟨p,xs,k,j,rfl,rfl,hp,hj,q⟩:=h
 cases ro
 obtain⟨t,rfl⟩:=ri
 obtain⟨its,n,r,ho,hz⟩:=I.lst hp
 obtain⟨h1,h2,h3,h4⟩:=B6c hj
 have hl:=r.length
 have hn:=A3v
 have I':Inv X pins σ (upd H p (.lst (xs.set j v))) { s with heap:=s.heap.update p (Y0 (·.setIfInBounds j u)) }:=
  I.lstUpd hp ho (C3c its n j u) (r.set rv j) (by rw[O8];exact hz) s.toks
 by_cases h0:0<=k
 ·have hk:k.toNat=j:=by
   rw[seqIndex_of h0 h4] at h1
   exact Option.some.inj h1
  exact PySem.W.ki_setAt ho h0 (by lia) (by rw[M6,<-hl];exact h4) (by rw[hk];exact⟨_,I',q⟩)
 ·have hk:(k + (its.toArray.size:Int)).toNat=j:=by
   rw[seqIndex_neg (by lia) h3] at h1
   rw[M6,<-hl]
   exact Option.some.inj h1
  exact PySem.W.ki_setBack ho (by lia) (by rw[M6,<-hl];exact h3) (by lia) (by rw[hk];exact⟨_,I',q⟩)
theorem C3d (lo hi:Option Int) (n:Nat):(sliceBounds lo hi none n).1=((HT.sIx n 0 lo:Nat):Int)/\(sliceBounds lo hi none n).2.1=((HT.sIx n n hi:Nat):Int)/\(sliceBounds lo hi none n).2.2=1:=by
 refine⟨?_,?_,rfl⟩
 ·cases lo with
  | none=>simp [sliceBounds,HT.sIx]
  | some i=>
   simp only[sliceBounds,HT.sIx,Option.getD_none,show (1:Int) > 0 by decide,if_true]
   by_cases h:i < 0
   ·simp only[h,if_true] <;> lia
   ·simp only[h,if_false] <;> lia
 ·cases hi with
  | none=>simp [sliceBounds,HT.sIx]
  | some i=>
   simp only[sliceBounds,HT.sIx,Option.getD_none,show (1:Int) > 0 by decide,if_true]
   by_cases h:i < 0
   ·simp only[h,if_true] <;> lia
   ·simp only[h,if_false] <;> lia
theorem C3e (its:List Value) (lo hi:Option Int):slicePick its.toArray lo hi none=((its.drop (HT.sIx its.length 0 lo)).take (HT.sIx its.length its.length hi - HT.sIx its.length 0 lo)).toArray:=by
 obtain⟨h1,h2,h3⟩:=C3d lo hi its.toArray.size
 unfold slicePick
 rw[h1,h2,h3]
 simp only[sliceRange_one,pick_run,M6] <;> rfl
def C3f (K:A7):V->Option Int->Option Int->Hp->VK->Prop:=fun x lo hi H Q=>∃a xs,x=.ref a/\SqL K H a xs/\∀p,H p=none->Q (.ref p) (upd H p (.lst (c6 xs lo hi)))
theorem A6u:SlR X (C3f X.K):=by
 intro pins s σ H x v vl vu lo hi sl Q I rx hs pl pu h
 obtain⟨a,xs,rfl,hx,q⟩:=h
 cases rx
 obtain⟨its,r,ht,hz⟩:=I.list hx
 have hlen:=r.length
 refine⟨"list",_,slot_list_getitem.lookup,ht.isList.typeIs,?_⟩
 refine wpAny_getItem_list_slice ht.isList hs pl pu .none (by simp) ?_ (by rw[M6] <;> lia)
 rw[C3e,<-hlen]
 refine⟨.ref s.heap.objs.size,_,I.laid (t':=s.toks) (o:=.lst (c6 xs lo hi)) (fun b ob q=>U3 _ q) (D2 _) ?_,rfl,q _ (I.hok.fresh (D2 _))⟩
 exact⟨V5 (C29 xs lo hi) hz,_,0,(r.drop (HT.sIx xs.length 0 lo)).take (HT.sIx xs.length xs.length hi - HT.sIx xs.length 0 lo),T2 _ rfl⟩
def l9:V->Bool
 | .non=>true
 | .bl _=>true
 | .int _=>true
 | .str _=>true
 | _=>false
def eqV:V->V->Bool
 | .non,.non=>true
 | .bl a,.bl b=>a == b
 | .bl a,.int b=>(if a then 1 else 0) == b
 | .int a,.bl b=>a == (if b then 1 else 0)
 | .int a,.int b=>a == b
 | .str a,.str b=>a == b
 | _,_=>false
theorem C3g {A:Around} {s:Shared} {y x:V} {u v:Value} (ry:D8 y u) (rx:D8 x v) (fy:l9 y=true) (fx:l9 x=true):SeqAt.EqAt A s u v (eqV y x):=by
 cases y with
 | non=>
  cases ry
  cases x with
  | non=>cases rx;exact SeqAt.EqAt.same _
  | bl b=>cases rx;exact SeqAt.EqAt.none_bool b
  | int b=>obtain⟨t,rfl⟩:=rx;exact SeqAt.EqAt.none_int b t
  | str b=>obtain⟨t,rfl⟩:=rx;exact SeqAt.EqAt.none_str b t
  | _=>exact absurd (show false=true from fx) G6
 | bl a=>
  cases ry
  cases x with
  | non=>cases rx;exact SeqAt.EqAt.bool_none a
  | bl b=>cases rx;exact SeqAt.EqAt.bool_bool a b
  | int b=>obtain⟨t,rfl⟩:=rx;exact SeqAt.EqAt.bool_int a b t
  | str b=>obtain⟨t,rfl⟩:=rx;exact SeqAt.EqAt.bool_str a b t
  | _=>exact absurd (show false=true from fx) G6
 | int a=>
  obtain⟨t',rfl⟩:=ry
  cases x with
  | non=>cases rx;exact SeqAt.EqAt.int_none a t'
  | bl b=>cases rx;exact SeqAt.EqAt.int_bool a t' b
  | int b=>obtain⟨t,rfl⟩:=rx;exact SeqAt.EqAt.int_int a t' b t
  | str b=>obtain⟨t,rfl⟩:=rx;exact SeqAt.EqAt.int_str a t' b t
  | _=>exact absurd (show false=true from fx) G6
 | str a=>
  obtain⟨t',rfl⟩:=ry
  cases x with
  | non=>cases rx;exact SeqAt.EqAt.str_none a t'
  | bl b=>cases rx;exact SeqAt.EqAt.str_bool a t' b
  | int b=>obtain⟨t,rfl⟩:=rx;exact SeqAt.EqAt.str_int a t' b t
  | str b=>obtain⟨t,rfl⟩:=rx;exact SeqAt.EqAt.str_str a t' b t
  | _=>exact absurd (show false=true from fx) G6
 | _=>exact absurd (show false=true from fy) G6
def eqU (x:V) (u:Value):Bool:=match u with
 | .none=>eqV .non x
 | .bool b=>eqV (.bl b) x
 | .int i _=>eqV (.int i) x
 | .str z _=>eqV (.str z) x
 | _=>false
theorem B6i {x y:V} {u:Value} (r:D8 y u) (f:l9 y=true):eqU x u=eqV y x:=by
 cases y with
 | non=>cases r;rfl
 | bl b=>cases r;rfl
 | int i=>obtain⟨t,rfl⟩:=r;rfl
 | str z=>obtain⟨t,rfl⟩:=r;rfl
 | _=>exact absurd (show false=true from f) G6
theorem B1c {x:V}:∀{xs:List V} {us:List Value},C3 xs us->xs.all l9=true->us.any (eqU x)=xs.any fun y=>eqV y x
 | _,_,.nil,_=>rfl
 | y::xs,u::us,.cons r t,f=>by
  rw[B0k,k8] at f
  rw[A6c,A6c,B6i r f.1,B1c t f.2]
theorem B1d {A:Around} {s:Shared} {x:V} {v:Value} (rx:D8 x v) (fx:l9 x=true):∀{xs:List V} {us:List Value},C3 xs us->xs.all l9=true->∀u∈us,SeqAt.EqAt A s u v (eqU x u)
 | _,_,.nil,_=>fun u hu=>by cases hu
 | y::xs,u::us,.cons r t,f=>fun u' hu=>by
  rw[B0k,k8] at f
  rcases N2.mp hu with rfl | hu
  ·rw[B6i r f.1];exact C3g r rx f.1 fx
  ·exact B1d rx fx t f.2 u' hu
def inV (x:V) (xs:List V):Bool:=xs.any fun y=>eqV y x
def rIn (K:A7) (neg:Bool):R2:=fun x y H Q=>∃p xs,y=.ref p/\(SqL K H p xs\/SqT K H p xs)/\l9 x=true/\xs.all l9=true/\Q (.bl (if neg then !inV x xs else inV x xs)) H
theorem C3h:OpR X (compareOp .NotIn) (rIn X.K true):=by
 intro pins s σ H x y v u Q I rx ry h
 obtain⟨p,xs,rfl,hq,fx,fs,q⟩:=h
 cases ry
 rcases hq with hq | hq
 ·obtain⟨its,r,pl,hz⟩:=I.list hq
  refine SeqAt.notIn_listAt (eqU x) pl.isList (fun w hw=>B1d rx fx r fs w (by simpa using hw)) ⟨.bl _,H,I,rfl,?_⟩
  rw[show its.toArray.any (eqU x)=its.any (eqU x) by simp,B1c r fs]
  exact q
 ·obtain⟨its,r,pl,hz⟩:=I.tuple hq
  refine SeqAt.notIn_tupleAt (eqU x) pl (fun w hw=>B1d rx fx r fs w (by simpa using hw)) ⟨.bl _,H,I,rfl,?_⟩
  rw[show its.toArray.any (eqU x)=its.any (eqU x) by simp,B1c r fs]
  exact q
theorem S5:W7 X (.builtin "len") (fun xs H Q=>∃p ys,xs=[.ref p]/\(SqL X.K H p ys\/SqT X.K H p ys)/\Q (.int ys.length) H):=by
 intro pins s σ H xs us Q I r h
 obtain⟨p,ys,rfl,hq,q⟩:=h
 obtain⟨u,rfl,rx⟩:=Y9 r
 cases rx
 have hn:=A3v
 rcases hq with hq | hq
 ·obtain⟨its,r',pl,hz⟩:=I.list hq
  have hlen:=r'.length
  exact Calls.call_len_list pl.isList (by simp only[M6] <;> lia) ⟨.int ys.length,H,I.tok _,⟨s.toks + 1,by rw[M6,hlen]⟩,q⟩
 ·obtain⟨its,r',pl,hz⟩:=I.tuple hq
  have hlen:=r'.length
  exact len_tuple pl (by simp only[M6] <;> lia) ⟨.int ys.length,H,I.tok _,⟨s.toks + 1,by rw[M6,hlen]⟩,q⟩
theorem A1j:W7 X (.type "list") (fun xs H Q=>∃p ys,xs=[.ref p]/\(SqL X.K H p ys\/SqT X.K H p ys)/\∀l,H l=none->Q (.ref l) (upd H l (.lst ys))):=by
 intro pins s σ H xs us Q I r h
 obtain⟨p,ys,rfl,hq,q⟩:=h
 obtain⟨u,rfl,rx⟩:=Y9 r
 cases rx
 have fin:∀(its:List Value),C3 ys its->ys.length<=sizeLine->∀(h':Heap) (c':Nat),(∀b o',s.heap.get? b=some o'->h'.get? b=some o')->
   h'.get? s.heap.objs.size=some { cls:=.type "list",dict:=none,data:=.seq its.toArray c',slots:=#[] }->EP X pins σ Q (.ref s.heap.objs.size) { s with heap:=h' }:=fun its r' hz h' c' kp e=>
  ⟨.ref s.heap.objs.size,_,I.laid (t':=s.toks) kp (D2 _) (show J1 X.prog X.w _ h' _ (.lst ys) from ⟨hz,its,c',r',e⟩),rfl,q _ (I.hok.fresh (D2 _))⟩
 rcases hq with hq | hq
 ·obtain⟨its,r',pl,hz⟩:=I.list hq
  have hlen:=r'.length
  obtain⟨o,ho,hc,n,hd⟩:=pl.isList
  exact call_list_seq p (.inl rfl) ho hc hd (fun h' c' kp e=>fin its r' hz h' c' kp e) (by simp only[M6] <;> lia)
 ·obtain⟨its,r',pl,hz⟩:=I.tuple hq
  have hlen:=r'.length
  obtain⟨o,ho,hc,n,hd⟩:=pl
  exact call_list_seq p (.inr rfl) ho hc hd (fun h' c' kp e=>fin its r' hz h' c' kp e) (by simp only[M6] <;> lia)
def tyV (K:A7) (T:String) (x:V) (H:Hp):Prop:=match x with
 | .str _=>T = "str"
 | .int _=>T = "int"
 | .ref p=>(T = "list" /\∃xs,SqL K H p xs)\/(T = "tuple" /\∃o,K.lookup p=some o/\o.cls=.type "tuple" /\o.dict=none)\/
   (T = "dict" /\((∃kvs,H p=some (.dK kvs))\/∃kvs,H p=some (.dT kvs)))\/(T = "set" /\∃S n,H p=some (.set S n))
 | _=>False
theorem B6j {pins:List (Addr×Obj)} {σ:St} {H:Hp} {s:Shared} {T:String} {x:V} {v:Value} (I:Inv X pins σ H s) (r:D8 x v) (ty:tyV X.K T x H) :
  s.TypeIs v T/\∀a,v=.ref a->∃ob,s.heap.get? a=some ob/\ob.dict=none:=by
 cases x with
 | str z=>
  obtain⟨t,rfl⟩:=r
  cases (show T = "str" from ty)
  exact⟨typeIs_str s z t,fun _ e=>nomatch e⟩
 | int i=>
  obtain⟨t,rfl⟩:=r
  cases (show T = "int" from ty)
  exact⟨typeIs_int s i t,fun _ e=>nomatch e⟩
 | ref p=>
  cases r
  rcases ty with ⟨rfl,xs,hq⟩ | ⟨rfl,o,hk,hc,hd⟩ | ⟨rfl,hk⟩ | ⟨rfl,S,n,hk⟩
  ·obtain⟨its,_,pl,_⟩:=I.list hq
   refine⟨pl.isList.typeIs,fun a e=>?_⟩
   cases e
   obtain⟨o,n,e,c,hd,_⟩:=pl
   exact⟨o,e,hd⟩
  ·refine⟨⟨o,I.kIn p o hk,hc⟩,fun a e=>?_⟩
   cases e
   exact⟨o,I.kIn _ o hk,hd⟩
  ·have z:∃o,s.heap.get? p=some o/\o.ExactDict:=by
    rcases hk with ⟨kvs,hk⟩ | ⟨kvs,hk⟩
    ·obtain⟨_,_,_,_,o,_,_,e,ex,_⟩:=I.hok p _ hk
     exact⟨o,e,ex⟩
    ·obtain⟨_,_,_,_,o,_,_,e,ex,_⟩:=I.hok p _ hk
     exact⟨o,e,ex⟩
   obtain⟨o,e,ex⟩:=z
   refine⟨⟨o,e,ex.1⟩,fun a e2=>?_⟩
   cases e2
   exact⟨o,e,ex.2.1⟩
  ·obtain⟨o,_,_,_,e,ex,_⟩:=I.hok p _ hk
   refine⟨⟨o,e,ex.1⟩,fun a e2=>?_⟩
   cases e2
   exact⟨o,e,ex.2.1⟩
 | _=>exact False.elim ty
def B6k (K:A7) (T:String) (r:V->List V->Hp->VK->Prop) (to:TE):TE:=fun σ H Q=>to σ H fun x H1=>tyV K T x H1/\r x [] H1 Q
def tBM (K:A7) (T:String) (r:V->List V->Hp->VK->Prop) (to:TE) (t:TA):TE:=fun σ H Q=>to σ H fun x H1=>tyV K T x H1/\t σ H1 fun xs H2=>r x xs H2 Q
variable {o e:Expr} {es:List Expr} {to:TE} {t:TA} {name:Str} {apos cpos:Pos} {T id:String} {r:V->List V->Hp->VK->Prop}
theorem C3i (pa:PlainAttrs T) (slot:Slot T name id) (hty:typeOf (.builtin id)=pure (.type "method_descriptor")) (hm:MtR X id r) (ho:PE X o to)
  (hbase:attributeBase o name X.env (eval o X.env)=eval o X.env:=by rfl) (hline:(apos.endLine == cpos.line)=true:=by rfl):PE X (.Call (.Attribute o name apos) [] [] cpos) (B6k X.K T r to):=by
 intro pins s σ H Q I h
 refine wpAny_Call_method0_late hbase hline (thn (ho pins s σ H _ I h) fun v s1 zz219=>zz219.elim fun x zz220=>zz220.elim fun H1 zz221=>zz221.elim fun I1 zz222=>zz222.elim fun r1 zz223=>zz223.elim fun ty q1=>?_)
 obtain⟨h1,h2⟩:=B6j I1 r1 ty
 exact⟨T,id,pa,slot,hty,h1,h2,Calls.callWith_builtin rfl (PySem.evalArgs_none (hm pins s1 σ H1 x [] v [] Q I1 r1 .nil q1))⟩
theorem T6 (pa:PlainAttrs T) (slot:Slot T name id) (hty:typeOf (.builtin id)=pure (.type "method_descriptor")) (hm:MtR X id r) (ho:PE X o to) (ha:PA X (e::es) t)
  (hbase:attributeBase o name X.env (eval o X.env)=eval o X.env:=by rfl)
  (hfew:((backTo cpos (starEach (e::es) X.env)).all (fun x=>!x.1)&&(backToKw cpos (keywordEach [] X.env)).all (fun x=>x.1.isSome)
   &&decide ((e::es).length + ([]:List Keyword).length + (if ([]:List Keyword).isEmpty then 0 else 1) < 30))=true:=by rfl)
  (hline:(apos.endLine == cpos.line)=true:=by rfl) (hs:starEach (e::es) X.env=(false,eval e X.env)::starEach es X.env:=by rfl) (hplain:(backTo cpos (starEach es X.env)).any (·.1)=false:=by rfl) :
  PE X (.Call (.Attribute o name apos) (e::es) [] cpos) (tBM X.K T r to t):=by
 intro pins s σ H Q I h
 refine wpAny_Call_method_late hbase hfew hline rfl (thn (ho pins s σ H _ I h) fun v s1 zz224=>zz224.elim fun x zz225=>zz225.elim fun H1 zz226=>zz226.elim fun I1 zz227=>zz227.elim fun r1 zz228=>zz228.elim fun ty q1=>?_)
 obtain⟨h1,h2⟩:=B6j I1 r1 ty
 refine⟨T,id,pa,slot,hty,h1,h2,?_⟩
 have hA:=ha cpos pins s1 σ H1 _ I1 q1
 rw[hs] at hA ⊢
 refine Calls.callWith_builtin (by show (false||(backTo cpos (starEach es X.env)).any (·.1))=false;rw[hplain] <;> rfl) (Calls.evalArgs_plain ?_)
 exact thn hA fun us s2 zz229=>el5 zz229 fun vs H2 I2 r2 q2=>hm pins s2 σ H2 x vs v us Q I2 r1 r2 q2
end
def MtM (X:Cx) (id:String) (r:V->List V->Hp->VK->Prop):Prop:=
 ∀(pins:List (Addr×Obj)) (s:Shared) (σ:St) (H:Hp) (x:V) (xs:List V) (v:Value) (us:List Value) (Q:VK),Inv X pins σ H s->D8 x v->C3 xs us->r x xs H Q->
  wpAny (model X.prog X.w) X.A (call (.builtin id) (v::us)) (EP X pins σ Q) X.xe s
theorem C3.one {x:V} {us:List Value} (h:C3 [x] us):∃u,us=[u]/\D8 x u:=by
 cases h with
 | cons r t=>cases t;exact⟨_,rfl,r⟩
theorem C3.zero:∀{us:List Value},C3 [] us->us=[]
 | _,.nil=>rfl
theorem C3.dropLast {xs:List V} {us:List Value} (h:C3 xs us):C3 xs.dropLast us.dropLast:=by
 induction h with
 | nil=>exact .nil
 | cons r t ih=>
  cases t with
  | nil=>exact .nil
  | cons q t'=>exact .cons r ih
theorem C3.rep {xs:List V} {us:List Value} (h:C3 xs us):∀k:Nat,C3 (D9 k xs).flatten (D9 k us).flatten
 | 0=>.nil
 | k + 1=>by
  rw[S2,S2,A3f,A3f]
  exact C3.append h (C3.rep h k)
theorem C3j {α:Type} (l:List α):l.eraseIdx (l.length - 1)=l.dropLast:=by
 induction l with
 | nil=>rfl
 | cons a r ih=>
  cases r with
  | nil=>rfl
  | cons b r=>
   have e:(a::b::r).length - 1=((b::r).length - 1) + 1:=by
    have h1:(a::b::r).length=r.length + 2:=rfl
    have h2:(b::r).length=r.length + 1:=rfl
    lia
   rw[e,List.eraseIdx_cons_succ,ih]
   all_goals rfl
theorem B6l (its:List Value):∀(k:Nat) (acc:List Value),
  List.foldl (fun x1 x2=>x1++x2) acc.toArray (D9 k its.toArray)=(acc++(D9 k its).flatten).toArray
 | 0,acc=>by simp
 | k + 1,acc=>by
  have e:acc.toArray++its.toArray=(acc++its).toArray:=by simp
  have e2:(acc++its)++(D9 k its).flatten=acc++(D9 (k + 1) its).flatten:=by
   rw[S2,A3f,L1]
  rw[<-e2,<-B6l its k (acc++its),<-e,S2,B45]
section
variable {X:Cx} {pins:List (Addr×Obj)} {σ:St} {H:Hp} {s:Shared} {l b:Addr} {xs ys zs:List V}
theorem Inv.lset {its its':List Value} {n:Nat} {f:Array Value->Array Value} {t':Nat} (I:Inv X pins σ H s) (hH:H l=some (.lst xs))
  (e:s.heap.get? l=some { cls:=.type "list",data:=.seq its.toArray n }) (hf:f its.toArray=its'.toArray) (hv:C3 ys its') (hz:ys.length<=sizeLine) :
  Inv X pins σ (upd H l (.lst ys)) { s with heap:=s.heap.update l (Y0 f),toks:=t' }:=by
 have q:=PySem.IsL.update e f
 rw[hf] at q
 refine I.write (x:=l) (e:=l) (by rw[hH];exact trivial) (.inl rfl) (fun b' u hb hu=>(C1g s.heap (Y0 f) (Ne.symm hb)).trans hu) ⟨_,q⟩ ?_
 exact⟨hz,its',_,hv,q⟩
theorem Inv.lnew {its:List Value} {t':Nat} (I:Inv X pins σ H s) (hv:C3 ys its) (hz:ys.length<=sizeLine) :
  Inv X pins σ (upd H s.heap.objs.size (.lst ys)) { s with heap:=s.heap.push { cls:=.type "list",data:=.seq its.toArray },toks:=t' }:=
 I.laid (fun _ _ q=>U3 _ q) (D2 _) ⟨hz,its,0,hv,T2 _ rfl⟩
theorem Inv.fresh (I:Inv X pins σ H s):H s.heap.objs.size=none:=I.hok.fresh (D2 _)
theorem Inv.lstM (I:Inv X pins σ H s) (hH:H l=some (.lst xs)):xs.length<=sizeLine/\∃(its:List Value) (n:Nat),C3 xs its/\xs.length=its.length/\s.heap.get? l=some { cls:=.type "list",data:=.seq its.toArray n }:=by
 obtain⟨z,its,n,r,e⟩:=I.hok l _ hH
 exact⟨z,its,n,r,r.length,e⟩
theorem C3k {n:Nat} (h:n<=sizeLine):Builtin.List.listTooLong n=false:=by
 unfold Builtin.List.listTooLong
 exact decide_eq_false (by lia)
end
section
variable {X:Cx}
def B1e:V->List V->Hp->VK->Prop:=fun x vs H Q=>∃l xs y,x=.ref l/\vs=[y]/\H l=some (.lst xs)/\xs.length < sizeLine/\Q .non (upd H l (.lst (xs++[y])))
theorem V8:MtM X "list.append" B1e:=by
 intro pins s σ H x vs v us Q I rx rv h
 obtain⟨l,xs,y,rfl,rfl,hH,hz,q⟩:=h
 cases rx
 obtain⟨u,rfl,ru⟩:=rv.one
 obtain⟨z,its,n,r,hl,e⟩:=I.lstM hH
 refine call_meets F.slot_list_append ⟨_,e,rfl⟩ F.entry_list_append (F.args_list_append_2 _ _) (PySem.list_append l its.toArray n u (by rw[M6];lia)) ⟨e,?_⟩
 refine⟨.non,_,I.lset (its':=its++[u]) hH e (by simp) (r.append (.cons ru .nil)) ?_,rfl,q⟩
 rw[F5,A07]
 lia
def B6m:V->List V->Hp->VK->Prop:=fun x vs H Q=>∃l xs y,x=.ref l/\vs=[]/\H l=some (.lst xs)/\xs[xs.length - 1]?=some y/\Q y (upd H l (.lst xs.dropLast))
theorem C3l:MtM X "list.pop" B6m:=by
 intro pins s σ H x vs v us Q I rx rv h
 obtain⟨l,xs,y,rfl,rfl,hH,hy,q⟩:=h
 cases rx
 have hus:=rv.zero
 subst hus
 obtain⟨z,its,n,r,hl,e⟩:=I.lstM hH
 obtain⟨u,hu,ru⟩:=r.get hy
 have hy':its.toArray[its.toArray.size - 1]?=some u:=by
  show its.toArray[its.length - 1]?=some u
  rw[<-Y1,<-hl]
  exact hu
 refine call_meets F.slot_list_pop ⟨_,e,rfl⟩ F.entry_list_pop (F.args_list_pop_1 _) (MeetsSeq.list_pop_last l its.toArray n u hy' (by rw[M6];lia)) ⟨e,?_⟩
 refine⟨y,_,I.lset (its':=its.dropLast) hH e ?_ r.dropLast ?_,ru,q⟩
 ·show its.toArray.eraseIdxIfInBounds (its.toArray.size - 1)=its.dropLast.toArray
  rw[M6,List.eraseIdxIfInBounds_toArray,C3j]
 ·rw[List.length_dropLast]
  lia
def C3m:R2:=fun x y H Q=>∃l b xs zs,x=.ref l/\y=.ref b/\H l=some (.lst xs)/\H b=some (.lst zs)/\xs.length + zs.length<=sizeLine/\∀p,H p=none->Q (.ref p) (upd H p (.lst (xs++zs)))
theorem C3n:OpR X (binaryOp .Add) C3m:=by
 intro pins s σ H x y v u Q I rx ry h
 obtain⟨l,b,xs,zs,rfl,rfl,hH,hB,hz,q⟩:=h
 cases rx
 cases ry
 obtain⟨z,its,n,r,hl,e⟩:=I.lstM hH
 obtain⟨z2,its2,n2,r2,hl2,e2⟩:=I.lstM hB
 refine PySem.P.add_list e e2 ?_ (by rw[M6,M6];lia)
 have ea:its.toArray++its2.toArray=(its++its2).toArray:=by simp
 rw[ea]
 exact⟨.ref _,_,I.lnew (t':=s.toks) (r.append r2) (by rw[F5];lia),rfl,q _ I.fresh⟩
def C3o:R2:=fun x y H Q=>∃l k xs,x=.ref l/\y=.int k/\H l=some (.lst xs)/\-(2 ^ 63)<=k/\k < 2 ^ 63/\xs.length * k.toNat<=sizeLine/\
 ∀p,H p=none->Q (.ref p) (upd H p (.lst (D9 k.toNat xs).flatten))
theorem C3p {α:Type} (xs:List α) (k:Nat):(D9 k xs).flatten.length=k * xs.length:=by
 induction k with
 | zero=>simp
 | succ k ih=>rw[S2,A3f,F5,ih,Nat.succ_mul,Nat.add_comm]
theorem C3q:OpR X (binaryOp .Mult) C3o:=by
 intro pins s σ H x y v u Q I rx ry h
 obtain⟨l,k,xs,rfl,rfl,hH,h1,h2,hz,q⟩:=h
 cases rx
 obtain⟨t,rfl⟩:=ry
 obtain⟨z,its,n,r,hl,e⟩:=I.lstM hH
 have hlen:its.toArray.size * k.toNat<=sizeLine:=by rw[M6,<-hl];exact hz
 have hcap:¬ its.toArray.size * k.toNat > (2 ^ 63 - 1) / 8:=by
  have:(sizeLine:Nat)<=(2 ^ 63 - 1) / 8:=by decide
  lia
 have hfit:¬ (!Builtin.List.listFitsIndex k)=true:=by
  rw[fitsIndex_both h1 h2]
  exact G6
 have hlong:¬ Builtin.List.listTooLong (its.toArray.size * k.toNat)=true:=by
  rw[C3k hlen]
  exact G6
 have hnew:List.foldl (fun x1 x2=>x1++x2) #[] (D9 (if its.toArray.isEmpty=true then 0 else k.toNat) its.toArray)=(D9 k.toNat its).flatten.toArray:=by
  have f0:∀m:Nat,List.foldl (fun x1 x2=>x1++x2) #[] (D9 m its.toArray)=(D9 m its).flatten.toArray:=fun m=>by
   have:=B6l its m []
   rw[Q1] at this
   exact this
  rw[f0]
  cases its with
  | nil=>simp
  | cons a r'=>rw[if_neg (by simp)]
 refine wpAny_binaryOp_repeat_ref (T:= "list") (U:= "int") (by decide) ⟨_,e,rfl⟩ (fun s'=>typeIs_int s' k t) noFill_list_mul F.fills_int_mul F.slot_int_rmul repeat_list F.slot_int_index.lookup
  (call_meets F.slot_int_rmul (typeIs_int s k t) F.entry_int_rmul (F.args_int_rmul_2 _ _) (int___rmul___int_list k t l its.toArray n)
   ⟨e,rfl,⟨_,e,rfl⟩,call_meets F.slot_list_mul ⟨_,e,rfl⟩ F.entry_list_mul (F.args_list_mul_2 _ _) (AutoListH.list___mul___list_int_3 l its.toArray n k t hfit hcap hlong) ⟨e,?_⟩⟩)
 rw[hnew]
 exact⟨.ref _,_,I.lnew (t':=s.toks) (r.rep k.toNat) (by rw[C3p,Nat.mul_comm];exact hz),rfl,q _ I.fresh⟩
end
section
variable {prog:Program} {w:World} {A:Around} {E:Value->Shared->Prop} {s:Shared}
set_option maxRecDepth 100000 in
end
section
variable {X:Cx}
end
end L2
namespace Att
open PySem PySem.W PySem.Calls PyProof.Rows
theorem C3r {P:Params} {h:Heap}:∀(ns:List Int) (vs:List Value),WellAll P h vs (ns.map WData.int)->IntsAre vs ns:=by
 intro ns
 induction ns with
 | nil=>
  intro vs w
  rw[List.map_nil] at w
  cases w
  exact .nil
 | cons n ns ih=>
  intro vs w
  rw[U4] at w
  cases w with
  | cons a b=>
   cases a
   exact .cons _ _ (ih _ b)
theorem C3s {l:OpenLaw} {n:Nat} (hn:l.most=some n) {P:Params} {h:Heap} {args:List WData} {vals:List Value}
  (hpre:l.row.toRowW.claim.pre args=true) (hwl:WellAll P h vals args) :
  ∃a vs ns,vals=[Value.ref a]/\args=[WData.list (ns.map WData.int)]/\h.get? a=some { cls:=.type "list",data:=.seq vs.toArray }/\IntsAre vs ns/\ns.length<=n:=by
 have hsh:WShape.hasAll [] args [.list .int]=true:=(pre_splitW hpre).1
 have hc:l.pre.holds [] { args:=args }=true:=(pre_splitW hpre).2
 obtain⟨d,r,rfl,h1,h2⟩:=hasAllW_cons hsh
 obtain rfl:=hasAllW_nil h2
 obtain⟨xs,rfl,h3⟩:=hasW_list h1
 obtain⟨ns,rfl⟩:=items_int h3
 have hlen:ns.length<=n:=by
  unfold OpenLaw.pre at hc
  have h4:(WTm.not (.lt (.lit (.int (n:Int))) (.len (.arg 0)))).holds [] { args:=[.list (ns.map .int)] }=true:=by
   have h4:=(holds_andW hc).1
   rw[hn] at h4
   exact h4
  have h5:=condW_of h4 (w_not (w_lt w_lit (w_len_list (w_arg rfl))))
  rw[C7] at h5
  refine Nat.le_of_not_lt fun q=>?_
  have q':(n:Int) < ((ns.length:Nat):Int):=by lia
  first
   | (rw[decide_eq_true q'] at h5;exact absurd h5 (by decide))
   | (simp at h5;lia)
 cases hwl with
 | cons w1 w2=>
  cases w2
  cases w1 with
  | list ho hall=>exact⟨_,_,ns,rfl,rfl,ho,C3r ns _ hall,hlen⟩
theorem C3t (l:OpenLaw) (args:List WData):l.row.toRowW.claim.post args (.bool true) args=true:=
 postW_of (r:=l.row.toRowW) (X:=(true == true))
  (show WShape.has [] (.bool true) .bool=true by first | rfl | decide | simp [WShape.has,WShape.arms,WShape.armsAll])
  (show (WTm.eq .res (.lit (.bool true))).value [] { args:=args,res:=some (.bool true),after:=args }=some (.bool (true == true)) from w_eq_bool (w_res rfl) w_lit) rfl
theorem attach_call {l:OpenLaw} {n:Nat} {q:Program} {loose:List Str} {XP:(Str->Option Value)->Heap->Prop} {YP:World->Heap->Prop} {d:DefRec}
  (hn:l.most=some n) (hdf:d.params.defaults=[])
  (call:∀(w:World) (s₀ s₁:Shared) (mg mb:Str->Option Value) (fa:Addr) (o:Obj) (pm cd doc:Value) (a:Addr) (vs:List Value) (ns:List Int),
   Ground q loose [] XP w s₀ mg mb s₁.heap->YP w s₁.heap->
   s₁.heap.get? fa=some o->o.data=.func (docDef d.name d.params d.body d.scope pm cd doc)->s₁.heap.CodeRec cd d.name->mg d.name=some (.ref fa)->
   s₁.heap.get? a=some { cls:=.type "list",data:=.seq vs.toArray }->IntsAre vs ns->ns.length<=n->s₁.gens=#[]->
   codeAny (model l.prog w) callerA (.call (.ref fa) ⟨[.ref a],[]⟩) (fun r s'=>r=.ok (.ret (.bool true))/\OldK s₁.heap s'.heap/\s'.os=s₁.os/\AllBare s'.gens) s₁) :
  WalkO q loose XP YP l.row.toRowW d [] (fun f vs=>PySem.call f vs):=by
 intro w s₀ s₁ mg mb G Y fa o pm cd doc dV kV ho hd hcd hD hmg hg args vals as hpre hlay hrd hwl hlo
 obtain rfl:dV=.none:=Dflts.none hD hdf
 obtain rfl:kV=.none:=Dflts.noKw hD
 obtain⟨a,vs,ns,rfl,rfl,hobj,hints,hlen⟩:=C3s hn hpre hwl
 refine enter_call (codeAny_mono (call w s₀ s₁ mg mb fa o pm cd doc a vs ns G Y ho (fd_plain hd) hcd hmg hobj hints hlen hg) fun r s' hq=>?_)
 obtain⟨rfl,h2,h3,h4⟩:=hq
 exact⟨.inl ⟨.bool true,.bool true,[],rfl,fun _=>rfl,.bool true,C3t l _,fun _=>⟨B46.nil,fun _ hm=>(nomatch hm)⟩⟩,h2,h3,h4⟩
section
variable {prog:Program} {w:World} {A:Around} {E:Value->Shared->Prop} {s:Shared} {K:Frag}
def D2n (h:Heap) (L d:Addr):List (Addr×Obj):=(L0 h.objs.size).filterMap fun a=>if a=L\/a=d then none else (h.get? a).map fun o=>(a,o)
end
end Att
namespace L2
open PySem PySem.Spec PyProof.Rows
theorem B1f:∀{vs:List Value} {ns:List Int},IntsAre vs ns->C3 (ns.map V.int) vs
 | _,_,.nil=>.nil
 | _,_,.cons n t h=>.cons ⟨t,rfl⟩ (B1f h)
def B1g (H:Hp):Prop:=∀b,H b=none\/∃o xs,H b=some (.frz o (.lst xs))
theorem C3u {P:Program} {w:World} {K:A7} {mg mb:Str->Option Value} {CX:CXT} {k:Nat} {fa a:Addr} {fd:FuncData} {x:Str} {sp:Sp} {s₁:Shared} {vs:List Value} {ns:List Int}
  (KX:K.In s₁.heap) (hns:s₁.heap.Ns mainGlobals mg) (hb:s₁.heap.Ns builtinsNs mb) (hbb:∀x:Str,x≠ "__name__" ->mb x=bootBuiltins x) (hlim:s₁.heap.NoLimit) (hg:s₁.gens=#[])
  (ha:s₁.heap.get? a=some { cls:=.type "list",data:=.seq vs.toArray }) (hi:IntsAre vs ns) (hl:ns.length<=sizeLine) (hr:P8 k callerA)
  (F:∀base:Heap,K.In base->base.Ns mainGlobals mg->C9 P w K mg base CX k fa fd [x] sp) (hbind:∀(s:Shared) (u:Value),BindsTo s fd ⟨[u],[]⟩ [(x,u)])
  (hsp:∀H:Hp,B1g H->SqL K H a (ns.map V.int)->sp [.ref a] H (fun v _=>v=.bl true) fun _ _ _=>False)
  (hCX:∀H e s',CX [] H s₁ (fun _ _ _=>False) e s'->False) :
  codeAny (model P w) callerA (.call (.ref fa) ⟨[.ref a],[]⟩) (fun r s'=>r=.ok (.ret (.bool true))/\OldK s₁.heap s'.heap/\s'.os=s₁.os/\AllBare s'.gens) s₁:=by
 have rv:=B1f hi
 have lenV:=hi.length
 have core:∀H:Hp,B1g H->SqL K H a (ns.map V.int)->HOk P w H s₁.heap->(∀b,H b≠none->b=a)->(H a≠none->K.lookup a=none)->
   codeAny (model P w) callerA (.call (.ref fa) ⟨[.ref a],[]⟩) (fun r s'=>r=.ok (.ret (.bool true))/\OldK s₁.heap s'.heap/\s'.os=s₁.os/\AllBare s'.gens) s₁:=by
  intro H hO hS hok hA hK
  have base_of:∀{b:Addr} {o:Obj},s₁.heap.get? b=some o->H b=none->(l3 s₁.heap H).get? b=some o:=fun e n=>C14 e n
  have noA:∀{b:Addr} {o:Obj} {es:Array DictEntry} {ep:Nat},s₁.heap.get? b=some o->o.data=.dict es ep->H b=none:=fun {b o es ep} e d=>by
   cases q:H b with
   | none=>rfl
   | some u=>
    have e':b=a:=hA b (by rw[q];simp)
    subst e'
    rw[ha] at e;cases e
    have d':Data.seq vs.toArray _=Data.dict es ep:=d
    cases d'
  have nsK:∀{b:Addr} {m:Str->Option Value},s₁.heap.Ns b m->(l3 s₁.heap H).Ns b m:=fun {b m} ⟨o,es,ep,e,d,r⟩=>⟨o,es,ep,base_of e (noA e d),d,r⟩
  have hKb:K.In (l3 s₁.heap H):=fun b o e=>base_of (KX b o e) (by
   cases q:H b with
   | none=>rfl
   | some u=>
    have e':b=a:=hA b (by rw[q];simp)
    subst e'
    rw[hK (by rw[q];simp)] at e;cases e)
  have hM:Mod K mg (l3 s₁.heap H):=⟨hKb,nsK hns,⟨mb,nsK hb,hbb⟩,let ⟨mc,h1,h2⟩:=hlim;⟨mc,nsK h1,h2⟩⟩
  have e0:A8r P w K mg (l3 s₁.heap H) callerA [] s₁ H:=⟨rfl,hM,fun b o e=>C15 e,Nat.le_of_eq (C13 _ _),trivial,fun b hb=>absurd (show b∈([]:List Addr) from hb) (by simp),hok,.of_eq hg⟩
  refine codeAny_mono ((F _ hKb (nsK hns)).run callerA [] s₁ H ⟨[.ref a],[]⟩ [.ref a] [.ref a] _ _ hr e0 (hbind s₁ (.ref a)) (.cons rfl .nil) (hsp H hO hS)) fun r s' h=>?_
  cases r with
  | error e=>exact (hCX H e s' h).elim
  | ok fl=>
   cases fl with
   | next=>exact False.elim h
   | brk=>exact False.elim h
   | cont=>exact False.elim h
   | ret u=>
    obtain⟨v,H',os,bare,un,hok',r',q⟩:=h
    have q':v=.bl true:=q
    subst q'
    obtain rfl:u=Value.bool true:=r'
    refine⟨rfl,OldK.of_keep fun b o e=>?_,os,bare⟩
    cases q:H b with
    | none=>exact un.keep b o e q (by intro z;exact absurd (show b∈([]:List Addr) from z) (by simp)) (by simp)
    | some u=>
     rcases hO b with z | ⟨ob,xs,z⟩
     ·rw[q] at z;cases z
     ·have z2:=un.frzs b ob _ z
      obtain⟨e1,_⟩:=hok b _ z
      obtain⟨e2,_⟩:=hok' b _ z2
      rw[e] at e1;cases e1
      exact e2
 cases hk:K.lookup a with
 | some o=>
  have e:=KX a o hk
  rw[ha] at e
  cases e
  refine core (fun _=>none) (fun _=>.inl rfl) (.inr ⟨_,vs.toArray,_,hk,rfl,rfl,rfl,by rw[M6,lenV];exact hl,by simpa using rv⟩) (fun b u z=>by have z':(none:Option HO)=some u:=z;cases z') (fun b z=>absurd rfl z) fun z=>absurd rfl z
 | none=>
  refine core (fun b=>if b=a then some (.frz { cls:=.type "list",data:=.seq vs.toArray } (.lst (ns.map V.int))) else none) (fun b=>?_) (.inl (.inr ⟨{ cls:=.type "list",data:=.seq vs.toArray },if_pos rfl⟩)) (fun b u z=>?_) (fun b z=>?_) fun _=>hk
  ·by_cases hb:b=a
   ·exact .inr ⟨_,_,if_pos hb⟩
   ·exact .inl (if_neg hb)
  ·by_cases hb:b=a
   ·have z':=(if_pos hb).symm.trans z
    cases z'
    subst hb
    exact⟨ha,by rw[C7];exact hl,vs,_,rv,ha⟩
   ·have z':=(if_neg hb).symm.trans z
    cases z'
  ·by_cases hb:b=a
   ·exact hb
   ·exact absurd (if_neg hb) z
theorem walk_of {l:PySem.W.OpenLaw} {n k:Nat} {q:Program} {loose:List Str} {XP:(Str->Option Value)->Heap->Prop} {YP:World->Heap->Prop} {d:DefRec} {K:Params->A7} {CX:World->CXT} {sp:World->Sp} {x:Str}
  (hn:l.most=some n) (hn2:n<=sizeLine) (hdf:d.params.defaults=[]) (hr:P8 k callerA)
  (hY:∀(w:World) (h:Heap),YP w h->(K w.params).In h)
  (F:∀(w:World) (mg:Str->Option Value) (fa:Addr) (h:Heap),(K w.params).In h->h.Ns mainGlobals mg->mg d.name=some (.ref fa)->
   ∃fd:FuncData,(∀(s:Shared) (u:Value),BindsTo s fd ⟨[u],[]⟩ [(x,u)])/\
    ∀base:Heap,(K w.params).In base->base.Ns mainGlobals mg->C9 l.prog w (K w.params) mg base (CX w) k fa fd [x] (sp w))
  (hsp:∀(w:World) (H:Hp) (a:Addr) (ns:List Int),ns.length<=n->B1g H->SqL (K w.params) H a (ns.map V.int)->sp w [.ref a] H (fun v _=>v=.bl true) fun _ _ _=>False)
  (hCX:∀(w:World) (H:Hp) (s:Shared) (e:Value) (s':Shared),CX w [] H s (fun _ _ _=>False) e s'->False) :
  PySem.W.WalkO q loose XP YP l.row.toRowW d [] (fun f vs=>PySem.call f vs):=by
 refine Att.attach_call hn hdf fun w s₀ s₁ mg mb fa o pm cd doc a vs ns G Y ho hd hcd hmg hobj hints hlen hg=>?_
 have KX:=hY w _ Y
 obtain⟨fd,hb,hF⟩:=F w mg fa _ KX G.T.g hmg
 exact C3u KX G.T.g G.T.b G.T.builtins G.T.nolimit hg hobj hints (V5 hlen hn2) hr hF hb (fun H hO hS=>hsp w H a ns hlen hO hS) fun H e s'=>hCX w H s₁ e s'
def A1k (s:Stmt):Arguments:=match s with
 | .FunctionDef _ a _ _ _ _ _ _ _ _=>a
 | _=>{ posonlyargs:=[],args:=[],vararg:=none,kwonlyargs:=[],kw_defaults:=[],kwarg:=none,defaults:=[] }
def j1 (s:Stmt):List Stmt:=match s with
 | .FunctionDef _ _ b _ _ _ _ _ _ _=>b
 | _=>[]
def C2 (s:Stmt):Scope:=match s with
 | .FunctionDef _ _ _ _ _ _ sc _ _ _=>sc
 | _=>{ kind:=.function,names:=[],isGenerator:=false,isCoroutine:=false }
abbrev CX0:CXT:=fun _ _ _ _ _ _=>False
abbrev E0:XK:=fun _ _ _=>False
theorem B8 {X:Cx}:B1a CX0 X E0:=fun _ _ _ _ _ _ _ h=>h.elim
structure Fun (K:A7) (x qual:Str) (st:Stmt) (f:Addr) (fd:FuncData):Prop where
 ex:∃(oc:Value) (od:Option Addr) (kV doc pm:Value) (an:Option Addr) (cdv ct:Value) (osl:Array (Option Value)),
  fd=A06 x qual (A1k st) (j1 st) (C2 st) .none kV doc pm an cdv ct/\K.lookup f=some ⟨oc,od,.func fd,osl⟩/\B44 K cdv qual=true
 kp:B42 K (.ref f)=true
section
variable {P:Program} {w:World} {K:A7} {mg:Str->Option Value} {base:Heap}
theorem Fun.ok {x qual:Str} {st:Stmt} {f:Addr} {fd:FuncData} {N ps:List Str} {k:Nat} {sp:Sp} (F:Fun K x qual st f fd) (S:E3 N ps (C2 st)) (len:∀vs H Q E,sp vs H Q E->vs.length=ps.length)
  (hbody:∀(cdv:Value) (A:Around) (outer:List Env) (s:Shared) (H:Hp) (vs:List V) (Q:VK) (E:XK),P8 k (A.deeper (envOfC qual (C2 st) s.heap.objs.size f cdv))->sp vs H Q E->
   ∃t,PSs (i9 CX0 P w K mg base N qual (C2 st) f cdv A outer s H E).nox (j1 st) t/\t { nx:=fun _ H'=>Q .non H',rt:=Q } (start N vs) H):C9 P w K mg base CX0 (k + 1) f fd ps sp:=by
 obtain⟨oc,od,kV,doc,pm,an,cdv,ct,osl,rfl,lk,hcd⟩:=F.ex
 refine C26 lk hcd S len fun A outer s H vs Q E hr hsp=>?_
 obtain⟨t,h,q⟩:=hbody cdv A outer s H vs Q E hr hsp
 exact⟨t,h.nox,q⟩
theorem Fun.binds {x qual:Str} {st:Stmt} {f:Addr} {fd:FuncData} {ps:List Str} (F:Fun K x qual st f fd)
  (h:∀(kV doc pm:Value) (an:Option Addr) (cdv ct:Value) (us:List Value),us.length=ps.length->bindArgs (A06 x qual (A1k st) (j1 st) (C2 st) .none kV doc pm an cdv ct) ⟨us,[]⟩=pure (ps.zip us)):A3w K fd ps []:=by
 obtain⟨oc,od,kV,doc,pm,an,cdv,ct,osl,rfl,lk,hcd⟩:=F.ex
 exact .all (h kV doc pm an cdv ct)
theorem C3v {x qual:Str} {st:Stmt} {f:Addr} {oc:Value} {od an:Option Addr} {osl:Array (Option Value)} {kV doc pm cdv ct:Value} (l:K.lookup f=some ⟨oc,od,.func (A06 x qual (A1k st) (j1 st) (C2 st) .none kV doc pm an cdv ct),osl⟩)
  (c:B44 K cdv qual=true) (k:B42 K (.ref f)=true):Fun K x qual st f (A06 x qual (A1k st) (j1 st) (C2 st) .none kV doc pm an cdv ct):=⟨⟨oc,od,kV,doc,pm,an,cdv,ct,osl,rfl,l,c⟩,k⟩
end
theorem A6v {n:Nat} (h:n<=1000):n < sizeLine:=Nat.lt_of_le_of_lt h (by decide)
section
variable {X:Cx}
theorem pv (i:Nat) {x:Str} {pos:Pos} (hN:X.N[i]?=some x:=by rfl) (hv:Vis X.env.scope x:=by first | exact A8 rfl | exact g4 (A8 rfl) | exact g4 (g4 rfl)) (hd:(x == ("__debug__" : Str))=false:=by decide)
  (hcd:(x == ("__classdict__" : Str))=false:=by decide):PE X (.Name x pos) (Q2 i):=C17 hN hv hd hcd
end
theorem M4 {A B:Prop} (h:B):if false=true then A else B:=by
 rw[if_neg G6]
 exact h
theorem L5 {A B:Prop} (h:A):if true=true then A else B:=by
 rw[if_pos rfl]
 exact h
theorem A3x {c A B:Prop} [Decidable c] (h1:c->A) (h2:¬ c->B):if c then A else B:=by
 by_cases h:c
 ·rw[if_pos h]
  exact h1 h
 ·rw[if_neg h]
  exact h2 h
def Same (H H':Hp):Prop:=∀b o,H b=some o->H' b=some o
theorem Same.refl (H:Hp):Same H H:=fun _ _ h=>h
end L2
set_option maxHeartbeats 4000000
namespace L2
open PySem PySem.Spec PyProof.Rows
def T7 (cells:List (Str×Addr)):List (Str×NameKind)->List (Str×Addr)->List (Str×Addr)
 | [],cs=>cs
 | (n,k)::r,cs=>T7 cells r (if k == .free then (n,(cells.lookup n).getD 0)::cs else cs)
theorem B6n {scope:Scope} {env:Env} (h:∀y∈scope.names,y.2=.free->∃c,env.cells.lookup y.1=some c):closureFor scope env=pure (T7 env.cells scope.names []):=by
 have key:∀(l:List (Str×NameKind)) (cs:List (Str×Addr)),(∀y∈l,y.2=.free->∃c,env.cells.lookup y.1=some c)->
   (forIn l cs fun (x:Str×NameKind) (r:List (Str×Addr))=>if (x.2 == NameKind.free)=true then do let a <-cellOf env x.1;pure (ForInStep.yield ((x.1,a)::r)) else pure (ForInStep.yield r):Sem (List (Str×Addr)))=pure (T7 env.cells l cs):=by
  intro l
  induction l with
  | nil=>intro cs _;rfl
  | cons y r ih=>
   intro cs hl
   obtain⟨n,k⟩:=y
   rw[List.forIn_cons]
   by_cases hk:k=.free
   ·subst hk
    obtain⟨c,hc⟩:=hl (n,.free) B2 rfl
    have hc':env.cells.lookup n=some c:=hc
    have e1:cellOf env n=pure c:=by unfold cellOf;rw[hc']
    simp only[beq_self_eq_true,if_true,e1,pure_bind]
    rw[ih _ fun z hz=>hl z (A9 _ hz)]
    show _=pure (T7 env.cells r (if (NameKind.free == NameKind.free)=true then (n,(env.cells.lookup n).getD 0)::cs else cs))
    rw[hc']
    rfl
   ·have hb:(k == NameKind.free)=false:=by simpa using hk
    simp only[hb,M7,if_false,pure_bind]
    rw[ih _ fun z hz=>hl z (A9 _ hz)]
    show _=pure (T7 env.cells r (if (k == NameKind.free)=true then (n,(env.cells.lookup n).getD 0)::cs else cs))
    rw[hb]
    rfl
 have k2:=key scope.names [] h
 have e:closureFor scope env=((forIn scope.names [] fun (x:Str×NameKind) (r:List (Str×Addr))=>if (x.2 == NameKind.free)=true then do let a <-cellOf env x.1;pure (ForInStep.yield ((x.1,a)::r)) else pure (ForInStep.yield r):Sem (List (Str×Addr))) >>= fun cs=>pure cs):=rfl
 rw[e,k2]
 rfl
theorem B6o {cells:List (Str×Addr)}:∀{l:List (Str×NameKind)} {cs:List (Str×Addr)},(∀y∈l,y.2=.free->∃c,cells.lookup y.1=some c)->(∀x c,cs.lookup x=some c->cells.lookup x=some c)->
  ∀x c,(T7 cells l cs).lookup x=some c->cells.lookup x=some c
 | [],_,_,h,x,c,e=>h x c e
 | (n,k)::r,cs,hl,h,x,c,e=>by
  unfold T7 at e
  refine B6o (l:=r) (fun z hz=>hl z (A9 _ hz)) (fun y d q=>?_) x c e
  split at q
  ·rename_i hk
   obtain⟨c0,hc0⟩:=hl (n,k) B2 (by simpa using hk)
   have hc0':cells.lookup n=some c0:=hc0
   rw[hc0'] at q
   rw[A6d] at q
   split at q
   ·rename_i hb
    have:=eq_of_beq hb
    subst this
    rw[hc0']
    exact q
   ·exact h y d q
  ·exact h y d q
theorem B6p {cells:List (Str×Addr)} {x:Str}:∀{l:List (Str×NameKind)} {cs:List (Str×Addr)},(∃c,cs.lookup x=some c)->∃c,(T7 cells l cs).lookup x=some c
 | [],_,h=>h
 | (n,k)::r,cs,h=>by
  unfold T7
  refine B6p (l:=r) ?_
  split
  ·rw[A6d]
   split
   ·exact⟨_,rfl⟩
   ·exact h
  ·exact h
theorem B1h {cells:List (Str×Addr)} {x:Str}:∀{l:List (Str×NameKind)} {cs:List (Str×Addr)},(x,NameKind.free)∈l->∃c,(T7 cells l cs).lookup x=some c
 | (n,k)::r,cs,h=>by
  unfold T7
  rcases N2.mp h with e | h
  ·injection e with e1 e2
   subst e1 e2
   refine B6p (l:=r) ?_
   simp only[beq_self_eq_true,if_true]
   rw[A6d]
   simp
  ·exact B1h (l:=r) h
structure CA where
 s:Shared
 H:Hp
 C:Addr
 fp:List Addr
abbrev S6 (X:Cx) (scope:Scope) (N':List Str) (a:CA):Cx where
 prog:=X.prog
 w:=X.w
 K:=X.K
 mg:=X.mg
 base:=X.base
 A:=X.A
 N:=N'
 s₀:=a.s
 H₀:=a.H
 env:=compEnvC scope (T7 X.env.cells scope.names []) a.C X.env
 outer:=X.stack
 stack:=X.stack
 ex:=a.fp
 fn:=fun _=>false
 calm:=X.calm
 pn:=[]
 xe:=fun _ _=>False
structure O1 (N N':List Str) (osc scope:Scope) (j:Nat) (x:Str):Prop where
 nd:N'.Nodup
 at_:N'[j]?=some x
 sub:∀(i:Nat) y,i≠j->N'[i]?=some y->N[i]?=some y
 len:N'.length<=N.length + 1
 kind:scope.kind=.function
 cell:∀y∈scope.names,y.2≠.cell
 names:∀y∈scope.names,y.2=.local->scope.names.lookup y.1=some .local
 only:∀y∈scope.names,y.2=.local->y.1=x\/y.1∉N'
 loc:scope.names.lookup x=some .local
 okind:osc.kind=.function
 free:∀y∈scope.names,y.2=.free->osc.names.lookup y.1=some .cell
def B6q (N:List Str) (osc scope:Scope) (x:Str):Bool:=
 decide (N++[x]).Nodup&&decide (scope.kind=.function)&&decide (osc.kind=.function)&&(scope.names.lookup x == some .local)&&
  scope.names.all fun y=>match y.2 with
   | .cell=>false
   | .local=>scope.names.lookup y.1 == some .local&&(y.1 == x||!((N++[x]).contains y.1))
   | .free=>osc.names.lookup y.1 == some .cell
   | _=>true
theorem O1.new {N:List Str} {osc scope:Scope} {x:Str} (h:B6q N osc scope x=true):O1 N (N++[x]) osc scope N.length x:=by
 unfold B6q at h
 simp only[k8,decide_eq_true_eq,B47,beq_iff_eq] at h
 obtain⟨⟨⟨⟨h1,h2⟩,h3⟩,h4⟩,h5⟩:=h
 refine⟨h1,by simp,fun i y ne e=>?_,by simp,h2,fun y hy e=>?_,fun y hy e=>?_,fun y hy e=>?_,h4,h3,fun y hy e=>?_⟩
 ·by_cases hi:i < N.length
  ·rw[b7 hi] at e;exact e
  ·rw[X9 (by lia)] at e
   cases q:i - N.length with
   | zero=>exact absurd (by lia) ne
   | succ k=>rw[q] at e;simp at e
 ·have:=h5 y hy;rw[e] at this;cases this
 ·have:=h5 y hy
  rw[e] at this
  simp only[k8,beq_iff_eq] at this
  exact this.1
 ·have:=h5 y hy
  rw[e] at this
  simp only[k8,Bool.or_eq_true,beq_iff_eq,B48,List.contains_eq_mem,decide_eq_false_iff_not] at this
  exact this.2
 ·have:=h5 y hy
  rw[e] at this
  simp only[beq_iff_eq] at this
  exact this
def Q9 (n j:Nat) (σ:St):St:=((σ++[none]).take n).set j none
theorem B6r {n j i:Nat} {σ:St} {v:V} (h:(Q9 n j σ)[i]?=some (some v)):i≠j/\σ[i]?=some (some v):=by
 unfold Q9 at h
 by_cases e:i=j
 ·subst e
  rw[g5] at h
  simp only[if_true] at h
  split at h <;> cases h
 ·refine⟨e,?_⟩
  rw[U2 (Ne.symm e)] at h
  have h2:(σ++[none])[i]?=some (some v):=by
   by_cases hi:i < n
   ·rw[List.getElem?_take_of_lt hi] at h;exact h
   ·rw[Y2 (by rw[T3];lia)] at h;cases h
  by_cases hi:i < σ.length
  ·rw[b7 hi] at h2;exact h2
  ·rw[X9 (by lia)] at h2
   cases q:i - σ.length with
   | zero=>rw[q] at h2;cases h2
   | succ k=>rw[q] at h2;cases h2
theorem C3w {n j:Nat} {σ:St} (h:n<=σ.length + 1):(Q9 n j σ).length=n:=by
 unfold Q9
 rw[O8,T3,F5]
 simp;lia
theorem A6w {env:Env}:∀{names:List (Str×NameKind)} {x:Str},((names.map fun (n,k)=>if (k == NameKind.free&&env.scope.kind == .function&&env.kindOf n == some .cell) then (n,NameKind.cell) else (n,k)).lookup x=some .cell\/
  (names.map fun (n,k)=>if (k == NameKind.free&&env.scope.kind == .function&&env.kindOf n == some .cell) then (n,NameKind.cell) else (n,k)).lookup x=some .free)->(∀y∈names,y.2≠.cell)->(x,NameKind.free)∈names
 | [],_,h,_=>by rcases h with h | h <;> cases h
 | (n,k)::r,x,h,hc=>by
  rw[U4] at h
  dsimp only at h
  by_cases hk:(k == NameKind.free&&env.scope.kind == .function&&env.kindOf n == some .cell)=true
  ·rw[if_pos hk] at h
   simp only[A6d] at h
   cases hx:x == n with
   | true=>
    have e:=eq_of_beq hx
    subst e
    have k':k=.free:=by
     rw[k8,k8] at hk
     simpa using hk.1.1
    subst k'
    exact B2
   | false=>
    simp only[hx] at h
    exact A9 _ (A6w h fun y hy=>hc y (A9 _ hy))
  ·rw[if_neg hk] at h
   simp only[A6d] at h
   cases hx:x == n with
   | true=>
    have e:=eq_of_beq hx
    subst e
    simp only[hx] at h
    rcases h with h | h
    ·exact absurd (Option.some.inj h) (hc (x,k) B2)
    ·have:=Option.some.inj h
     subst this
     exact B2
   | false=>
    simp only[hx] at h
    exact A9 _ (A6w h fun y hy=>hc y (A9 _ hy))
theorem A8v {env:Env}:∀{names:List (Str×NameKind)} {x:Str},(names.map fun (n,k)=>if (k == NameKind.free&&env.scope.kind == .function&&env.kindOf n == some .cell) then (n,NameKind.cell) else (n,k)).lookup x=some .local->(x,NameKind.local)∈names
 | [],_,h=>by cases h
 | (n,k)::r,x,h=>by
  rw[U4] at h
  dsimp only at h
  by_cases hk:(k == NameKind.free&&env.scope.kind == .function&&env.kindOf n == some .cell)=true
  ·rw[if_pos hk] at h
   simp only[A6d] at h
   cases hx:x == n with
   | true=>simp only[hx] at h;cases h
   | false=>
    simp only[hx] at h
    exact A9 _ (A8v h)
  ·rw[if_neg hk] at h
   simp only[A6d] at h
   cases hx:x == n with
   | true=>
    have e:=eq_of_beq hx
    subst e
    simp only[hx] at h
    have:=Option.some.inj h
    subst this
    exact B2
   | false=>
    simp only[hx] at h
    exact A9 _ (A8v h)
section
variable {X:Cx} {pins:List (Addr×Obj)} {σ:St} {H:Hp} {s:Shared}
structure Own (X:Cx) (pins:List (Addr×Obj)) (H:Hp) (C:Addr):Prop where
 no:H C=none
 ne:C≠X.env.locals
 ab:X.s₀.heap.objs.size<=C
 ce:∀x c,X.env.cells.lookup x=some c->c≠C
 pi:∀p∈X.pn++pins,p.1≠C
theorem Inv.own {C:Addr} {H':Hp} (I:Inv X pins σ H s) (h:s.heap.objs.size<=C) (hn:H' C=none):Own X pins H' C:=by
 refine⟨hn,B0h (Q7 I.lt h),V5 I.sz h,fun x c e z=>?_,fun p hp z=>?_⟩
 ·obtain⟨v,q⟩:=I.cell x c e
  exact absurd (Q7 q.lt (by rw[z];exact h)) (j9 _)
 ·exact absurd (Q7 (G3 (I.pin p hp).1) (by rw[z];exact h)) (j9 _)
theorem Inv.own_turn {C:Addr} {h':Heap} (I:Inv X pins σ H s) (o:Own X pins H C) (hs:Heap.SameBut C s.heap h'):Inv X pins σ H { s with heap:=h' }:=
 I.turned (t':=s.toks) (fun b ob hb e=>(hs.2 b hb).trans e) o.no o.ne (.inr o.ab) o.ce o.pi
theorem Inv.track {D:Addr} {ys:List V} {its:List Value} {n:Nat} (I:Inv X pins σ H s) (o:Own X pins H D) (e:s.heap.get? D=some { cls:=.type "list",data:=.seq its.toArray n }) (r:C3 ys its) (hz:ys.length<=sizeLine) :
  Inv X pins σ (upd H D (.lst ys)) s:=by
 have nD:∀b u,H b=some u->b≠D:=fun b u q z=>by rw[z,o.no] at q;cases q
 have hok:HOk X.prog X.w (upd H D (.lst ys)) s.heap:=fun b u q=>by
  by_cases hb:b=D
  ·subst hb
   rw[E7] at q
   cases q
   exact⟨hz,its,n,r,e⟩
  ·rw[B6 hb] at q
   exact (I.hok b u q).stay (fun _ _ _ z=>z) (fun c z=>by rw[B6 (nD c _ z)];exact z) fun c xs z=>by rw[B6 (nD c _ z)];exact z
 have:=I.step (H':=upd H D (.lst ys)) (h':=s.heap) (g':=s.gens) (t':=s.toks) (d':=s.drawn) (ch:=[D]) (fun b hb=>by
   have e':b=D:=by simpa using hb
   subst e'
   exact⟨.inr o.ab,o.ne,o.ce,o.pi⟩) (fun b ob _ _ _ q _=>q) (fun b ob _ _ _ q _=>⟨ob.slots,q⟩) (fun b ob hc q z=>by rw[B6 (by simpa using hc)];exact z) (fun b ob _ q=>⟨ob,q⟩)
  (fun b xs q=>by rw[B6 (nD b _ q)];exact q) (fun b ob u q=>by rw[B6 (nD b _ q)];exact q) (fun b ps q=>⟨#[],by rw[B6 (nD b _ q),q];simp⟩) (fun m z=>z) hok I.bare
 exact this
end
section
variable {prog:Program} {w:World} {A:Around} {R:Result->Shared->Prop} {s:Shared}
theorem C3x {elt target iter:Expr} {ifs:List Expr} {scope:Scope} {pos:Pos} {it acc:Value} {env:Env} (I:Nat->Shared->Prop)
  (turn:∀n s,I n s->∀E:Value->Shared->Prop,wpAny (model prog w) A (pyNext it) (fun r s₁=>match r with
   | none=>R (.ok .next) s₁
   | some v=>wpAny (model prog w) A (letOwnedTupleGo target it v) (fun _ s₁'=>wpAny (model prog w) A (assign target env v) (fun _ s₂=>
     wpAny (model prog w) A (forIn ifs true fun c r=>if r=true then do let ok <-isTrue c env (eval c env);pure (ForInStep.yield ok) else pure (ForInStep.yield r)) (fun ok s₃=>
      if ok=true then wpAny (model prog w) A (eval elt env) (fun x s₄=>
       wpAny (model prog w) A (call (.builtin "list.append") [acc,x]) (fun _ s₅=>∃m,m < n/\I m s₅) E s₄) E s₃
      else ∃m,m < n/\I m s₃) E s₂) E s₁') E s₁) E s)
  (n:Nat) (h:I n s) :
  codeAny (model prog w) A (.compLoop (.ListComp elt [⟨target,iter,ifs,0⟩] scope pos) 0 it acc env) R s:=by
 refine codeAny_loop rfl I (fun n s hI=>?_) n h
 show wpAny _ A ((compTurn (.ListComp elt [⟨target,iter,ifs,0⟩] scope pos) 0 it acc env).onRaise (fun x=>do noteFrame x env;theTreesLotGoes x)) _ _ s
 refine wpAny_noted ?_
 rw[compTurn_list]
 refine wpAny_bind (wpAny_standAt (wpAny_bind (wpAny_mono (turn n s hI _) (fun r s₁ h₁=>?_) fun _ _ h'=>h')))
 cases r with
 | none=>exact wpAny_pure h₁
 | some v=>
  refine wpAny_bind (wpAny_mono h₁ (fun _ s₁' h₁'=>?_) fun _ _ h'=>h')
  refine wpAny_bind (wpAny_mono h₁' (fun _ s₂ h₂=>wpAny_bind (wpAny_mono h₂ (fun ok s₃ h₃=>?_) fun _ _ h'=>h')) fun _ _ h'=>h')
  cases ok with
  | false=>exact wpAny_pure ⟨rfl,h₃⟩
  | true=>
   exact wpAny_bind (wpAny_bind (wpAny_mono h₃ (fun x s₄ h₄=>wpAny_bind (wpAny_mono h₄ (fun _ s₅ h₅=>wpAny_pure (wpAny_pure ⟨rfl,h₅⟩)) fun _ _ h'=>h')) fun _ _ h'=>h'))
end
def PTs (X:Cx) (ifs:List Expr) (t:TT):Prop:=
 ∀(pins:List (Addr×Obj)) (s:Shared) (σ:St) (H:Hp) (Q:Bool->Hp->Prop),Inv X pins σ H s->t σ H Q->
  wpAny (model X.prog X.w) X.A (forIn ifs true fun c r=>if r=true then do let ok <-isTrue c X.env (eval c X.env);pure (ForInStep.yield ok) else pure (ForInStep.yield r)) (TP X pins σ Q) X.xe s
def A8w:TT:=fun _ H Q=>Q true H
theorem A8x {X:Cx}:PTs X [] A8w:=fun _ _ _ H _ I h=>wpAny_tests_nil ⟨H,I,h⟩
theorem A8y {X:Cx} {c:Expr} {t:TT} (h:PT X c t):PTs X [c] t:=fun pins s σ H Q I q=>wpAny_tests_one (h pins s σ H Q I q)
def B1i (σ:St) (n j:Nat) (tt:CA->TT) (te:CA->TE) (J:It) (H1:Hp) (Q:List V->Hp->Prop):Prop:=
 ∃W:Nat->Nat->List V->Hp->Prop,(∃m,W 0 m [] H1)/\∀i m ys H,W i m ys H->ys.length<=sizeLine/\
  ((J.stop i H/\Q ys H)\/(J.go i H/\∃N:List V->Hp->Prop,(∀ys' H',N ys' H'->∃m',m' < m/\W (i + 1) m' ys' H')/\
   ∀x H',J.yld i H x H'->∀a:CA,tt a ((Q9 n j σ).set j (some x)) H' fun b H2=>if b=true then te a ((Q9 n j σ).set j (some x)) H2 fun y H3=>N (ys++[y]) H3 else N ys H2))
def x9 (wi:TI) (n j:Nat) (tt:CA->TT) (te:CA->TE):TE:=fun σ H Q=>wi σ H fun J H1=>B1i σ n j tt te J H1 fun ys H2=>∀p,H2 p=none->Q (.ref p) (upd H2 p (.lst ys))
section
variable {X:Cx} {pins:List (Addr×Obj)} {σ:St} {H:Hp} {s:Shared}
theorem B6s {elt iter:Expr} {x:Str} {px pos:Pos} {ifs:List Expr} {scope:Scope} {N':List Str} {j:Nat} {tt:CA->TT} {te:CA->TE} {it:Addr} {fp:List Addr} {tn:Nat->Heap->Prop} {J:It} {Q:List V->Hp->Prop}
  {RR:Value->Addr->Result->Shared->Prop} {E:Value->Shared->Prop}
  (S:O1 X.N N' X.env.scope scope j x) (hc:X.calm=true)
  (ht:∀a:CA,PTs (S6 X scope N' a) ifs (tt a)) (he:∀a:CA,PE (S6 X scope N' a) elt (te a))
  (I:Inv X pins σ H s) (T:A1f X.prog X.w X.K (.Name x px) J fp it tn) (st:tn 0 s.heap) (f2:∀b∈fp,Y8 X pins H b) (h:B1i σ N'.length j tt te J H Q)
  (hRR:∀(D C:Addr) (ys:List V) (H':Hp) (s':Shared) (m:Str->Option Value),s'.heap.Ns C m->Own X pins (upd H' D (.lst ys)) C->Inv X pins σ (upd H' D (.lst ys)) s'->H' D=none->Q ys H'->RR (.ref D) C (.ok .next) s') :
  wpAny (model X.prog X.w) X.A (newList []) (fun acc s₃=>wpAny (model X.prog X.w) X.A (newFunctionEnv scope X.env.globals (T7 X.env.cells scope.names []) [] X.env.qual none .none (some X.env)) (fun cenv s₄=>
   codeAny (model X.prog X.w) X.A (.compStart (.ListComp elt [⟨.Name x px,iter,ifs,0⟩] scope pos) 0 (.ref it) acc { cenv with scope:=relabel scope X.env }) (RR acc cenv.locals) s₄) E s₃) E s:=by
 refine wpAny_newObj_type (wpAny_newFunctionEnv S.cell (by intro y hy;simp at hy) (fun h₁ hns₁ hsb₁=>?_) S.kind)
 dsimp only at hns₁ hsb₁ ⊢
 generalize hH2:s.heap.push { cls:=.type "list",dict:=none,data:=.seq ([]:List Value).toArray }=H2 at hns₁ hsb₁ ⊢
 have hC:H2.objs.size=s.heap.objs.size + 1:=by rw[<-hH2,Heap.size_push]
 have hDC:s.heap.objs.size≠H2.objs.size:=by rw[hC];exact P4 (Nat.lt_succ_self _)
 have hCle:s.heap.objs.size<=H2.objs.size:=by rw[hC];exact A3g _
 have below:∀b,b < s.heap.objs.size->b≠H2.objs.size/\b≠s.heap.objs.size:=fun b hb=>⟨by rw[hC];exact P4 (B49 hb),P4 hb⟩
 have old:∀b o,s.heap.get? b=some o->h₁.get? b=some o:=fun b o e=>hsb₁.extBut b o (below b (G3 e)).1 (U3 _ (hH2▸U3 _ e))
 have hacc:h₁.get? s.heap.objs.size=some { cls:=.type "list",data:=.seq ([]:List Value).toArray }:=hsb₁.extBut _ _ hDC (U3 _ (hH2▸T2 _ rfl))
 have fplt:∀b∈fp,b < s.heap.objs.size:=fun b hb=>let ⟨_,e,_⟩:=T.obj 0 _ st b hb;G3 e
 have hcells:∀y∈scope.names,y.2=.free->∃c,X.env.cells.lookup y.1=some c:=fun y hy e=>I.ok.has y.1 (.inl (S.free y hy e))
 have sub:∀y c,(T7 X.env.cells scope.names []).lookup y=some c->X.env.cells.lookup y=some c:=B6o hcells (fun y c e=>by cases e)
 let a:CA:=⟨s,H,H2.objs.size,fp⟩
 have ok:(S6 X scope N' a).Ok:=by
  refine⟨I.ok.mod,S.kind,I.ok.glob,I.ok.blt,hCle,fun y z c e1 e2=>I.ok.inj y z c (sub y c e1) (sub z c e2),fun y hy=>?_,fun y c z=>?_,I.ok.hd,I.ok.frames,.inl rfl,fun b hb=>⟨(below b (fplt b hb)).1,fun y c e=>(f2 b hb).2.2.2.2.1 y c (sub y c e)⟩,I.bs,
   V5 I.ok.bsz I.sz,fun b o e hb=>?_,fun b hb z=>?_,I.stack,I.stkFree⟩
  ·exact B1h (A6w hy S.cell)
  ·cases z
  ·rcases (f2 b hb).2.2.2.1 with z | z
   ·exact I.ok.noex b o e z
   ·exact absurd (Q7 (G3 (I.ok.bs b o e).1) z) (j9 _)
  ·rcases N2.mp (I.stkSub b z) with e | e
   ·exact (f2 b hb).2.1 e
   ·exact (f2 b hb).2.2.1 e
 have look:∀(h':Heap) (m':Str->Option Value),(∀y c,X.env.cells.lookup y=some c->∀v,s.heap.IsCell c v->h'.IsCell c v)->∀(i:Nat) (y:Str) (v:V),N'[i]?=some y->(Q9 N'.length j σ)[i]?=some (some v)->
   Vis (relabel scope X.env) y->∃u,D8 v u/\B5l (compEnvC scope (T7 X.env.cells scope.names []) H2.objs.size X.env) h' m' y u:=by
  intro h' m' kc i y v e1 e2 e3
  obtain⟨ne,e4⟩:=B6r e2
  have e5:=S.sub i y ne e1
  have hy:(y,NameKind.free)∈scope.names:=by
   rcases e3 with e3 | e3 | e3
   ·rcases S.only _ (A8v e3) rfl with z | z
    ·exact absurd (A8e S.nd e1 (by rw[S.at_];exact congrArg some z.symm)) ne
    ·exact absurd (Q8 e1) z
   ·exact A6w (.inl e3) S.cell
   ·exact A6w (.inr e3) S.cell
  have kcell:X.env.scope.names.lookup y=some .cell:=S.free _ hy rfl
  obtain⟨m0,hn0,hl0⟩:=I.loc
  obtain⟨u,r,l⟩:=hl0 i y v e5 e4 (.inr (.inl kcell))
  refine⟨u,r,.inr ⟨?_,?_⟩⟩
  ·rcases e3 with e3 | e3 | e3
   ·rcases S.only _ (A8v e3) rfl with z | z
    ·exact absurd (A8e S.nd e1 (by rw[S.at_];exact congrArg some z.symm)) ne
    ·exact absurd (Q8 e1) z
   ·exact .inl e3
   ·exact .inr e3
  ·rcases l with ⟨k,_⟩ | ⟨k,c,e,z⟩
   ·have k':X.env.scope.names.lookup y=some .local:=k
    rw[kcell] at k';cases k'
   ·obtain⟨c',e'⟩:=B1h (cells:=X.env.cells) (cs:=[]) hy
    have e'':=sub y c' e'
    rw[e] at e''
    cases e''
    exact⟨c,e',kc y c e _ z⟩
 have cellOld:∀y c,X.env.cells.lookup y=some c->∀v,s.heap.IsCell c v->h₁.IsCell c v:=fun y c _ v zz232=>el2 zz232 fun o ho hd=>⟨o,old c o ho,hd⟩
 have fr0:∀b,s.heap.objs.size<=b->H b=none:=fun b hb=>I.hok.fresh hb
 have noPn:∀p,p∉(S6 X scope N' a).pn++([]:List (Addr×Obj)):=fun p hp=>by simp at hp
 have I0:Inv (S6 X scope N' a) [] (Q9 N'.length j σ) H { s with heap:=h₁,toks:=s.toks + ([]:List (Str×Value)).length }:=by
  refine⟨ok,rfl,I.bare,Un.kept old,⟨_,hns₁,look h₁ _ cellOld⟩,fun y c e=>?_,fr0 _ hCle,fun y c e=>I.freeC y c (sub y c e),fun p hp=>absurd hp (noPn p),I.hok.kept old,C3w (by rw[I.len];exact S.len)⟩
  obtain⟨v,z⟩:=I.cell y c (sub y c e)
  exact⟨v,cellOld y c (sub y c e) v z⟩
 obtain⟨W,⟨m0,w0⟩,turn⟩:=h
 have loop:∀s₃:Shared,s₃={ s with heap:=h₁,toks:=s.toks + ([]:List (Str×Value)).length }->
   codeAny (model X.prog X.w) X.A (.compLoop (.ListComp elt [⟨.Name x px,iter,ifs,0⟩] scope pos) 0 (.ref it) (.ref s.heap.objs.size) (compEnvC scope (T7 X.env.cells scope.names []) H2.objs.size X.env)) (RR (.ref s.heap.objs.size) H2.objs.size) s₃:=by
  rintro s₃ rfl
  refine C3x (fun k s'=>∃(i:Nat) (ys:List V) (its:List Value) (n:Nat) (H':Hp),Inv (S6 X scope N' a) [] (Q9 N'.length j σ) H' s'/\s'.heap.get? s.heap.objs.size=some { cls:=.type "list",data:=.seq its.toArray n }/\C3 ys its/\
   H' s.heap.objs.size=none/\tn i s'.heap/\(∀b∈fp,H' b=none)/\W i k ys H') ?_ m0
   ⟨0,[],[],0,H,I0,hacc,.nil,fr0 _ (D2 _),T.keep _ _ _ st fun b hb o e=>old b o e,fun b hb=>(f2 b hb).1,w0⟩
  rintro k s' ⟨i,ys,its,n,H',I',hD,rv,nD',st',fr',w'⟩ E'
  obtain⟨hz,hw⟩:=turn i k ys H' w'
  have ownD:Own (S6 X scope N' a) [] H' s.heap.objs.size:=⟨nD',hDC,D2 _,fun y c e z=>by
   obtain⟨v,q⟩:=I.cell y c (sub y c e)
   exact absurd q.lt (by rw[z];exact j9 _),fun p hp=>absurd hp (noPn p)⟩
  have fpok:∀(pl:List (Addr×Obj)) (H'':Hp),(∀b∈fp,H'' b=none)->(∀p∈pl,p.1∉fp)->∀b∈fp,Y8 (S6 X scope N' a) pl H'' b:=fun pl H'' hn hpl b hb=>
   ⟨hn b hb,(below b (fplt b hb)).1,fun z=>by
    rcases N2.mp (I.stkSub b z) with e | e
    ·exact (f2 b hb).2.1 e
    ·exact (f2 b hb).2.2.1 e,.inl hb,fun y c e=>(f2 b hb).2.2.2.2.1 y c (sub y c e),fun p hp z=>by
    have hp':p∈pl:=by simpa using hp
    exact hpl p hp' (z▸hb)⟩
  have nDfp:s.heap.objs.size∉fp:=fun z=>absurd (fplt _ z) (j9 _)
  have pinD:∀p∈([(s.heap.objs.size,{ cls:=.type "list",data:=.seq its.toArray n })]:List (Addr×Obj)),s'.heap.get? p.1=some p.2/\H' p.1=none/\p.1≠(S6 X scope N' a).env.locals/\p.1∉(S6 X scope N' a).fs/\∀v,p.2.data≠.cell v:=fun p hp=>by
   have e:p=(s.heap.objs.size,{ cls:=.type "list",data:=.seq its.toArray n }):=by simpa using hp
   subst e
   refine⟨hD,nD',hDC,fun z=>?_,fun v z=>by cases z⟩
   rcases N2.mp (I.stkSub _ z) with e | e
   ·exact absurd I.lt (by rw[<-e];exact j9 _)
   ·exact I.nofs (D2 _) e
  have Ip:=I'.pins_of pinD
  have hpl:∀p∈([(s.heap.objs.size,{ cls:=.type "list",data:=.seq its.toArray n })]:List (Addr×Obj)),p.1∉fp:=fun p hp=>by
   have e:p=(s.heap.objs.size,{ cls:=.type "list",data:=.seq its.toArray n }):=by simpa using hp
   subst e
   exact nDfp
  rcases hw with ⟨stop,q⟩ | ⟨go,N,hN,step⟩
  ·refine thn (T.done (S6 X scope N' a) rfl rfl rfl hc i _ s' _ H' E' Ip (fpok _ H' fr' hpl) st' stop) fun r s4 zz233=>zz233.elim fun hr I4=>?_
   subst hr
   have hD4:=(I4.pin (s.heap.objs.size,{ cls:=.type "list",data:=.seq its.toArray n }) (by simp)).1
   have J4:Inv X pins σ H' s4:=I.call' (ch:=fp) I4.os I4.base I4.hok I4.bare fun b hb=>⟨(f2 b hb).2.2.2.1,(f2 b hb).2.1,(f2 b hb).2.2.2.2.1,(f2 b hb).2.2.2.2.2⟩
   obtain⟨m4,hn4,_⟩:=I4.loc
   have hC4:H' H2.objs.size=none:=I4.free
   exact hRR _ _ ys H' s4 m4 hn4 (I.own hCle (by rw[B6 (Ne.symm hDC)];exact hC4)) (J4.track (I.own (D2 _) nD') hD4 rv hz) nD' q
  ·refine thn (T.item (S6 X scope N' a) rfl rfl rfl hc i _ s' _ H' E' Ip (fpok _ H' fr' hpl) st' go) fun r s5 zz234=>el2 zz234 fun u hr h5=>?_
   subst hr
   refine thn h5 fun _ s6 zz235=>zz235.elim fun xv zz236=>zz236.elim fun H6 zz237=>zz237.elim fun I6 zz238=>zz238.elim fun r6 zz239=>zz239.elim fun y6 zz240=>zz240.elim fun st6 fr6=>?_
   have I6':=I6.pinned (fpok _ H6 fr6 hpl) (T.obj _ _ st6)
   refine wpAny_assign_Name (B0s I6' S.nd S.at_ (.inl (lookup_relabel_local S.loc)) r6 (fun s7 I7=>?_) (.inr (lookup_relabel_local S.loc)))
   have wk:∀(i:Nat) v,(Q9 N'.length j σ)[i]?=some (some v)->((Q9 N'.length j σ).set j (some xv))[i]?=some (some v):=fun i v e=>by
    rw[U2 (Ne.symm (B6r e).1)];exact e
   refine wpAny_mono (ht a _ s7 _ H6 _ I7 (step xv H6 y6 a)) (fun ok s8 zz241=>el2 zz241 fun H8 I8 q8=>?_) fun _ _ z=>z.elim
   have tnk:∀{H9:Hp} {s9:Shared} {σ9:St},Inv (S6 X scope N' a) ([(s.heap.objs.size,{ cls:=.type "list",data:=.seq its.toArray n })]++A6p fp s6.heap) σ9 H9 s9->tn (i + 1) s9.heap/\(∀b∈fp,H9 b=none)/\s9.heap.get? s.heap.objs.size=some { cls:=.type "list",data:=.seq its.toArray n }/\H9 s.heap.objs.size=none:=fun {H9 s9 σ9} I9=>by
    refine⟨T.keep _ _ _ st6 fun b hb o e=>(I9.pin (b,o) (S1 _ (S1 _ (A8j hb e)))).1,fun b hb=>?_,?_⟩
    ·obtain⟨o,e,d⟩:=T.obj _ _ st6 b hb
     exact (I9.pin (b,o) (S1 _ (S1 _ (A8j hb e)))).2.1
    ·have z:=I9.pin (s.heap.objs.size,{ cls:=.type "list",data:=.seq its.toArray n }) (S1 _ (f8 _ (by simp)))
     exact⟨z.1,z.2.1⟩
   cases ok with
   | false=>
    obtain⟨m',hm,w8⟩:∃m',m' < k/\W (i + 1) m' ys H8:=hN _ _ (by simpa using q8)
    obtain⟨t1,t2,t3,t4⟩:=tnk I8
    exact⟨m',hm,i + 1,ys,its,n,H8,(I8.pins_of (pins':=[]) fun p hp=>nomatch hp).weak (by rw[O8]) wk,t3,rv,t4,t1,t2,w8⟩
   | true=>
    have q8':=q8
    simp only[if_true] at q8'
    refine wpAny_mono (he a _ s8 _ H8 _ I8 q8') (fun u9 s9 zz242=>el5 zz242 fun v9 H9 I9 r9 q9=>?_) fun _ _ z=>z.elim
    obtain⟨m',hm,w9⟩:=hN _ _ q9
    obtain⟨t1,t2,t3,t4⟩:=tnk I9
    have hl:=rv.length
    refine append_at (hsz:=by show its.toArray.size<=sizeLine;rw[M6,<-hl];exact hz) t3 fun h' hs' hD'=>?_
    have J9:=((I9.pins_of (pins':=[]) fun p hp=>nomatch hp).weak (σ':=Q9 N'.length j σ) (by rw[O8]) wk).own_turn (C:=s.heap.objs.size) ⟨t4,ownD.ne,ownD.ab,ownD.ce,ownD.pi⟩ hs'
    refine⟨m',hm,i + 1,ys++[v9],its++[u9],n + 1,H9,J9,?_,C3.append rv (.cons r9 .nil),t4,T.keep _ _ _ t1 fun b hb o e=>(hs'.2 b fun z=>nDfp (z▸hb)).trans e,t2,w9⟩
    rw[List.push_toArray] at hD'
    exact hD'
 exact codeAny_compStart_list (loop _ rfl) (T.self _ 0 _ _ _ (T.keep _ _ _ st fun b hb o e=>old b o e) (loop _ rfl))
theorem j2 {elt iter:Expr} {x:Str} {px pos:Pos} {ifs:List Expr} {scope:Scope} {N':List Str} {j:Nat} {wi:TI} {tt:CA->TT} {te:CA->TE} {osc:Scope} {N:List Str}
  (S:O1 N N' osc scope j x) (hc:X.calm=true) (hi:PI X (.Name x px) iter wi) (ht:∀a:CA,PTs (S6 X scope N' a) ifs (tt a)) (he:∀a:CA,PE (S6 X scope N' a) elt (te a))
  (ho:X.env.scope=osc:=by rfl) (hN:X.N=N:=by rfl) (hs:∀x,foldedSetIterable iter X.env x=pure x:=by intro _;rfl):PE X (.ListComp elt [⟨.Name x px,iter,ifs,0⟩] scope pos) (x9 wi N'.length j tt te):=by
 subst ho hN
 intro pins s σ H Q I h
 rw[eval_ListComp]
 have hcells:∀y∈scope.names,y.2=.free->∃c,X.env.cells.lookup y.1=some c:=fun y hy e=>I.ok.has y.1 (.inl (S.free y hy e))
 refine wpAny_comprehension_free (use:=none) rfl hs (B6n hcells) S.kind S.names (wpAny_mono (hi pins s σ H _ I h) (fun xv s₁ h₁=>wpAny_mono h₁ (fun itv s₂ h₂=>?_) fun _ _ e=>e) fun _ _ e=>e)
 obtain⟨it,fp,tn,J,H2,rfl,I2,T,st2,f2,q2⟩:=h₂
 refine B6s (RR:=fun acc C=>compPost (model X.prog X.w) X.A X.xe none (EP X pins σ Q) acc C) S hc ht he I2 T st2 f2 q2 ?_
 intro D C ys H' s' m hn own I' hD q
 refine⟨m,hn,fun h' hs'=>⟨.ref D,_,I'.own_turn own hs',rfl,q D hD⟩⟩
theorem A6x {elt iter:Expr} {x y:Str} {px pos py spos:Pos} {ifs:List Expr} {scope:Scope} {N':List Str} {j i:Nat} {wi:TI} {tt:CA->TT} {te:CA->TE} {osc:Scope} {N:List Str}
  (nd:X.N.Nodup) (hi':X.N[i]?=some y) (hy:Loc X.env.scope y)
  (S:O1 N N' osc scope j x) (hc:X.calm=true) (hi:PI X (.Name x px) iter wi) (ht:∀a:CA,PTs (S6 X scope N' a) ifs (tt a)) (he:∀a:CA,PE (S6 X scope N' a) elt (te a))
  (hsw:swapsWith (.ListComp elt [⟨.Name x px,iter,ifs,0⟩] scope pos) (some (.Name y py)) spos.line X.env=pure true:=by rfl)
  (hf:X.fn y=true\/X.env.scope.names.lookup y=some .local:=by first | exact .inl rfl | exact .inr rfl | assumption)
  (ho:X.env.scope=osc:=by rfl) (hN:X.N=N:=by rfl) (hs:∀x,foldedSetIterable iter X.env x=pure x:=by intro _;rfl) :
  PS X (.Assign [.Name y py] (.ListComp elt [⟨.Name x px,iter,ifs,0⟩] scope pos) spos) (fun D σ H=>x9 wi N'.length j tt te σ H fun v H1=>D.nx (σ.set i (some v)) H1):=by
 subst ho hN
 intro pins s σ H D I h
 have hcells:∀y∈scope.names,y.2=.free->∃c,X.env.cells.lookup y.1=some c:=fun y hy e=>I.ok.has y.1 (.inl (S.free y hy e))
 rw[exec_Assign_Name_used _ _ _ _ hsw]
 refine wpAny_bind (wpAny_standAt (wpAny_bind ?_))
 show wpAny _ X.A (do let _ <-comprehension (.ListComp elt [⟨.Name x px,iter,ifs,0⟩] scope pos) scope X.env _ (newList []) false (eval iter X.env) (some (assign (.Name y py) X.env))) _ _ s
 refine wpAny_bind (wpAny_mono (wpAny_comprehension_free (use:=some (assign (.Name y py) X.env)) (Q:=fun _ s'=>SP X pins D .next s') rfl hs (B6n hcells) S.kind S.names
  (wpAny_mono (hi pins s σ H _ I h) (fun xv s₁ h₁=>wpAny_mono h₁ (fun itv s₂ h₂=>?_) fun _ _ e=>e) fun _ _ e=>e)) (fun _ s' hq=>wpAny_pure (wpAny_pure hq)) fun _ _ e=>e)
 obtain⟨it,fp,tn,J,H2,rfl,I2,T,st2,f2,q2⟩:=h₂
 refine B6s (RR:=fun acc C=>compPost (model X.prog X.w) X.A X.xe (some (assign (.Name y py) X.env)) (fun _ s'=>SP X pins D .next s') acc C) S hc ht he I2 T st2 f2 q2 ?_
 intro Da C ys H' s' m hn own I' hD q
 show wpAny _ X.A (assign (.Name y py) X.env (.ref Da)) _ _ _
 refine wpAny_assign_Name (B5m (v:=V.ref Da) I' nd hi' hy rfl (fun s2 I2' hsb=>?_) hf)
 obtain⟨b,hs2,hb⟩:=hsb
 have hCb:C≠b:=by
  rcases hb with rfl | hb
  ·exact own.ne
  ·exact fun z=>own.ce _ _ hb z.symm
 refine⟨m,hn.sameBut hs2 hCb,fun h' hs'=>⟨_,_,I2'.own_turn own hs',q Da hD⟩⟩
end
theorem B1j {K:A7} {a0:Addr} {xs:List V} {nn j:Nat} {σ:St} {tt:CA->TT} {te:CA->TE} {H1:Hp} {Q:List V->Hp->Prop} (Pv:Nat->List V->Hp->Prop) (hz:xs.length < sizeLine) (h0:Pv 0 [] H1)
  (hl:∀i ys H,i<=xs.length->Pv i ys H->ys.length<=i/\SqL K H a0 xs)
  (hs:∀i x ys H,xs[i]?=some x->Pv i ys H->∀a:CA,tt a ((Q9 nn j σ).set j (some x)) H fun b H2=>if b=true then te a ((Q9 nn j σ).set j (some x)) H2 fun y H3=>Pv (i + 1) (ys++[y]) H3 else Pv (i + 1) ys H2)
  (hd:∀ys H,Pv xs.length ys H->Q ys H):B1i σ nn j tt te (Itl K a0) H1 Q:=by
 refine⟨fun i m ys H=>m=xs.length - i/\i<=xs.length/\Pv i ys H,⟨xs.length,by simp,L4 _,h0⟩,?_⟩
 rintro i m ys H ⟨rfl,hi,p⟩
 obtain⟨hy,q⟩:=hl i ys H hi p
 refine⟨by lia,?_⟩
 by_cases hlt:i < xs.length
 ·refine .inr ⟨⟨xs,xs[i],q,by simp [hlt]⟩,Pv (i + 1),fun ys' H' p'=>⟨xs.length - (i + 1),by lia,rfl,hlt,p'⟩,fun x H' y=>?_⟩
  obtain⟨e,y⟩:=y
  subst e
  exact hs i x ys _ (y xs q) p
 ·have e:i=xs.length:=by lia
  subst e
  exact .inl ⟨⟨xs,q,D2 _⟩,hd ys H p⟩
section
variable {X:Cx}
def B1k (_ j:Int):Prop:=0 < j/\j < 100000000000000000000000000000000000000000000000000000000000000
theorem B1l:OpR X (binaryOp .FloorDiv) (rI B1k fun i j=>.int (i / j)):=opI fun i j _ _ _ _ _ hc q=>by
 have h1:(0:Int) < j:=hc.1
 have h2:j < 2 ^ 250:=Int.lt_trans hc.2 (by decide)
 refine floordiv_int (by lia) (by rw[Int.fdiv_eq_ediv_of_nonneg i (by lia)];exact q) (.inl (PyProof.noPylong_of_log2 ?_))
 have h3:j.natAbs < 2 ^ 250:=by
  have:((j.natAbs:Nat):Int) < ((2 ^ 250:Nat):Int):=by
   rw[Int.natAbs_of_nonneg (b8 h1)]
   exact h2
  exact Int.ofNat_lt.mp this
 have h4:j.natAbs≠0:=by lia
 exact Nat.lt_trans ((Nat.log2_lt h4).mpr h3) (by decide)
theorem B1m:∀{bs:List Bool} {us:List Value},C3 (bs.map V.bl) us->LSm.BoolsAre us bs
 | [],_,.nil=>.nil
 | b::bs,_,.cons r t=>by
  cases (show _=Value.bool b from r)
  exact .cons b (B1m t)
theorem A8z (hc:X.calm=true):W7 X (.builtin "all") (fun xs H Q=>∃(p:Addr) (bs:List Bool),xs=[.ref p]/\SqL X.K H p (bs.map V.bl)/\Q (.bl (bs.all id)) H):=by
 intro pins s σ H xs us Q I r h
 obtain⟨p,bs,rfl,hq,q⟩:=h
 obtain⟨u,rfl,rx⟩:=Y9 r
 cases rx
 obtain⟨its,rv,pl,hz⟩:=I.list hq
 have hb:=B1m rv
 have hl:=pl.isList
 have hlt:p < s.heap.objs.size:=by obtain⟨_,e,_⟩:=hl;exact G3 e
 refine call_all_walk (wpAny_pyIter_list hl ?_)
 refine⟨s.heap.objs.size,[s.heap.objs.size,p],[s.heap.objs.size],its.toArray.size,_,_,fun i=>(bs[i]?).getD true,rfl,Walks.list (A:=X.A.in1) (I.ok.hd hc) _ p (P4 hlt) its.toArray,
  ⟨⟨_,T2 _ rfl,rfl,rfl⟩,hl.push _⟩,fun i v s' Q' E' hP hQ=>?_,fun h' tk hk=>?_⟩
 ·obtain⟨b,e,rfl⟩:=hb.get i v (by simpa using hP)
  simp only[e,Option.getD_some] at hQ
  exact wpAny_truthy_bool hQ
 ·have e:((L0 its.toArray.size).all fun i=>(bs[i]?).getD true)=bs.all id:=by
   rw[M6,hb.length];exact LSm.range_all bs
  rw[e]
  exact⟨.bl _,H,I.kept (t':=tk) (LSm.kept_iter hk),rfl,q⟩
theorem B6t:W7 X (.builtin "isinstance") (fun xs H Q=>∃x cv c t b,xs=[x,cv]/\D8 cv c/\V7 X.K H x t/\b6 X.K t c=some b/\Q (.bl b) H):=by
 intro pins s σ H xs us Q I r h
 obtain⟨x,cv,c,t,b,rfl,rc,ty,k,q⟩:=h
 obtain⟨u,w',rfl,r1,r2⟩:=A8q r
 have e:w'=c:=by
  cases cv with
  | non=>exact r2.trans rc.symm
  | bl y=>exact r2.trans rc.symm
  | ref y=>exact r2.trans rc.symm
  | ty y=>exact r2.trans rc.symm
  | int y=>
   obtain⟨t1,rfl⟩:=rc
   exfalso
   unfold b6 A3h at k
   cases ty <;> simp at k
  | str y=>
   obtain⟨t1,rfl⟩:=rc
   exfalso
   unfold b6 A3h at k
   cases ty <;> simp at k
  | byt y=>
   obtain⟨t1,rfl⟩:=rc
   exfalso
   unfold b6 A3h at k
   cases ty <;> simp at k
  | flt y=>
   obtain⟨t1,rfl⟩:=rc
   exfalso
   unfold b6 A3h at k
   cases ty <;> simp at k
 subst e
 exact B55 I r1 ty k fun tk=>⟨.bl b,H,I.tok tk,rfl,q⟩
end
mutual
inductive X0 (K:A7) (H:Hp):V->PyData->Prop
 | non:X0 K H .non .none
 | bl (b):X0 K H (.bl b) (.bool b)
 | int (i):X0 K H (.int i) (.int i)
 | str (x):X0 K H (.str x) (.str x)
 | lst {a xs ds}:SqL K H a xs->c7 K H xs ds->X0 K H (.ref a) (.list ds)
 | tup {a xs ds}:SqT K H a xs->c7 K H xs ds->X0 K H (.ref a) (.tuple ds)
inductive c7 (K:A7) (H:Hp):List V->List PyData->Prop
 | nil:c7 K H [] []
 | cons {x xs d ds}:X0 K H x d->c7 K H xs ds->c7 K H (x::xs) (d::ds)
end
section
variable {X:Cx} {pins:List (Addr×Obj)} {σ:St} {H:Hp} {s:Shared}
mutual
theorem X0.reads (I:Inv X pins σ H s):∀{x:V} {d:PyData} {u:Value},X0 X.K H x d->D8 x u->∃as,Reads s.heap u d as
 | _,_,_,.non,r=>by cases r;exact⟨_,.none⟩
 | _,_,_,.bl b,r=>by cases r;exact⟨_,.bool b⟩
 | _,_,_,.int i,r=>by obtain⟨t,rfl⟩:=r;exact⟨_,.int i t⟩
 | _,_,_,.str x,r=>by obtain⟨t,rfl⟩:=r;exact⟨_,.str x t⟩
 | _,_,_,.lst hq hs,r=>by
  cases r
  obtain⟨its,rv,pl,hz⟩:=I.list hq
  obtain⟨as,ra⟩:=c7.reads I hs rv
  obtain⟨o,e,c,n,d⟩:=pl.isList
  exact⟨_,.list e c d (by simpa using ra)⟩
 | _,_,_,.tup hq hs,r=>by
  cases r
  obtain⟨its,rv,pl,hz⟩:=I.tuple hq
  obtain⟨as,ra⟩:=c7.reads I hs rv
  obtain⟨o,e,c,n,d⟩:=pl
  exact⟨_,.tuple e c d (by simpa using ra)⟩
theorem c7.reads (I:Inv X pins σ H s):∀{xs:List V} {ds:List PyData} {us:List Value},c7 X.K H xs ds->C3 xs us->∃as,ReadsAll s.heap us ds as
 | _,_,_,.nil,.nil=>⟨_,.nil⟩
 | _,_,_,.cons h t,.cons r rs=>by
  obtain⟨as,ra⟩:=X0.reads I h r
  obtain⟨bs,rb⟩:=c7.reads I t rs
  exact⟨_,.cons ra rb⟩
end
end
section
variable {X:Cx}
def B1n (K:A7) (neg:Bool):R2:=fun x y H Q=>∃da db,X0 K H x da/\X0 K H y db/\da.canLay0=true/\db.canLay0=true/\min da.depth db.depth<=64/\Q (.bl (if neg then !PyData.eqv da db else PyData.eqv da db)) H
theorem N3 (hu:X.A.units + 64 < cLine):OpR X (compareOp .Eq) (B1n X.K false):=by
 intro pins s σ H x y v u Q I rx ry h
 obtain⟨da,db,d1,d2,c1,c2,hd,q⟩:=h
 obtain⟨as,ra⟩:=d1.reads I rx
 obtain⟨bs,rb⟩:=d2.reads I ry
 exact SeqAt.compareEq_reads ra rb c1 c2 (by lia) ⟨.bl _,H,I,rfl,q⟩
theorem A1l (hu:X.A.units + 64 < cLine):OpR X (compareOp .NotEq) (B1n X.K true):=by
 intro pins s σ H x y v u Q I rx ry h
 obtain⟨da,db,d1,d2,c1,c2,hd,q⟩:=h
 obtain⟨as,ra⟩:=d1.reads I rx
 obtain⟨bs,rb⟩:=d2.reads I ry
 exact SeqAt.compareNe_reads ra rb c1 c2 (by lia) ⟨.bl _,H,I,rfl,q⟩
theorem B6u:B5s X (fun o i H Q=>∃p xs j v,o=.ref p/\i=.int j/\0<=j/\SqL X.K H p xs/\atI xs j=some v/\Q v H):=by
 intro pins s σ H o i ov iv Q I r1 r2 h
 obtain⟨p,xs,j,v,rfl,rfl,h0,hq,he,q⟩:=h
 cases r1
 obtain⟨t,rfl⟩:=r2
 obtain⟨its,r,pl,hz⟩:=I.list hq
 obtain⟨k,h1,h2,h3,h4,h5⟩:=A8u he
 obtain⟨w,ew,rw'⟩:=r.get h2
 have hl:=r.length
 have hn:=A3v
 have hj:j.toNat=k:=by
  rw[seqIndex_of h0 h5] at h1
  exact Option.some.inj h1
 exact wpAny_getItem_list pl.isList h0 (by lia) (by rw[hj];simpa using ew) ⟨v,H,I,rw',q⟩
theorem A0a {st:Stmt} {t:TS} (h:PS X st t):PS X st (fun D σ H=>∃M:St->Hp->Prop,t { D with nx:=M } σ H/\∀σ' H',M σ' H'->D.nx σ' H'):=by
 intro pins s σ H D I q
 obtain⟨M,q1,q2⟩:=q
 refine thn (h pins s σ H _ I q1) fun f s' z=>?_
 cases f with
 | next=>obtain⟨σ',H',I',m⟩:=z;exact⟨σ',H',I',q2 _ _ m⟩
 | brk=>exact z
 | cont=>exact z
 | ret v=>exact z
end
theorem j3:bootBuiltins "list" = some (.type "list"):=by decide +kernel
theorem C3y:bootBuiltins "abs" = some (.builtin "abs"):=by decide +kernel
theorem A1m:bootBuiltins "min" = some (.builtin "min"):=by decide +kernel
theorem B6v:bootBuiltins "max" = some (.builtin "max"):=by decide +kernel
theorem A1n:bootBuiltins "isinstance" = some (.builtin "isinstance"):=by decide +kernel
theorem A80:bootBuiltins "int" = some (.type "int"):=by decide +kernel
theorem B6w:bootBuiltins "bool" = some (.type "bool"):=by decide +kernel
theorem A81:bootBuiltins "all" = some (.builtin "all"):=by decide +kernel
theorem C3z:bootBuiltins "tuple" = some (.type "tuple"):=by decide +kernel
theorem C30:bootBuiltins "sorted" = some (.builtin "sorted"):=by decide +kernel
theorem S7:bootBuiltins "len" = some (.builtin "len"):=by decide +kernel
theorem C31:bootBuiltins "any" = some (.builtin "any"):=by decide +kernel
theorem C32:bootBuiltins "enumerate" = some (.type "enumerate"):=by decide +kernel
section
variable {es:List Expr} {env:Env}
theorem E5 {c j p}:starEach (.Constant c j p::es) env=(false,eval (.Constant c j p) env)::starEach es env:=by rfl
theorem A0 {c p}:starEach (.Name c p::es) env=(false,eval (.Name c p) env)::starEach es env:=by rfl
theorem F7 {a o b p}:starEach (.BinOp a o b p::es) env=(false,eval (.BinOp a o b p) env)::starEach es env:=by rfl
theorem B6x {o b p}:starEach (.UnaryOp o b p::es) env=(false,eval (.UnaryOp o b p) env)::starEach es env:=by rfl
theorem A82 {a o b p}:starEach (.Compare a o b p::es) env=(false,eval (.Compare a o b p) env)::starEach es env:=by rfl
theorem F4 {a o b p}:starEach (.Call a o b p::es) env=(false,eval (.Call a o b p) env)::starEach es env:=by rfl
theorem B4 {a o p}:starEach (.Subscript a o p::es) env=(false,eval (.Subscript a o p) env)::starEach es env:=by rfl
theorem B6y {a p}:starEach (.List a p::es) env=(false,eval (.List a p) env)::starEach es env:=by rfl
theorem A1o {a k p}:starEach (.Tuple a k p::es) env=(false,eval (.Tuple a k p) env)::starEach es env:=by rfl
theorem Z1 {a b c p}:starEach (.ListComp a b c p::es) env=(false,eval (.ListComp a b c p) env)::starEach es env:=by rfl
theorem A3 {pos:Pos}:(backTo pos (starEach [] env)).any (·.1)=false:=by rfl
theorem A4 {pos:Pos} {e:Expr} (hs:starEach (e::es) env=(false,eval e env)::starEach es env) (h:(backTo pos (starEach es env)).any (·.1)=false):(backTo pos (starEach (e::es) env)).any (·.1)=false:=by
 rw[hs]
 exact h
end
section
variable {X:Cx} {pos:Pos}
end
section
variable {X:Cx}
end
section
variable {X:Cx} {pins:List (Addr×Obj)} {σ:St} {H:Hp} {s:Shared} {h':Heap}
theorem Inv.turned2 {t':Nat} {e it:Addr} (I:Inv X pins σ H s) (k:∀b o,b≠e->b≠it->s.heap.get? b=some o->h'.get? b=some o) (fe:Y8 X pins H e) (fi:Y8 X pins H it):Inv X pins σ H { s with heap:=h',toks:=t' }:=by
 obtain⟨e0,e1,e2,e3,e4,e5⟩:=fe
 obtain⟨f0,f1,f2,f3,f4,f5⟩:=fi
 have nit:∀b u,H b=some u->b≠it:=fun b u e z=>by rw[z,f0] at e;cases e
 have nie:∀b u,H b=some u->b≠e:=fun b u q z=>by rw[z,e0] at q;cases q
 have kc:∀b o,b∉[e,it]->s.heap.get? b=some o->h'.get? b=some o:=fun b o hc q=>k b o (fun z=>hc (by simp [z])) (fun z=>hc (by simp [z])) q
 refine I.step (g':=s.gens) (d':=s.drawn) (ch:=[e,it]) (fun b hb=>?_) (fun b o _ _ hc e _=>kc b o hc e) (fun b o _ _ hc e _=>⟨o.slots,kc b o hc e⟩) (fun _ _ _ _ n=>n)
  (fun b o hc e=>⟨o,kc b o hc e⟩) (fun _ _ e=>e) (fun _ _ _ e=>e) (fun b ps e=>⟨#[],by rw[e];simp⟩) (fun m hm=>?_) (fun b u q=>?_) I.bare
 ·rcases N2.mp hb with z | z
  ·subst z;exact⟨e3,e1,e4,e5⟩
  ·have z':b=it:=by simpa using z
   subst z'
   exact⟨f3,f1,f4,f5⟩
 ·obtain⟨o,es,ep,ho,r⟩:=hm
  exact⟨o,es,ep,k _ o (Ne.symm e1) (Ne.symm f1) ho,r⟩
 ·refine (I.hok b u q).stay (fun c v hc z=>k c v ?_ ?_ z) (fun _ z=>z) fun _ _ z=>z
  ·rcases hc with z | z
   ·rw[z];exact nie b u q
   ·exact nie c _ z
  ·rcases hc with z | z
   ·rw[z];exact nit b u q
   ·exact nit c _ z
end
def Ite (K:A7) (a:Addr):It:=
 ⟨fun i H=>∃xs x,SqL K H a xs/\xs[i]?=some x,fun i H x H'=>∃p v,x=.ref p/\H p=none/\H'=upd H p (.tup [.int ((i:Nat):Int),v])/\∀xs,SqL K H a xs->xs[i]?=some v,fun i H=>∃xs,SqL K H a xs/\xs.length<=i⟩
theorem C33 {P:Program} {w:World} {K:A7} {elts:List Expr} {x1} {tpos:Pos} (a e it:Addr) (hne:e≠it):A1f P w K (.Tuple elts x1 tpos) (Ite K a) [e,it] e (fun i h=>(∃old,IsEnum h e it ((i:Nat):Int) old)/\h.IsListIter it a i) where
 mem:=by simp
 obj:=fun i h st b hb=>by
  obtain⟨⟨old,h1⟩,h2⟩:=st
  rcases N2.mp hb with z | z
  ·subst z
   exact⟨_,h1,fun v z=>by
    have z':Data.fields _=Data.cell v:=z
    cases z'⟩
  ·have z':b=it:=by simpa using z
   subst z'
   obtain⟨o,e,c,d⟩:=h2
   exact⟨o,e,fun v z=>by rw[d] at z;cases z⟩
 keep:=fun i h h' st k=>by
  obtain⟨⟨old,h1⟩,h2⟩:=st
  exact⟨⟨old,k e (by simp) _ h1⟩,h2.at fun o q=>k it (by simp) o q⟩
 item:=by
  intro X hP hw hK hc i pins s σ H E I hf st hg
  subst hP hw hK
  obtain⟨⟨old,st1⟩,st2⟩:=st
  obtain⟨xs,x,hq,hx⟩:=hg
  obtain⟨its,rv,p,hz⟩:=I.list hq
  obtain⟨u,hu,ru⟩:=rv.get hx
  have fe:=hf e (by simp)
  have fi:=hf it (by simp)
  have le:e < s.heap.objs.size:=G3 st1
  have li:it < s.heap.objs.size:=by obtain⟨_,q,_⟩:=id st2;exact G3 q
  refine wpAny_pyNext_enum_item st1 st2 p.isList (x:=u) (by simpa using hu) hne fun h' ho hit' hT hsz hk=>?_
  refine⟨_,rfl,wpAny_letOwnedTupleGo_enum ho fun h2 he2 hs2=>?_⟩
  replace hs2:Heap.SameBut e h' h2:=hs2
  have hn:H s.heap.objs.size=none:=I.hok.fresh (D2 _)
  have I1:Inv X pins σ (upd H s.heap.objs.size (.tup [.int ((i:Nat):Int),x])) { s with heap:=s.heap.push { cls:=.type "tuple",data:=.seq #[.int i s.toks,u] },toks:=s.toks }:=
   I.laid (fun b o q=>U3 _ q) (D2 _) ⟨by show 2<=sizeLine;decide,[.int i s.toks,u],.cons ⟨_,rfl⟩ (.cons ru .nil),⟨_,T2 _ rfl,rfl,_,rfl⟩⟩
  have ge:∀b,b < s.heap.objs.size->Y8 X pins H b->Y8 X pins (upd H s.heap.objs.size (.tup [.int ((i:Nat):Int),x])) b:=fun b hb f=>⟨by rw[B6 (P4 hb)];exact f.1,f.2⟩
  have I2:=I1.turned2 (h':=h2) (t':=s.toks + 1) (e:=e) (it:=it) (fun b o n1 n2 q=>by
   rw[hs2.2 b n1]
   rcases Heap.get?_push_cases q with ⟨z,z2⟩ | q
   ·subst z z2
    exact hT
   ·exact hk b o n1 n2 q) (ge e le fe) (ge it li fi)
  refine⟨.ref s.heap.objs.size,_,I2,rfl,⟨_,x,rfl,hn,rfl,fun ys hy=>by rw[I.list_inj hy hq];exact hx⟩,⟨⟨u,he2⟩,hit'.at fun o q=>(hs2.2 it hne.symm).trans q⟩,fun b hb=>?_⟩
  rcases N2.mp hb with z | z
  ·subst z;exact (ge b le fe).1
  ·have z':b=it:=by simpa using z
   subst z'
   exact (ge b li fi).1
 done:=by
  intro X hP hw hK hc i pins s σ H E I hf st hg
  subst hP hw hK
  obtain⟨⟨old,st1⟩,st2⟩:=st
  obtain⟨xs,hq,hx⟩:=hg
  obtain⟨its,rv,p,hz⟩:=I.list hq
  have hl:=rv.length
  exact wpAny_pyNext_enum_end (I.ok.hd hc) st1 st2 p.isList (by simp;lia) fun h' eb=>⟨rfl,I.turned2 (t':=s.toks) (fun b o n1 n2 q=>eb b o n2 q) (hf e (by simp)) (hf it (by simp))⟩
 self:=fun _ _ _ _ _ st h=>by
  obtain⟨⟨old,st1⟩,_⟩:=st
  exact wpAny_pyIter_enum st1 h
section
variable {X:Cx}
def B6z (K:A7) (ta:TA):TI:=fun σ H R=>ta σ H fun vs H1=>∃a,vs=[.ref a]/\(∃xs,SqL K H1 a xs)/\R (Ite K a) H1
theorem B1o {elts:List Expr} {x1} {tpos:Pos} {a:Expr} {ta:TA} {p pos:Pos} (hg:Gl X "enumerate") (hm:X.mg "enumerate" = none) (ha:PA X [a] ta) (hs:starEach [a] X.env=[(false,eval a X.env)]:=by rfl):PI X (.Tuple elts x1 tpos) (.Call (.Name "enumerate" p) [a] [] pos) (B6z X.K ta):=by
 intro pins s σ H R I h
 refine Call_ (w5 I hg hm C32 (PyProof.Rows.callWith_type1 (thn (ha pos pins s σ H _ I h) fun us s1 zz244=>el5 zz244 fun vs H1 I1 r1 q1=>?_) hs rfl))
 obtain⟨a',e,⟨xs,hq⟩,q⟩:=q1
 subst e
 obtain⟨u,rfl,rx⟩:=Y9 r1
 cases rx
 obtain⟨its,rv,pl,hz⟩:=I1.list hq
 refine call_enumerate_list pl.isList fun h' he hit hsz hk=>?_
 refine wpAny_pyIter_enum (s:={ s1 with heap:=h' }) he ?_
 have I2:Inv X pins σ H1 { s1 with heap:=h' }:=I1.kept (t':=s1.toks) hk
 refine⟨_,[s1.heap.objs.size + 1,s1.heap.objs.size],_,_,H1,rfl,I2,C33 a' _ _ (B0h (Nat.lt_succ_self _)),⟨⟨.none,he⟩,hit⟩,fun b hb=>?_,q⟩
 rcases N2.mp hb with z | z
 ·subst z;exact I1.fpOk (A3g _) (I1.hok.fresh (A3g _))
 ·have z':b=s1.heap.objs.size:=by simpa using z
  subst z'
  exact I1.fpOk (D2 _) (I1.hok.fresh (D2 _))
theorem C34 {st:Stmt}:PS X st (fun _ _ _=>False):=fun _ _ _ _ _ _ h=>h.elim
end
section
variable {X:Cx} {pins:List (Addr×Obj)} {σ:St} {H:Hp} {s:Shared}
end
section
variable {X:Cx}
theorem C35 (hc:X.calm=true):W7 X (.builtin "any") (fun xs H Q=>∃(p:Addr) (bs:List Bool),xs=[.ref p]/\SqL X.K H p (bs.map V.bl)/\Q (.bl (bs.any id)) H):=by
 intro pins s σ H xs us Q I r h
 obtain⟨p,bs,rfl,hq,q⟩:=h
 obtain⟨u,rfl,rx⟩:=Y9 r
 cases rx
 obtain⟨its,rv,pl,hz⟩:=I.list hq
 have hb:=B1m rv
 have hl:=pl.isList
 have hlt:p < s.heap.objs.size:=by obtain⟨_,e,_⟩:=hl;exact G3 e
 refine call_any_walk (wpAny_pyIter_list hl ?_)
 refine⟨s.heap.objs.size,[s.heap.objs.size,p],[s.heap.objs.size],its.toArray.size,_,_,fun i=>(bs[i]?).getD false,rfl,Walks.list (A:=X.A.in1) (I.ok.hd hc) _ p (P4 hlt) its.toArray,
  ⟨⟨_,T2 _ rfl,rfl,rfl⟩,hl.push _⟩,fun i v s' Q' E' hP hQ=>?_,fun h' tk hk=>?_⟩
 ·obtain⟨b,e,rfl⟩:=hb.get i v (by simpa using hP)
  simp only[e,Option.getD_some] at hQ
  exact wpAny_truthy_bool hQ
 ·have e:((L0 its.toArray.size).any fun i=>(bs[i]?).getD false)=bs.any id:=by
   rw[M6,hb.length,B0i,List.any_eq_true,List.any_eq_true]
   constructor
   ·rintro ⟨i,hi,hv⟩
    rw[N9] at hi
    rw[J6 hi] at hv
    exact⟨bs[i],List.getElem_mem hi,hv⟩
   ·rintro ⟨b,hb1,hb2⟩
    obtain⟨i,hi,rfl⟩:=A6e.mp hb1
    exact⟨i,N9.mpr hi,by rw[J6 hi];exact hb2⟩
  rw[e]
  exact⟨.bl _,H,I.kept (t':=tk) (LSm.kept_iter hk),rfl,q⟩
def B60 (K:A7):V->List V->Hp->VK->Prop:=fun x vs H Q=>∃(l:Addr) (ns:List Int) (k:Int),x=.ref l/\vs=[.int k]/\SqL K H l (ns.map V.int)/\k∈ns/\ns.length<=100000/\Q (.int (ns.idxOf k:Nat)) H
theorem B61:MtM X "list.index" (B60 X.K):=by
 intro pins s σ H x vs v us Q I rx rv h
 obtain⟨l,ns,k,rfl,rfl,hq,hk,hn,q⟩:=h
 cases rx
 obtain⟨u,rfl,t,rfl⟩:=Y9 rv
 obtain⟨its,r,pl,hz⟩:=I.list hq
 have hi:=B6b r
 obtain⟨⟨cls,dd,data,sl⟩,ho,hc,n,hd⟩:=pl.isList
 simp only at hc hd
 subst hc hd
 have hlen:=hi.length
 have hj:ns.idxOf k < ns.length:=B0l.mpr hk
 refine call_meets C1h ⟨_,ho,rfl⟩ PySem.F.entry_list_index (PySem.F.args_list_index_2 _ _)
  (SeqAt.list_indexAt l its.toArray n dd sl (.int k t) (isInt k) (ns.idxOf k) (by simpa [hlen] using hj) (by lia) ?_ ?_) ⟨ho,fun y hy=>(eq_isInt k t hi y (by simpa using hy)).at _ _,⟨.int _,H,I.tok _,⟨_,rfl⟩,q⟩⟩
 ·show isInt k its[ns.idxOf k]=true
  rw[isInt_at k hi _ (by lia) hj]
  simpa using C1i hj
 ·intro j hjs hlt
  show isInt k its[j]=false
  rw[isInt_at k hi j (by simpa using hjs) (by lia)]
  exact ne_of_lt_idxOf hlt _
end
inductive A6y (K:A7) (H:Hp):V->Value->Prop where
 | o {x:V} {t:Value}:V7 K H x t->A6y K H x t
 | f {a:Addr} {o:Obj} {kvs:List (List Key×V)}:H a=some (.frz o (.dT kvs))->A6y K H (.ref a) (.type "dict")
section
variable {X:Cx}
theorem A6z:W7 X (.builtin "isinstance") (fun xs H Q=>∃x cv c t b,xs=[x,cv]/\D8 cv c/\A6y X.K H x t/\b6 X.K t c=some b/\Q (.bl b) H):=by
 intro pins s σ H xs us Q I r h
 obtain⟨x,cv,c,t,b,rfl,rc,ty,k,q⟩:=h
 obtain⟨u,w',rfl,r1,r2⟩:=A8q r
 have e:w'=c:=by
  cases cv with
  | non=>exact r2.trans rc.symm
  | bl y=>exact r2.trans rc.symm
  | ref y=>exact r2.trans rc.symm
  | ty y=>exact r2.trans rc.symm
  | int y=>
   obtain⟨t1,rfl⟩:=rc
   exfalso
   unfold b6 A3h at k
   cases ty with
   | o ty=>cases ty <;> simp at k
   | f e=>simp at k
  | str y=>
   obtain⟨t1,rfl⟩:=rc
   exfalso
   unfold b6 A3h at k
   cases ty with
   | o ty=>cases ty <;> simp at k
   | f e=>simp at k
  | byt y=>
   obtain⟨t1,rfl⟩:=rc
   exfalso
   unfold b6 A3h at k
   cases ty with
   | o ty=>cases ty <;> simp at k
   | f e=>simp at k
  | flt y=>
   obtain⟨t1,rfl⟩:=rc
   exfalso
   unfold b6 A3h at k
   cases ty with
   | o ty=>cases ty <;> simp at k
   | f e=>simp at k
 subst e
 cases ty with
 | o ty=>exact B55 I r1 ty k fun tk=>⟨.bl b,H,I.tok tk,rfl,q⟩
 | @f a o kvs ea=>
  cases (show u=Value.ref a from r1)
  obtain⟨_,_,_,xs,_,o',es,ep,h1,h2,_⟩:=(show J1 X.prog X.w H s.heap a (.frz o (.dT kvs)) from I.hok a _ ea)
  exact f9 PySem.W.kitx_dict I.kIn ⟨o',h1,h2.1⟩ k (fun z=>nomatch z) fun tk=>⟨.bl b,H,I.tok tk,rfl,q⟩
theorem C3.rev:∀{xs:List V} {us:List Value},C3 xs us->C3 xs.reverse us.reverse
 | _,_,.nil=>.nil
 | _::xs,_::us,.cons r t=>by
  rw[B5a,B5a]
  exact (C3.rev t).append (.cons r .nil)
end
theorem C36:typeLookup (.type "list_reverseiterator") "__len__" = pure none:=by
 rw[typeLookup_type,builtinLookup_eq_fast];kernel_rfl
theorem C37:typeLookup (.type "list_reverseiterator") "__length_hint__" = pure (some (.builtin "list_reverseiterator.__length_hint__")):=by
 rw[typeLookup_type,builtinLookup_eq_fast];kernel_rfl
section
variable {prog:Program} {w:World} {A:Around} {E:Value->Shared->Prop} {s:Shared}
theorem C38 {r l:Addr} {i:Int} {Q:Bool->Shared->Prop} (hr:s.heap.IsRevIter r l i) (h:∀tk,Q false { s with toks:=tk }):wpAny (model prog w) A (Builtin.List.listLengthHint (.ref r)) Q E s:=by
 have hT:=hr.typeIs
 unfold Builtin.List.listLengthHint
 refine wpAny_bind (wpAny_specialOf hT C36 ?_)
 show wpAny _ A (specialOf (Value.ref r) (Str.ofString "__length_hint__") >>= _) _ _ _
 refine wpAny_bind (wpAny_specialOf hT C37 ?_)
 generalize hid:("list_reverseiterator.__length_hint__" : String)=id0
 wp_delta
 rw[show splitId id0=some ("list_reverseiterator", "__length_hint__") from by subst hid;decide +kernel]
 subst hid
 refine wpAny_bind (wpAny_isInstance (b:=true) hT (by rw[isSubtype_type];kernel_rfl) ?_)
 exact wpAny_pure (h s.toks)
theorem C39 {r l:Addr} {items:Array Value} {Q:Value->Shared->Prop} (hh:A.handled=none) (hr:s.heap.IsRevIter r l ((items.size:Int) - 1)) (hl:s.heap.IsList l items) (hne:l≠r) (hz:items.size<=sizeLine)
  (hQ:∀(h':Heap) (tk:Nat) (acc:Array Value) (c:Nat),(∀b o,b≠r->s.heap.get? b=some o->h'.get? b=some o)->h'.get? s.heap.objs.size=some { cls:=.type "list",dict:=none,data:=.seq acc c,slots:=#[] }->
   ItemsOf (fun i v=>items[items.size - 1 - i]?=some v) acc items.size->Q (.ref s.heap.objs.size) { s with heap:=h',toks:=tk }):wpAny (model prog w) A (call (.type "list") [.ref r]) Q E s:=by
 have rlt:r < s.heap.objs.size:=by obtain⟨_,q,_⟩:=hr;exact G3 q
 have llt:l < s.heap.objs.size:=by obtain⟨_,q,_⟩:=hl;exact G3 q
 refine callType_codes (Q₁:=fun obj t=>obj=.ref s.heap.objs.size/\t={ s with heap:=s.heap.push { cls:=.type "list",data:=.seq #[] } }) F.called_list (F.typeCall_list_1 _) F.entry_list_init (code_list_new _ ⟨rfl,rfl⟩) fun obj t ht=>?_
 obtain⟨rfl,rfl⟩:=ht
 have hS:(s.heap.push { cls:=.type "list",data:=.seq #[] }).get? s.heap.objs.size=some { cls:=.type "list",data:=.seq #[] }:=T2 _ rfl
 refine⟨⟨_,hS,rfl⟩,F.args_list_init_2 _ _,?_⟩
 generalize hh2:s.heap.push { cls:=.type "list",data:=.seq #[] }=h2 at hS
 have old:∀b o,s.heap.get? b=some o->h2.get? b=some o:=fun b o e=>hh2▸U3 _ e
 have hSr:s.heap.objs.size≠r:=B0h rlt
 have hSl:s.heap.objs.size≠l:=B0h llt
 show wpAny _ _ (do let was <-Builtin.List.listItems (.ref s.heap.objs.size);Builtin.List.listUpdate (.ref s.heap.objs.size) (fun _=>#[]);letGo was.toList.reverse;Builtin.List.listExtendWith (.ref s.heap.objs.size) (.ref r) .none) _ _ _
 refine wpAny_bind ?_
 unfold Builtin.List.listItems
 refine wpAny_bind (wpAny_seqItems hS rfl (wpAny_pure ?_))
 show wpAny _ _ (updateSeq s.heap.objs.size (fun _=>#[]) >>= fun _=>letGo (#[]:Array Value).toList.reverse >>= fun _=>Builtin.List.listExtendWith (.ref s.heap.objs.size) (.ref r) .none) _ _ _
 refine wpAny_bind (wpAny_updateSeq hS rfl ?_)
 have hS3:=C1f (Y0 (fun _=>(#[]:Array Value))) hS rfl
 refine wpAny_bind (wpAny_letGo ?_)
 have oth:∀b o,b≠s.heap.objs.size->h2.get? b=some o->(h2.update s.heap.objs.size (Y0 (fun _=>(#[]:Array Value)))).get? b=some o:=fun b o n e=>(C1g _ _ (Ne.symm n)).trans e
 generalize h2.update s.heap.objs.size (Y0 (fun _=>(#[]:Array Value)))=h3 at hS3 oth
 have old3:∀b o,s.heap.get? b=some o->h3.get? b=some o:=fun b o e=>oth b o (P4 (G3 e)) (old b o e)
 have hr3:h3.IsRevIter r l ((items.size:Int) - 1):=hr.at fun o e=>old3 r o e
 have hl3:h3.IsList l items:=hl.at fun o e=>old3 l o e
 have W:=(Walks.listRev (prog:=prog) (w:=w) (A:=A.in1.in1) hh r l hne items).toS
 unfold Builtin.List.listExtendWith
 refine wpAny_bind (wpAny_typeOf (T:= "list_reverseiterator") (s:={ s with heap:=h3 }) hr3.typeIs ?_)
 have z1:Builtin.List.listSameRef (.ref s.heap.objs.size) (.ref r)=false:=by simp [Builtin.List.listSameRef,hSr]
 rw[if_neg (by rw[z1];decide)]
 refine wpAny_bind (wpAny_pyIter_revIter (s:={ s with heap:=h3 }) hr3 ?_)
 refine wpAny_bind (wpAny_holding (C38 (s:={ s with heap:=h3 }) hr3 fun tk=>?_))
 rw[if_neg (by decide)]
 have nf:s.heap.objs.size∉[r,l]:=fun q=>by
  rcases N2.mp q with e | e
  ·exact hSr e
  ·exact hSl (by simpa using e)
 have st0:0<=items.size/\h3.IsRevIter r l ((items.size:Int) - 1 - ((0:Nat):Int))/\h3.IsList l items:=⟨L4 _,by simpa using hr3,hl3⟩
 refine wpAny_pure ⟨plainId_quiet F.plain_extend_loop _,codeAny_extend_loopS W hz _ nf _ items.size 0 _ _ _ rfl (L4 _) st0 hS3 (ItemsOf.nil _) fun s' acc c hm hS' hacc=>?_⟩
 rw[Moved.eq_with hm]
 refine⟨rfl,hQ s'.heap s'.toks acc c (fun b o n e=>hm.heap b o (fun q=>?_) (old3 b o e)) hS' hacc⟩
 rcases N2.mp q with z | z
 ·exact P4 (G3 e) z
 ·exact n (by simpa using z)
end
theorem B62:bootBuiltins "reversed" = some (.type "reversed"):=by decide +kernel
theorem C4a {items:Array Value} {acc:Array Value} (h:ItemsOf (fun i v=>items[items.size - 1 - i]?=some v) acc items.size):acc.toList=items.toList.reverse:=by
 have hl:acc.size=items.size:=h.1
 apply A71
 intro i
 by_cases c:i < items.size
 ·have ha:i < acc.size:=by lia
  have e:=h.2 i acc[i] (C1j ha)
  rw[List.getElem?_reverse (by rw[P5];exact c),P5,Y1,Y1,C1j ha]
  exact e.symm
 ·rw[Y2 (by rw[P5];lia),Y2 (by rw[A6f,P5];lia)]
section
variable {X:Cx}
theorem C4b {e:Expr} {te:TA} {p1 p2 p3 p4:Pos} (hg1:Gl X "list") (hm1:X.mg "list" = none) (hg2:Gl X "reversed") (hm2:X.mg "reversed" = none) (hc:X.calm=true) (he:PA X [e] te) (hs:starEach [e] X.env=[(false,eval e X.env)]:=by rfl)
  (hs2:starEach [.Call (.Name "reversed" p2) [e] [] p3] X.env=[(false,eval (.Call (.Name "reversed" p2) [e] [] p3) X.env)]:=by rfl):PE X (.Call (.Name "list" p1) [.Call (.Name "reversed" p2) [e] [] p3] [] p4)
   (fun σ H Q=>te σ H fun vs H1=>∃a xs,vs=[.ref a]/\SqL X.K H1 a xs/\∀p,H1 p=none->Q (.ref p) (upd H1 p (.lst xs.reverse))):=by
 intro pins s σ H Q I h
 refine Call_ (w5 I hg1 hm1 j3 (PyProof.Rows.callWith_type1 ?_ hs2 rfl))
 rw[hs2]
 show wpAny _ _ (spliced [(false,eval (.Call (.Name "reversed" p2) [e] [] p3) X.env)]) _ _ s
 refine Calls.spliced_cons ?_
 refine Call_ (w5 I hg2 hm2 B62 (PyProof.Rows.callWith_type1 (thn (he p3 pins s σ H _ I h) fun us s1 zz271=>el5 zz271 fun vs H1 I1 r1 q1=>?_) hs rfl))
 obtain⟨a,xs,rfl,hq,q⟩:=q1
 obtain⟨u,rfl,rx⟩:=Y9 r1
 cases rx
 obtain⟨its,rv,pl,hz⟩:=I1.list hq
 have alt:a < s1.heap.objs.size:=by obtain⟨_,z,_⟩:=pl.isList;exact G3 z
 refine call_reversed_list pl.isList (Calls.spliced_nil ?_)
 have hr:(s1.heap.push (revObj a ((its.toArray.size:Int) - 1))).IsRevIter s1.heap.objs.size a ((its.toArray.size:Int) - 1):=⟨_,T2 _ rfl,rfl,rfl⟩
 have hl2:(s1.heap.push (revObj a ((its.toArray.size:Int) - 1))).IsList a its.toArray:=pl.isList.push _
 have hsz:(s1.heap.push (revObj a ((its.toArray.size:Int) - 1))).objs.size=s1.heap.objs.size + 1:=Heap.size_push ..
 refine C39 (s:={ s1 with heap:=s1.heap.push (revObj a ((its.toArray.size:Int) - 1)) }) (I1.ok.hd hc) hr hl2 (P4 alt) (by rw[M6,<-rv.length];exact hz) fun h' tk acc c hk hS hacc=>?_
 have eq:=C4a hacc
 refine⟨.ref _,_,I1.laid (t':=tk) (o:=.lst xs.reverse) (fun b o z=>hk b o (P4 (G3 z)) (U3 _ z)) (by show s1.heap.objs.size<=_;rw[hsz];exact A3g _) (show J1 X.prog X.w _ h' _ (.lst xs.reverse) from ⟨by rw[A6f];exact hz,acc.toList,c,?_,by simpa using hS⟩),rfl,q _ (I1.hok.fresh (by show s1.heap.objs.size<=_;rw[hsz];exact A3g _))⟩
 rw[eq]
 exact C3.rev rv
def Itv (K:A7) (a:Addr) (n:Nat):It:=
 ⟨fun i H=>∃xs x,SqL K H a xs/\xs.length=n/\xs.reverse[i]?=some x,fun i H x H'=>H'=H/\∀xs,SqL K H a xs->xs.reverse[i]?=some x,fun i _=>n<=i⟩
theorem C4c {P:Program} {w:World} {K:A7} {tg:Expr} (a it:Addr) (n:Nat):A1f P w K tg (Itv K a n) [it] it (fun i h=>i<=n/\h.IsRevIter it a ((n:Int) - 1 - ((i:Nat):Int))) where
 mem:=by simp
 obj:=fun i h st b hb=>by
  have e:b=it:=by simpa using hb
  subst e
  obtain⟨_,o,e,c,d⟩:=st
  exact⟨o,e,fun v z=>by rw[d] at z;cases z⟩
 keep:=fun i h h' st k=>⟨st.1,st.2.at fun o e=>k it (by simp) o e⟩
 item:=by
  intro X hP hw hK hc i pins s σ H E I hf st hg
  subst hP hw hK
  obtain⟨xs,x,hq,hn,hx⟩:=hg
  obtain⟨its,rv,p,hz⟩:=I.list hq
  have hil:i < n:=by
   have:=(A05.mp hx).1
   rw[A6f,hn] at this
   exact this
  have hx':xs[n - 1 - i]?=some x:=by rw[List.getElem?_reverse (by lia),hn] at hx;exact hx
  obtain⟨u,hu,ru⟩:=rv.get hx'
  obtain⟨f0,f1,f2,f3,f4,f5⟩:=hf it (by simp)
  have ei:(n:Int) - 1 - ((i:Nat):Int)=((n - 1 - i:Nat):Int):=by lia
  refine wpAny_pyNext_rev_item (i:=n - 1 - i) (by rw[<-ei];exact st.2) p.isList (x:=u) (by simpa using hu) fun h' st' sb=>?_
  have I1:Inv X pins σ H { s with heap:=h' }:=I.turned (t':=s.toks) (fun b o hb e=>(sb.2 b hb).trans e) f0 f1 f3 f4 f5
  obtain⟨o,e,c,d⟩:=id st'
  have ej:((n - 1 - i:Nat):Int) - 1=(n:Int) - 1 - ((i + 1:Nat):Int):=by lia
  exact⟨u,rfl,A8i (s:={ s with heap:=h' }) e c d (by decide) ⟨x,H,I1,ru,⟨rfl,fun ys hy=>by rw[I.list_inj hy hq];exact hx⟩,⟨hil,by rw[<-ej];exact st'⟩,fun b hb=>(hf b hb).1⟩⟩
 done:=by
  intro X hP hw hK hc i pins s σ H E I hf st hg
  subst hP hw hK
  obtain⟨f0,f1,f2,f3,f4,f5⟩:=hf it (by simp)
  have e:i=n:=Nat.le_antisymm st.1 hg
  have em:(n:Int) - 1 - ((i:Nat):Int)=-1:=by lia
  exact wpAny_pyNext_rev_end (I.ok.hd hc) (by rw[<-em];exact st.2) fun h' eb=>⟨rfl,I.turned (t':=s.toks) (fun b o hb e=>eb b o hb e) f0 f1 f3 f4 f5⟩
 self:=fun _ _ _ _ _ st h=>wpAny_pyIter_revIter st.2 h
def B63 (K:A7) (ta:TA):TI:=fun σ H R=>ta σ H fun vs H1=>∃a xs,vs=[.ref a]/\SqL K H1 a xs/\R (Itv K a xs.length) H1
theorem C4d {tg a:Expr} {ta:TA} {p pos:Pos} (hg:Gl X "reversed") (hm:X.mg "reversed" = none) (ha:PA X [a] ta) (hs:starEach [a] X.env=[(false,eval a X.env)]:=by rfl):PI X tg (.Call (.Name "reversed" p) [a] [] pos) (B63 X.K ta):=by
 intro pins s σ H R I h
 refine Call_ (w5 I hg hm B62 (PyProof.Rows.callWith_type1 (thn (ha pos pins s σ H _ I h) fun us s1 zz272=>el5 zz272 fun vs H1 I1 r1 q1=>?_) hs rfl))
 obtain⟨a',xs,rfl,hq,q⟩:=q1
 obtain⟨u,rfl,rx⟩:=Y9 r1
 cases rx
 obtain⟨its,rv,pl,hz⟩:=I1.list hq
 have en:((its.toArray.size:Nat):Int) - 1=((xs.length:Nat):Int) - 1:=by rw[M6,<-rv.length]
 refine call_reversed_list pl.isList ?_
 rw[en]
 have hr:(s1.heap.push (revObj a' ((xs.length:Int) - 1))).IsRevIter s1.heap.objs.size a' ((xs.length:Int) - 1):=⟨_,T2 _ rfl,rfl,rfl⟩
 refine wpAny_pyIter_revIter (s:={ s1 with heap:=s1.heap.push (revObj a' ((xs.length:Int) - 1)) }) hr ?_
 refine⟨_,[s1.heap.objs.size],_,_,H1,rfl,I1.kept (t':=s1.toks) fun b o e=>U3 _ e,C4c a' _ xs.length,⟨L4 _,by simpa using hr⟩,fun b hb=>?_,q⟩
 have e:b=s1.heap.objs.size:=by simpa using hb
 subst e
 exact I1.fpOk (D2 _) (I1.hok.fresh (D2 _))
end
section
variable {X:Cx} {pins:List (Addr×Obj)} {σ:St} {H:Hp} {s:Shared}
end
section
variable {prog:Program} {w:World} {A:Around} {E:Value->Shared->Prop} {s:Shared}
end
section
variable {prog:Program} {w:World} {A:Around} {R:Result->Shared->Prop} {I:Addr} {fp wr:List Addr} {n:Nat} {P:Nat->Value->Prop} {St:Nat->Heap->Prop}
end
section
variable {X:Cx}
end
section
variable {X:Cx} {pins:List (Addr×Obj)} {σ:St} {H:Hp} {s:Shared} {h':Heap}
end
section
variable {X:Cx}
end
section
variable {X:Cx} {tg:Expr}
end
section
variable {prog:Program} {w:World} {A:Around} {R:Result->Shared->Prop} {I:Addr} {fp wr:List Addr} {n:Nat} {P:Nat->Value->Prop} {St:Nat->Heap->Prop}
end
section
variable {X:Cx}
end
section
variable {prog:Program} {w:World} {A:Around} {R:Result->Shared->Prop} {I:Addr} {fp wr:List Addr} {n:Nat} {P:Nat->Value->Prop} {St:Nat->Heap->Prop}
end
section
variable {X:Cx}
end
end L2
namespace My
open PySem L2
def Hd (H:Hp) (a l:Addr):Prop:=∃(ns:List Int) (p b c u v:Int),H l=some (.lst (ns.map V.int))/\0<=p/\H a=some (.lst [.ref l,.int p,.int b,.int c,.int u,.int v])
def Kp (a:Addr) (H H':Hp):Prop:=∀b o,H b=some o->b≠a->H' b=some o
theorem Kp.refl (a:Addr) (H:Hp):Kp a H H:=fun _ _ e _=>e
theorem Kp.trans {a:Addr} {H H1 H2:Hp} (x:Kp a H H1) (y:Kp a H1 H2):Kp a H H2:=fun b o e n=>y b o (x b o e n) n
theorem A83 {H:Hp} {a l:Addr} {ns:List Int} {xs:List V} (hl:H l=some (.lst (ns.map V.int))) (ha:H a=some (.lst (.ref l::xs))):l≠a:=A8d hl ha (by
 intro e
 injection e with e
 cases ns with
 | nil=>cases e
 | cons n r=>injection e with e1;cases e1)
theorem Hd.at1 {H:Hp} {a l:Addr} (h:Hd H a l):∃o,H a=some o:=let ⟨_,_,_,_,_,_,_,_,e⟩:=h;⟨_,e⟩
theorem Hd.at2 {H:Hp} {a l:Addr} (h:Hd H a l):∃o,H l=some o:=let ⟨_,_,_,_,_,_,e,_⟩:=h;⟨_,e⟩
theorem Hd.ne {H:Hp} {a l p:Addr} (h:Hd H a l) (hp:H p=none):p≠a/\p≠l:=by
 obtain⟨o,e⟩:=h.at1
 obtain⟨o',e'⟩:=h.at2
 exact⟨(W5 e hp).symm,(W5 e' hp).symm⟩
theorem Hd.wr {H:Hp} {a l p:Addr} {o:HO} (h:Hd H a l) (n1:p≠a) (n2:p≠l):Hd (upd H p o) a l:=by
 obtain⟨ns,q,b,c,u,v,h1,h2,h3⟩:=h
 exact⟨ns,q,b,c,u,v,by rw[B6 n2.symm];exact h1,h2,by rw[B6 n1.symm];exact h3⟩
theorem Hd.lay {H:Hp} {a l p:Addr} {o:HO} (h:Hd H a l) (hp:H p=none):Hd (upd H p o) a l:=h.wr (h.ne hp).1 (h.ne hp).2
theorem _root_.L2.Same.lay {p:Addr} {H H1:Hp} {o:HO} (x:Same H H1) (h:H1 p=none):Same H (upd H1 p o):=fun b u e=>by
 have e1:=x b u e
 rw[B6 (W5 e1 h)];exact e1
theorem C4e {ns:List Int} {p:Int} (h0:0<=p) (h1:p < (ns.length:Int)):∃z,atI (ns.map V.int) p=some (.int z):=by
 obtain⟨n,rfl⟩:=Int.eq_ofNat_of_zero_le h0
 have hp:n < ns.length:=by lia
 exact⟨ns[n],j0 (by rw[O7,J6 hp];rfl)⟩
def C4f (K:A7):Sp:=fun vs H Q _=>∃(a:Addr) (ns:List Int),vs=[.ref a]/\SqL K H a (ns.map V.int)/\∀(p l:Addr) (H':Hp),H p=none->H l=none->Hd H' p l->Same H H'->Q (.ref p) H'
def C4g:Sp:=fun vs H Q _=>∃a l,vs=[.ref a]/\Hd H a l/\∀(r:Int) (H':Hp),Hd H' a l->Kp a H H'->Q (.int r) H'
def C4h:Sp:=fun vs H Q _=>∃a l,vs=[.ref a]/\Hd H a l/\∀(H':Hp),Hd H' a l->Kp a H H'->Q .non H'
def C4i:Sp:=fun vs H Q _=>∃a l m,vs=[.ref a,.int m]/\Hd H a l/\0 < m/\m < 100000000000000000000000000000000000000000000000000000000000000/\∀(r:Int) (H':Hp),0<=r->r < m->Hd H' a l->Kp a H H'->Q (.int r) H'
def dEn (ks:List (List Int)):List (List Key×V):=ks.map fun k=>(k.map Sum.inl,V.bl true)
def dEm (ks:List (List Int×Int)):List (List Key×V):=ks.map fun p=>(p.1.map Sum.inl,V.int p.2)
def m5 (k:List Int):PyData:=.tuple (k.map PyData.int)
inductive DiU:HO->List (PyData×PyData)->Prop
 | t:DiU (.dT []) []
 | k (i j:Int):DiU (.dK [(Sum.inl i,V.int j)]) [(.int i,.int j)]
 | f (o:Obj) (ks:List (List Int)):DiU (.frz o (.dT (dEn ks))) ((.none,.none)::ks.map fun k=>(m5 k,.bool true))
mutual
inductive ThV (F:Addr->Prop) (H:Hp):V->PyData->Prop
 | non:ThV F H .non .none
 | bl (b):ThV F H (.bl b) (.bool b)
 | int (i):ThV F H (.int i) (.int i)
 | str (x):ThV F H (.str x) (.str x)
 | lst {a xs ds}:F a->H a=some (.lst xs)->A6 F H xs ds->ThV F H (.ref a) (.list ds)
 | tup {a xs ds}:F a->H a=some (.tup xs)->A6 F H xs ds->ThV F H (.ref a) (.tuple ds)
 | dic {a u kvs}:F a->H a=some u->DiU u kvs->ThV F H (.ref a) (.dict kvs)
inductive A6 (F:Addr->Prop) (H:Hp):List V->List PyData->Prop
 | nil:A6 F H [] []
 | cons {x xs d ds}:ThV F H x d->A6 F H xs ds->A6 F H (x::xs) (d::ds)
end
mutual
theorem ThV.mv {F G:Addr->Prop} {H H':Hp} (f:∀b o,F b->H b=some o->G b/\H' b=some o):∀{v:V} {d:PyData},ThV F H v d->ThV G H' v d
 | _,_,.non=>.non
 | _,_,.bl b=>.bl b
 | _,_,.int i=>.int i
 | _,_,.str x=>.str x
 | _,_,.lst n e t=>.lst (f _ _ n e).1 (f _ _ n e).2 (A6.mv f t)
 | _,_,.tup n e t=>.tup (f _ _ n e).1 (f _ _ n e).2 (A6.mv f t)
 | _,_,.dic n e t=>.dic (f _ _ n e).1 (f _ _ n e).2 t
theorem A6.mv {F G:Addr->Prop} {H H':Hp} (f:∀b o,F b->H b=some o->G b/\H' b=some o):∀{vs:List V} {ds:List PyData},A6 F H vs ds->A6 G H' vs ds
 | _,_,.nil=>.nil
 | _,_,.cons x t=>.cons (ThV.mv f x) (A6.mv f t)
end
theorem A6.same {F:Addr->Prop} {H H':Hp} {v:List V} {d:List PyData} (t:A6 F H v d) (s:Same H H'):A6 F H' v d:=t.mv fun b o z e=>⟨z,s b o e⟩
theorem A6.append {F:Addr->Prop} {H:Hp} {xs:List V} {ds:List PyData} {ys:List V} {es:List PyData} (t:A6 F H xs ds) (y:A6 F H ys es):A6 F H (xs++ys) (ds++es):=by
 induction xs generalizing ds with
 | nil=>cases t;exact y
 | cons v xs ih=>
  cases t with
  | cons x t=>exact .cons x (ih t)
theorem A6.len {F:Addr->Prop} {H:Hp} {xs:List V} {ds:List PyData} (t:A6 F H xs ds):xs.length=ds.length:=by
 induction xs generalizing ds with
 | nil=>cases t;rfl
 | cons v xs ih=>
  cases t with
  | cons x t=>rw[F3,F3,ih t]
theorem A6.get {F:Addr->Prop} {H:Hp}:∀{xs:List V} {ds:List PyData} {i:Nat} {v:V},A6 F H xs ds->xs[i]?=some v->∃d,ds[i]?=some d/\ThV F H v d
 | _,_,_,_,.nil,e=>by simp at e
 | _,_,0,v,.cons (d:=d) x _,e=>by
  have e':=Option.some.inj e
  subst e'
  exact⟨d,rfl,x⟩
 | _,_,i + 1,v,.cons _ t,e=>A6.get (i:=i) t e
theorem A6.at {F:Addr->Prop} {H:Hp}:∀{xs:List V} {ds:List PyData} {i:Nat} {d:PyData},A6 F H xs ds->ds[i]?=some d->∃v,xs[i]?=some v/\ThV F H v d
 | _,_,_,_,.nil,e=>by simp at e
 | _,_,0,d,.cons (x:=v) x _,e=>by
  have e':=Option.some.inj e
  subst e'
  exact⟨v,rfl,x⟩
 | _,_,i + 1,v,.cons _ t,e=>A6.at (i:=i) t e
mutual
theorem ThV.dat {K:A7} {F:Addr->Prop} {H:Hp}:∀{v:V} {d:PyData},ThV F H v d->d.canLay0=true->X0 K H v d
 | _,_,.non,_=>.non
 | _,_,.bl b,_=>.bl b
 | _,_,.int i,_=>.int i
 | _,_,.str x,_=>.str x
 | _,_,.lst _ e t,h=>.lst (SqL.of e) (A6.dat t (by rw[PyData.canLay0] at h;exact h))
 | _,_,.tup _ e t,h=>.tup (SqT.of e) (A6.dat t (by rw[PyData.canLay0] at h;exact h))
 | _,_,.dic _ _ _,h=>by rw[PyData.canLay0] at h;cases h
theorem A6.dat {K:A7} {F:Addr->Prop} {H:Hp}:∀{vs:List V} {ds:List PyData},A6 F H vs ds->PyData.canLayAll0 ds=true->c7 K H vs ds
 | _,_,.nil,_=>.nil
 | _,_,.cons x t,h=>by
  rw[PyData.canLayAll0,k8] at h
  exact .cons (ThV.dat x h.1) (A6.dat t h.2)
end
structure DC where
 F:Addr->Prop
 hand:Option (Addr×Addr)
 H0:Hp
def Kq (h:Option (Addr×Addr)) (H H':Hp):Prop:=∀b o,H b=some o->(∀q,h=some q->b≠q.1)->H' b=some o
def Hq (h:Option (Addr×Addr)) (H:Hp):Prop:=∀q,h=some q->Hd H q.1 q.2
section
variable {h:Option (Addr×Addr)} {H H1 H2 H':Hp} {p:Addr} {o:HO}
theorem Kq.refl:Kq h H H:=fun _ _ e _=>e
theorem Kq.trans (a:Kq h H H1) (b:Kq h H1 H2):Kq h H H2:=fun c o e n=>b c o (a c o e n) n
theorem Kq.same (s:Same H H'):Kq h H H':=fun b o e _=>s b o e
theorem Kq.fr {b:Addr} (k:Kq h H H') (q:Hq h H') (e:H' b=none):H b=none:=by
 cases z:H b with
 | none=>rfl
 | some o=>
  by_cases c:∀p,h=some p->b≠p.1
  ·rw[k b o z c] at e;cases e
  ·refine absurd (fun p hp hb=>?_) c
   obtain⟨o',e'⟩:=(q p hp).at1
   rw[hb,e'] at e;cases e
theorem Kq.lay (hp:H p=none):Kq h H (upd H p o):=Kq.same ((Same.refl H).lay hp)
theorem Hq.lay (q:Hq h H) (hp:H p=none):Hq h (upd H p o):=fun z hz=>(q z hz).lay hp
end
inductive Rws (G F:Addr->Prop) (H:Hp):List Addr->List (List PyData)->Prop
 | nil:Rws G F H [] []
 | cons {b vs as ds dss}:G b->H b=some (.lst vs)->A6 F H vs ds->Rws G F H as dss->Rws G F H (b::as) (ds::dss)
theorem Rws.mv {G F G' F':Addr->Prop} {H H':Hp} {as:List Addr} {dss:List (List PyData)} (t:Rws G F H as dss) (f:∀b o,F b->H b=some o->F' b/\H' b=some o) (g:∀b o,G b->H b=some o->G' b/\H' b=some o):Rws G' F' H' as dss:=by
 induction t with
 | nil=>exact .nil
 | cons x e y _ ih=>exact .cons (g _ _ x e).1 (g _ _ x e).2 (y.mv f) ih
theorem Rws.mvl {G F G' F':Addr->Prop} {H H':Hp} {as:List Addr} {dss:List (List PyData)} (t:Rws G F H as dss) (f:∀b o,F b->H b=some o->F' b/\H' b=some o) (g:∀b ys,G b->H b=some (.lst ys)->G' b/\H' b=some (.lst ys)):Rws G' F' H' as dss:=by
 induction t with
 | nil=>exact .nil
 | cons x e y _ ih=>exact .cons (g _ _ x e).1 (g _ _ x e).2 (y.mv f) ih
def A3y (H:Hp) (a:Addr) (ks:List (List Int)):Bool->Prop
 | false=>H a=some (.dT (dEn ks))
 | true=>∃o,H a=some (.frz o (.dT (dEn ks)))
theorem A3y.mv {H H':Hp} {a:Addr} {ks:List (List Int)} {f:Bool} (h:A3y H a ks f) (k:∀o,H a=some o->H' a=some o):A3y H' a ks f:=by
 cases f with
 | false=>exact k _ h
 | true=>obtain⟨o,h⟩:=h;exact⟨o,k _ h⟩
theorem A3y.ne {H:Hp} {a:Addr} {ks:List (List Int)} {f:Bool} (h:A3y H a ks f):H a≠none:=by
 cases f with
 | false=>exact fun q=>by rw[show H a=_ from h] at q;cases q
 | true=>obtain⟨o,h⟩:=h;exact fun q=>by rw[h] at q;cases q
def A3z (H:Hp) (a:Addr) (ks:List (List Int×Int)):Bool->Prop
 | false=>H a=some (.dT (dEm ks))
 | true=>∃o,H a=some (.frz o (.dT (dEm ks)))
theorem A3z.mv {H H':Hp} {a:Addr} {ks:List (List Int×Int)} {f:Bool} (h:A3z H a ks f) (k:∀o,H a=some o->H' a=some o):A3z H' a ks f:=by
 cases f with
 | false=>exact k _ h
 | true=>obtain⟨o,h⟩:=h;exact⟨o,k _ h⟩
theorem A3z.ne {H:Hp} {a:Addr} {ks:List (List Int×Int)} {f:Bool} (h:A3z H a ks f):H a≠none:=by
 cases f with
 | false=>exact fun q=>by rw[show H a=_ from h] at q;cases q
 | true=>obtain⟨o,h⟩:=h;exact fun q=>by rw[h] at q;cases q
structure B1p where
 p:(Addr->Prop)->Hp->V->Prop
 mv:∀{W W':Addr->Prop} {H H':Hp} {v:V},(∀b o,W b->H b=some o->W' b/\H' b=some o)->p W H v->p W' H' v
inductive Sl where
 | no
 | sh (d:PyData)
 | ow (ds:List PyData)
 | bo (ds:List PyData)
 | hd
 | o2 (dss:List (List PyData))
 | b2 (dss:List (List PyData))
 | di (f:Bool) (ks:List (List Int))
 | dm (f:Bool) (kvs:List (List Int×Int))
 | bd (d:PyData)
 | ot (d:PyData)
 | ob (R:B1p)
abbrev Z (col:Addr->Nat):Addr->Prop:=fun b=>col b=0
abbrev Le (C:DC):Addr->Prop:=fun b=>C.H0 b≠none/\∀q,C.hand=some q->b≠q.1
abbrev Ow (C:DC) (col:Addr->Nat) (H:Hp) (i:Nat):Addr->Prop:=fun b=>(col b=2 * i + 3/\C.H0 b=none)\/(col b=0/\∃xs,H b=some (.tup xs))
def SlR (C:DC) (col:Addr->Nat) (H:Hp) (i:Nat) (o:Option V):Sl->Prop
 | .no=>True
 | .sh d=>∃v,o=some v/\ThV (Z col) H v d
 | .ow ds=>∃a vs,o=some (.ref a)/\col a=2 * i + 3/\C.H0 a=none/\H a=some (.lst vs)/\A6 (Z col) H vs ds
 | .bo ds=>∃a vs,o=some (.ref a)/\col a<=1/\(∀q,C.hand=some q->a≠q.1)/\H a=some (.lst vs)/\A6 (Z col) H vs ds
 | .hd=>∃q,C.hand=some q/\o=some (.ref q.1)
 | .o2 dss=>∃a as,o=some (.ref a)/\(col a=2 * i + 3/\C.H0 a=none)/\H a=some (.lst (as.map V.ref))/\(a::as).Nodup/\Rws (fun b=>col b=2 * i + 3/\C.H0 b=none) (Z col) H as dss
 | .b2 dss=>∃a as,o=some (.ref a)/\(col a<=1/\∀q,C.hand=some q->a≠q.1)/\H a=some (.lst (as.map V.ref))/\Rws (fun b=>col b<=1/\∀q,C.hand=some q->b≠q.1) (Z col) H as dss
 | .di f ks=>∃a,o=some (.ref a)/\col a=2 * i + 3/\C.H0 a=none/\A3y H a ks f
 | .dm f ks=>∃a,o=some (.ref a)/\col a=2 * i + 3/\C.H0 a=none/\A3z H a ks f
 | .bd d=>∃v,o=some v/\ThV (Le C) C.H0 v d
 | .ot d=>∃v,o=some v/\ThV (Ow C col H i) H v d
 | .ob R=>∃v,o=some v/\R.p (Ow C col H i) H v
inductive Pe where
 | v (v:V) (d:PyData)
 | n (a:Addr) (o:HO)
 | s (vs:List V) (ds:List PyData)
 | o (c:Nat) (as:List Addr) (dss:List (List PyData))
 | w (v:V) (d:PyData)
def PeR (C:DC) (col:Addr->Nat) (H:Hp):Pe->Prop
 | .v v d=>ThV (Z col) H v d
 | .n a o=>col a<=1/\(∀q,C.hand=some q->a≠q.1)/\H a=some o
 | .s vs ds=>A6 (Z col) H vs ds
 | .o c as dss=>as.Nodup/\Rws (fun b=>col b=2 * c + 2/\C.H0 b=none) (Z col) H as dss
 | .w v d=>ThV (Le C) C.H0 v d
structure B9 (C:DC) (col:Addr->Nat) (ρ:List Sl) (σ:St) (P:List Pe) (H:Hp):Prop where
 fresh:∀b,H b=none->col b=0
 inF:∀b,col b=0->C.F b
 hnd:∀q,C.hand=some q->col q.1=1
 sl:∀i s,ρ[i]?=some s->SlR C col H i (σ[i]?).join s
 pd:∀p∈P,PeR C col H p
 kq:Kq C.hand C.H0 H
 hq:Hq C.hand H
 hq0:Hq C.hand C.H0
 nf:(∀b,C.H0 b=none->C.F b)/\∀b xs,C.H0 b=some (.tup xs)->C.F b
 len:ρ.length=σ.length
def Rel (C:DC) (ρ:List Sl) (σ:St) (P:List Pe) (H:Hp):Prop:=∃col,B9 C col ρ σ P H
section
variable {C:DC} {col col':Addr->Nat} {ρ:List Sl} {σ:St} {P P':List Pe} {H H':Hp} {v:V} {d:PyData} {o:HO} {p:Addr}
theorem B9.notH (r:B9 C col ρ σ P H) {b:Addr} (hb:col b≠1):∀q,C.hand=some q->b≠q.1:=fun q hq e=>hb (e▸r.hnd q hq)
theorem B9.mv (r:B9 C col ρ σ P H) (k:Kq C.hand H H') (q:Hq C.hand H'):B9 C col ρ σ P H':=by
 have mv0:∀b o,Z col b->H b=some o->Z col b/\H' b=some o:=fun b o z e=>⟨z,k b o e (r.notH (by rw[show col b=0 from z];decide))⟩
 refine⟨fun b e=>r.fresh b (k.fr q e),r.inF,r.hnd,fun i s e=>?_,fun p hp=>?_,r.kq.trans k,q,r.hq0,r.nf,r.len⟩
 ·have h:=r.sl i s e
  cases s with
  | no=>trivial
  | sh d=>obtain⟨v,e1,t⟩:=h;exact⟨v,e1,t.mv mv0⟩
  | ow ds=>obtain⟨a,vs,e1,c,n,e2,t⟩:=h;exact⟨a,vs,e1,c,n,k a _ e2 (r.notH (by lia)),t.mv mv0⟩
  | bo ds=>obtain⟨a,vs,e1,c,n,e2,t⟩:=h;exact⟨a,vs,e1,c,n,k a _ e2 n,t.mv mv0⟩
  | hd=>exact h
  | o2 dss=>obtain⟨a,as,e1,c,e2,nd,t⟩:=h;exact⟨a,as,e1,c,k a _ e2 (r.notH (by lia)),nd,t.mv mv0 fun b o g e=>⟨g,k b o e (r.notH (by have:=g.1;lia))⟩⟩
  | b2 dss=>obtain⟨a,as,e1,c,e2,t⟩:=h;exact⟨a,as,e1,c,k a _ e2 c.2,t.mv mv0 fun b o g e=>⟨g,k b o e g.2⟩⟩
  | di f ks=>obtain⟨a,e1,c,n,e2⟩:=h;exact⟨a,e1,c,n,e2.mv fun o e=>k a o e (r.notH (by lia))⟩
  | dm f ks=>obtain⟨a,e1,c,n,e2⟩:=h;exact⟨a,e1,c,n,e2.mv fun o e=>k a o e (r.notH (by lia))⟩
  | bd d=>exact h
  | ot d=>
   obtain⟨v,e1,t⟩:=h
   refine⟨v,e1,t.mv fun b o g e=>?_⟩
   have e':H' b=some o:=k b o e (r.notH (by rcases g with g | g <;> (have:=g.1;lia)))
   exact⟨g.imp id fun ⟨c,xs,z⟩=>⟨c,xs,by rw[e] at z;rw[e'];exact z⟩,e'⟩
  | ob R=>
   obtain⟨v,e1,t⟩:=h
   refine⟨v,e1,R.mv (fun b o g e=>?_) t⟩
   have e':H' b=some o:=k b o e (r.notH (by rcases g with g | g <;> (have:=g.1;lia)))
   exact⟨g.imp id fun ⟨c,xs,z⟩=>⟨c,xs,by rw[e] at z;rw[e'];exact z⟩,e'⟩
 ·have h:=r.pd p hp
  cases p with
  | v v d=>exact ThV.mv mv0 h
  | n a o=>exact⟨h.1,h.2.1,k a o h.2.2 h.2.1⟩
  | s vs ds=>exact A6.mv mv0 h
  | o c as dss=>exact⟨h.1,h.2.mv mv0 fun b o g e=>⟨g,k b o e (r.notH (by have:=g.1;lia))⟩⟩
  | w v d=>exact h
theorem B9.lay (r:B9 C col ρ σ P H) (hp:H p=none):B9 C col ρ σ P (upd H p o):=r.mv (Kq.lay hp) (r.hq.lay hp)
theorem B9.add (r:B9 C col ρ σ P H) {x:Pe} (t:PeR C col H x):B9 C col ρ σ (x::P) H:=
 { r with pd:=fun p hp=>(N2.mp hp).elim (fun e=>e▸t) (r.pd p) }
theorem B9.push (r:B9 C col ρ σ P H) (t:ThV (Z col) H v d):B9 C col ρ σ (.v v d::P) H:=r.add t
theorem B9.sub (r:B9 C col ρ σ P H) (h:∀p∈P',p∈P):B9 C col ρ σ P' H:={ r with pd:=fun p hp=>r.pd p (h p hp) }
theorem Rel.sub (r:Rel C ρ σ P H) (h:∀p∈P',p∈P):Rel C ρ σ P' H:=let ⟨c,r⟩:=r;⟨c,r.sub h⟩
theorem Rel.pop {x:Pe} (r:Rel C ρ σ (x::P) H):Rel C ρ σ P H:=r.sub fun _ h=>A9 _ h
theorem B9.tup {vs:List V} {ds:List PyData} (r:B9 C col ρ σ P H) (t:A6 (Z col) H vs ds) (hp:H p=none):B9 C col ρ σ (.v (.ref p) (.tuple ds)::P) (upd H p (.tup vs)):=
 (r.lay hp).push (.tup (r.fresh p hp) E7 (t.same ((Same.refl H).lay hp)))
theorem B9.lst {vs:List V} {ds:List PyData} (r:B9 C col ρ σ P H) (t:A6 (Z col) H vs ds) (hp:H p=none):B9 C col ρ σ (.v (.ref p) (.list ds)::P) (upd H p (.lst vs)):=
 (r.lay hp).push (.lst (r.fresh p hp) E7 (t.same ((Same.refl H).lay hp)))
theorem B9.recol (r:B9 C col ρ σ P H) {ρ':List Sl} {σ':St} (hl:ρ'.length=σ'.length) (f:∀b,H b=none->col' b=0) (i:∀b,col' b=0->C.F b) (n:∀q,C.hand=some q->col' q.1=1) (z:∀b,col b=0->H b≠none->col' b=0)
  (lo:∀b,col b<=1->H b≠none->col' b<=1) (c2:∀b c,col b=2 * c + 2->col' b=2 * c + 2) (s:∀i s,ρ'[i]?=some s->SlR C col' H i (σ'[i]?).join s):B9 C col' ρ' σ' P H:=by
 have mv0:∀b o,Z col b->H b=some o->Z col' b/\H b=some o:=fun b o zz e=>⟨z b zz (by rw[e];exact fun q=>nomatch q),e⟩
 refine⟨f,i,n,s,fun p hp=>?_,r.kq,r.hq,r.hq0,r.nf,hl⟩
 have h:=r.pd p hp
 cases p with
 | v v d=>exact ThV.mv mv0 h
 | n a o=>exact⟨lo a h.1 (by rw[h.2.2];exact fun q=>nomatch q),h.2⟩
 | s vs ds=>exact A6.mv mv0 h
 | o c as dss=>exact⟨h.1,h.2.mv mv0 fun b o g e=>⟨⟨c2 b c g.1,g.2⟩,e⟩⟩
 | w v d=>exact h
theorem B9.freeze {i:Nat} {ds:List PyData} (r:B9 C col ρ σ P H) (e:ρ[i]?=some (.ow ds)) :
  ∃a,(σ[i]?).join=some (.ref a)/\Rel C (ρ.set i (.sh (.list ds))) σ (.v (.ref a) (.list ds)::P) H:=by
 obtain⟨a,vs,e1,c,n,e2,t⟩:=r.sl i _ e
 let col':Addr->Nat:=fun b=>if b=a then 0 else col b
 have ca:col' a=0:=if_pos rfl
 have cn:∀b,b≠a->col' b=col b:=fun b hb=>if_neg hb
 have z:∀b,col b=0->col' b=0:=fun b hb=>by
  by_cases q:b=a
  ·rw[q];exact ca
  ·rw[cn b q];exact hb
 have mv0:∀b o,Z col b->H b=some o->Z col' b/\H b=some o:=fun b o zz e=>⟨z b zz,e⟩
 have T:ThV (Z col') H (.ref a) (.list ds):=.lst ca e2 (t.mv mv0)
 have R:B9 C col' (ρ.set i (.sh (.list ds))) σ P H:=by
  refine r.recol (by rw[O8];exact r.len) (fun b hb=>z b (r.fresh b hb)) (fun b hb=>?_) (fun q hq=>?_) (fun b hb _=>z b hb) (fun b hb _=>?_) (fun b c2 hb=>by rw[cn b (fun q=>by rw[q] at hb;lia)];exact hb) fun j s es=>?_
  ·by_cases q:b=a
   ·rw[q];exact r.nf.1 a n
   ·rw[cn b q] at hb;exact r.inF b hb
  ·rw[cn _ fun q'=>by have:=r.hnd q hq;rw[q'] at this;lia];exact r.hnd q hq
  ·by_cases q:b=a
   ·rw[q,ca];lia
   ·rw[cn b q];exact hb
  ·by_cases hj:j=i
   ·subst hj
    rw[g5] at es
    simp only[if_true] at es
    split at es
    ·cases es;exact⟨_,e1,T⟩
    ·cases es
   ·rw[U2 (Ne.symm hj)] at es
    have h:=r.sl j s es
    cases s with
    | no=>trivial
    | sh d=>obtain⟨v,e1,t⟩:=h;exact⟨v,e1,t.mv mv0⟩
    | ow ds=>obtain⟨a',vs',e1',c',n',e2',t'⟩:=h;exact⟨a',vs',e1',by rw[cn a' (fun q=>by rw[q] at c';lia)];exact c',n',e2',t'.mv mv0⟩
    | bo ds=>obtain⟨a',vs',e1',c',n',e2',t'⟩:=h;exact⟨a',vs',e1',by by_cases q:a'=a;{ rw[q,ca];lia };{ rw[cn a' q];exact c' },n',e2',t'.mv mv0⟩
    | hd=>exact h
    | o2 dss=>obtain⟨a',as',e1',c',e2',nd',t'⟩:=h;exact⟨a',as',e1',⟨by rw[cn a' (fun q=>by rw[q] at c';lia)];exact c'.1,c'.2⟩,e2',nd',t'.mv mv0 fun b o g e=>⟨⟨by rw[cn b (fun q=>by have:=g.1;rw[q] at this;lia)];exact g.1,g.2⟩,e⟩⟩
    | b2 dss=>obtain⟨a',as',e1',c',e2',t'⟩:=h;exact⟨a',as',e1',⟨by by_cases q:a'=a;{ rw[q,ca];lia };{ rw[cn a' q];exact c'.1 },c'.2⟩,e2',t'.mv mv0 fun b o g e=>⟨⟨by by_cases q:b=a;{ rw[q,ca];lia };{ rw[cn b q];exact g.1 },g.2⟩,e⟩⟩
    | di f ks=>obtain⟨a',e1',c',n',e2'⟩:=h;exact⟨a',e1',by rw[cn a' (fun q=>by rw[q] at c';lia)];exact c',n',e2'⟩
    | dm f ks=>obtain⟨a',e1',c',n',e2'⟩:=h;exact⟨a',e1',by rw[cn a' (fun q=>by rw[q] at c';lia)];exact c',n',e2'⟩
    | bd d=>exact h
    | ot d=>obtain⟨v,e1',t'⟩:=h;exact⟨v,e1',t'.mv fun b o g e=>⟨g.imp (fun g=>⟨by rw[cn b (fun q=>by rw[q] at g;have:=g.1;lia)];exact g.1,g.2⟩) fun g=>⟨z b g.1,g.2⟩,e⟩⟩
    | ob R=>obtain⟨v,e1',t'⟩:=h;exact⟨v,e1',R.mv (fun b o g e=>⟨g.imp (fun g=>⟨by rw[cn b (fun q=>by rw[q] at g;have:=g.1;lia)];exact g.1,g.2⟩) fun g=>⟨z b g.1,g.2⟩,e⟩) t'⟩
 exact⟨a,e1,col',R.push T⟩
theorem B9.store {i:Nat} (r:B9 C col ρ σ P H) (t:ThV (Z col) H v d):B9 C col (ρ.set i (.sh d)) (σ.set i (some v)) P H:=by
 refine { r with sl:=fun j s es=>?_,len:=by rw[O8,O8];exact r.len }
 by_cases hj:j=i
 ·subst hj
  rw[g5] at es
  simp only[if_true] at es
  split at es
  ·rename_i hl
   cases es
   refine⟨v,?_,t⟩
   rw[g5,if_pos rfl,if_pos (by rw[<-r.len];exact hl)];rfl
  ·cases es
 ·rw[U2 (Ne.symm hj)] at es
  rw[U2 (Ne.symm hj)]
  exact r.sl j s es
theorem B9.own {i:Nat} {vs:List V} {ds:List PyData} (r:B9 C col ρ σ P H) (t:A6 (Z col) H vs ds) (hp:H p=none):Rel C (ρ.set i (.ow ds)) (σ.set i (some (.ref p))) P (upd H p (.lst vs)):=by
 let col':Addr->Nat:=fun b=>if b=p then 2 * i + 3 else col b
 have ca:col' p=2 * i + 3:=if_pos rfl
 have cn:∀b,b≠p->col' b=col b:=fun b hb=>if_neg hb
 have ne:∀b,H b≠none->b≠p:=fun b hb q=>hb (q▸hp)
 have mv0:∀b o,Z col b->H b=some o->Z col' b/\upd H p (.lst vs) b=some o:=fun b o zz e=>by
  have q:=ne b (by rw[e];exact fun q=>nomatch q)
  exact⟨(cn b q).trans zz,by rw[B6 q];exact e⟩
 have r1:=r.lay (o:=.lst vs) hp
 have c0:C.H0 p=none:=r.kq.fr r.hq hp
 refine⟨col',fun b hb=>?_,fun b hb=>?_,fun q hq=>?_,fun j s es=>?_,fun x hx=>?_,r1.kq,r1.hq,r.hq0,r.nf,by rw[O8,O8];exact r.len⟩
 ·have q:b≠p:=fun q=>by rw[q,E7] at hb;cases hb
  rw[cn b q];exact r1.fresh b hb
 ·have q:b≠p:=fun q=>by rw[q,ca] at hb;cases hb
  rw[cn b q] at hb;exact r.inF b hb
 ·obtain⟨o',e'⟩:=(r.hq q hq).at1
  rw[cn _ (ne _ (by rw[e'];exact fun q=>nomatch q))];exact r.hnd q hq
 ·by_cases hj:j=i
  ·subst hj
   rw[g5] at es
   simp only[if_true] at es
   split at es
   ·rename_i hl
    cases es
    exact⟨p,vs,by rw[g5,if_pos rfl,if_pos (by rw[<-r.len];exact hl)];rfl,ca,c0,E7,t.mv mv0⟩
   ·cases es
  ·rw[U2 (Ne.symm hj)] at es
   rw[U2 (Ne.symm hj)]
   have h:=r.sl j s es
   cases s with
   | no=>trivial
   | sh d=>obtain⟨v,e1,t⟩:=h;exact⟨v,e1,t.mv mv0⟩
   | ow ds=>
    obtain⟨a',vs',e1',c',n',e2',t'⟩:=h
    have q:=ne a' (by rw[e2'];exact fun q=>nomatch q)
    exact⟨a',vs',e1',by rw[cn a' q];exact c',n',by rw[B6 q];exact e2',t'.mv mv0⟩
   | bo ds=>
    obtain⟨a',vs',e1',c',n',e2',t'⟩:=h
    have q:=ne a' (by rw[e2'];exact fun q=>nomatch q)
    exact⟨a',vs',e1',by rw[cn a' q];exact c',n',by rw[B6 q];exact e2',t'.mv mv0⟩
   | hd=>exact h
   | o2 dss=>
    obtain⟨a',as',e1',c',e2',nd',t'⟩:=h
    have q:=ne a' (by rw[e2'];exact fun q=>nomatch q)
    exact⟨a',as',e1',⟨by rw[cn a' q];exact c'.1,c'.2⟩,by rw[B6 q];exact e2',nd',t'.mv mv0 fun b o g e=>by
     have q:=ne b (by rw[e];exact fun q=>nomatch q)
     exact⟨⟨by rw[cn b q];exact g.1,g.2⟩,by rw[B6 q];exact e⟩⟩
   | b2 dss=>
    obtain⟨a',as',e1',c',e2',t'⟩:=h
    have q:=ne a' (by rw[e2'];exact fun q=>nomatch q)
    exact⟨a',as',e1',⟨by rw[cn a' q];exact c'.1,c'.2⟩,by rw[B6 q];exact e2',t'.mv mv0 fun b o g e=>by
     have q:=ne b (by rw[e];exact fun q=>nomatch q)
     exact⟨⟨by rw[cn b q];exact g.1,g.2⟩,by rw[B6 q];exact e⟩⟩
   | di f ks=>
    obtain⟨a',e1',c',n',e2'⟩:=h
    have q:=ne a' e2'.ne
    exact⟨a',e1',by rw[cn a' q];exact c',n',e2'.mv fun o e=>by rw[B6 q];exact e⟩
   | dm f ks=>
    obtain⟨a',e1',c',n',e2'⟩:=h
    have q:=ne a' e2'.ne
    exact⟨a',e1',by rw[cn a' q];exact c',n',e2'.mv fun o e=>by rw[B6 q];exact e⟩
   | bd d=>exact h
   | ot d=>
    obtain⟨v,e1',t'⟩:=h
    exact⟨v,e1',t'.mv fun b o g e=>by
     have q:=ne b (by rw[e];exact fun q=>nomatch q)
     exact⟨g.imp (fun g=>⟨by rw[cn b q];exact g.1,g.2⟩) fun g=>⟨by rw[cn b q];exact g.1,by rw[B6 q];exact g.2⟩,by rw[B6 q];exact e⟩⟩
   | ob R=>
    obtain⟨v,e1',t'⟩:=h
    exact⟨v,e1',R.mv (fun b o g e=>by
     have q:=ne b (by rw[e];exact fun q=>nomatch q)
     exact⟨g.imp (fun g=>⟨by rw[cn b q];exact g.1,g.2⟩) fun g=>⟨by rw[cn b q];exact g.1,by rw[B6 q];exact g.2⟩,by rw[B6 q];exact e⟩) t'⟩
 ·have h:=r.pd x hx
  cases x with
  | v v d=>exact ThV.mv mv0 h
  | n a o=>
   have q:=ne a (by rw[h.2.2];exact fun q=>nomatch q)
   exact⟨by rw[cn a q];exact h.1,h.2.1,by rw[B6 q];exact h.2.2⟩
  | s vs ds=>exact A6.mv mv0 h
  | o c as dss=>exact⟨h.1,h.2.mv mv0 fun b o g e=>by
    have q:=ne b (by rw[e];exact fun q=>nomatch q)
    exact⟨⟨by rw[cn b q];exact g.1,g.2⟩,by rw[B6 q];exact e⟩⟩
  | w v d=>exact h
theorem B9.write {i:Nat} {a:Addr} {ws:List V} {ds es:List PyData} (r:B9 C col ρ σ P H) (e:ρ[i]?=some (.ow ds)) (ea:(σ[i]?).join=some (.ref a)) (t:A6 (Z col) H ws es) :
  B9 C col (ρ.set i (.ow es)) σ P (upd H a (.lst ws)):=by
 obtain⟨a',vs',e1,c,n,e2,_⟩:=r.sl i _ e
 rw[e1] at ea
 cases ea
 have ne:∀b,col b≠2 * i + 3->b≠a:=fun b hb q=>hb (q▸c)
 have mv0:∀b o,Z col b->H b=some o->Z col b/\upd H a (.lst ws) b=some o:=fun b o zz e=>⟨zz,by rw[B6 (ne b (by rw[show col b=0 from zz];lia))];exact e⟩
 refine⟨fun b hb=>?_,r.inF,r.hnd,fun j s es'=>?_,fun x hx=>?_,fun b o e q=>?_,fun q hq=>?_,r.hq0,r.nf,by rw[O8];exact r.len⟩
 ·by_cases q:b=a
  ·rw[q,E7] at hb;cases hb
  ·rw[B6 q] at hb;exact r.fresh b hb
 ·by_cases hj:j=i
  ·subst hj
   rw[g5] at es'
   simp only[if_true] at es'
   split at es'
   ·cases es'
    exact⟨a,ws,e1,c,n,E7,t.mv mv0⟩
   ·cases es'
  ·rw[U2 (Ne.symm hj)] at es'
   have h:=r.sl j s es'
   cases s with
   | no=>trivial
   | sh d=>obtain⟨v,e1,t⟩:=h;exact⟨v,e1,t.mv mv0⟩
   | ow ds=>
    obtain⟨a',vs',e1',c',n',e2',t'⟩:=h
    exact⟨a',vs',e1',c',n',by rw[B6 (ne a' (by lia))];exact e2',t'.mv mv0⟩
   | bo ds=>
    obtain⟨a',vs',e1',c',n',e2',t'⟩:=h
    exact⟨a',vs',e1',c',n',by rw[B6 (ne a' (by lia))];exact e2',t'.mv mv0⟩
   | hd=>exact h
   | o2 dss=>
    obtain⟨a',as',e1',c',e2',nd',t'⟩:=h
    exact⟨a',as',e1',c',by rw[B6 (ne a' (by lia))];exact e2',nd',t'.mv mv0 fun b o g e=>⟨g,by rw[B6 (ne b (by have:=g.1;lia))];exact e⟩⟩
   | b2 dss=>
    obtain⟨a',as',e1',c',e2',t'⟩:=h
    exact⟨a',as',e1',c',by rw[B6 (ne a' (by have:=c'.1;lia))];exact e2',t'.mv mv0 fun b o g e=>⟨g,by rw[B6 (ne b (by have:=g.1;lia))];exact e⟩⟩
   | di f ks=>
    obtain⟨a',e1',c',n',e2'⟩:=h
    exact⟨a',e1',c',n',e2'.mv fun o e=>by rw[B6 (ne a' (by lia))];exact e⟩
   | dm f ks=>
    obtain⟨a',e1',c',n',e2'⟩:=h
    exact⟨a',e1',c',n',e2'.mv fun o e=>by rw[B6 (ne a' (by lia))];exact e⟩
   | bd d=>exact h
   | ot d=>
    obtain⟨v,e1',t'⟩:=h
    exact⟨v,e1',t'.mv fun b o g e=>by
     have q:=ne b (by rcases g with g | g <;> (have:=g.1;lia))
     exact⟨g.imp id fun g=>⟨g.1,by rw[B6 q];exact g.2⟩,by rw[B6 q];exact e⟩⟩
   | ob R=>
    obtain⟨v,e1',t'⟩:=h
    exact⟨v,e1',R.mv (fun b o g e=>by
     have q:=ne b (by rcases g with g | g <;> (have:=g.1;lia))
     exact⟨g.imp id fun g=>⟨g.1,by rw[B6 q];exact g.2⟩,by rw[B6 q];exact e⟩) t'⟩
 ·have h:=r.pd x hx
  cases x with
  | v v d=>exact ThV.mv mv0 h
  | n b o=>exact⟨h.1,h.2.1,by rw[B6 (ne b (by have:=h.1;lia))];exact h.2.2⟩
  | s vs ds=>exact A6.mv mv0 h
  | o c as dss=>exact⟨h.1,h.2.mv mv0 fun b o g e=>⟨g,by rw[B6 (ne b (by have:=g.1;lia))];exact e⟩⟩
  | w v d=>exact h
 ·have z:=r.kq b o e q
  have q':b≠a:=fun q'=>by rw[q',n] at e;cases e
  rw[B6 q'];exact z
 ·obtain⟨o1,h1⟩:=(r.hq0 q hq).at1
  obtain⟨o2,h2⟩:=(r.hq0 q hq).at2
  exact (r.hq q hq).wr (fun z=>by rw[<-z,n] at h1;cases h1) (fun z=>by rw[<-z,n] at h2;cases h2)
end
open Classical in
theorem B9.norm {C:DC} {col:Addr->Nat} {ρ:List Sl} {σ:St} {P:List Pe} {H:Hp} (r:B9 C col ρ σ P H):∃col',B9 C col' ρ σ P H/\∀b xs,H b=some (.tup xs)->col' b=0:=by
 let col':Addr->Nat:=fun b=>if ∃xs,H b=some (.tup xs) then 0 else col b
 have ct:∀b xs,H b=some (.tup xs)->col' b=0:=fun b xs e=>if_pos ⟨xs,e⟩
 have cn:∀b,(∀xs,H b≠some (.tup xs))->col' b=col b:=fun b h=>if_neg fun ⟨xs,e⟩=>h xs e
 have hl:∀b ys,H b=some (.lst ys)->col' b=col b:=fun b ys e=>cn b fun xs z=>by rw[e] at z;cases z
 have hd:∀q,C.hand=some q->∀xs,H q.1≠some (.tup xs):=fun q hq xs z=>by
  obtain⟨_,_,_,_,_,_,_,_,e⟩:=r.hq q hq
  rw[e] at z;cases z
 have z0:∀b,col b=0->col' b=0:=fun b hb=>by
  by_cases h:∃xs,H b=some (.tup xs)
  ·exact if_pos h
  ·exact (if_neg h).trans hb
 have lo:∀b,col b<=1->col' b<=1:=fun b hb=>by
  by_cases h:∃xs,H b=some (.tup xs)
  ·rw[show col' b=0 from if_pos h];lia
  ·rw[show col' b=col b from if_neg h];exact hb
 have mv0:∀b o,Z col b->H b=some o->Z col' b/\H b=some o:=fun b o zz e=>⟨z0 b zz,e⟩
 refine⟨col',⟨fun b e=>z0 b (r.fresh b e),fun b hb=>?_,fun q hq=>(cn _ (hd q hq)).trans (r.hnd q hq),fun i s e=>?_,fun p hp=>?_,r.kq,r.hq,r.hq0,r.nf,r.len⟩,ct⟩
 ·by_cases h:∃xs,H b=some (.tup xs)
  ·obtain⟨xs,h⟩:=h
   cases q:C.H0 b with
   | none=>exact r.nf.1 b q
   | some o=>
    have:=r.kq b o q fun p hp e=>hd p hp xs (e▸h)
    rw[this] at h
    cases h
    exact r.nf.2 b xs q
  ·rw[show col' b=col b from if_neg h] at hb;exact r.inF b hb
 ·have h:=r.sl i s e
  cases s with
  | no=>trivial
  | sh d=>obtain⟨v,e1,t⟩:=h;exact⟨v,e1,t.mv mv0⟩
  | ow ds=>obtain⟨a,vs,e1,c,n,e2,t⟩:=h;exact⟨a,vs,e1,(hl a _ e2).trans c,n,e2,t.mv mv0⟩
  | bo ds=>obtain⟨a,vs,e1,c,n,e2,t⟩:=h;exact⟨a,vs,e1,lo a c,n,e2,t.mv mv0⟩
  | hd=>exact h
  | o2 dss=>obtain⟨a,as,e1,c,e2,nd,t⟩:=h;exact⟨a,as,e1,⟨(hl a _ e2).trans c.1,c.2⟩,e2,nd,t.mvl mv0 fun b ys g e=>⟨⟨(hl b _ e).trans g.1,g.2⟩,e⟩⟩
  | b2 dss=>obtain⟨a,as,e1,c,e2,t⟩:=h;exact⟨a,as,e1,⟨lo a c.1,c.2⟩,e2,t.mvl mv0 fun b ys g e=>⟨⟨lo b g.1,g.2⟩,e⟩⟩
  | di f ks=>
   obtain⟨a,e1,c,n,e2⟩:=h
   refine⟨a,e1,(cn a fun xs z=>?_).trans c,n,e2⟩
   cases f with
   | false=>rw[show H a=_ from e2] at z;cases z
   | true=>obtain⟨o,e2⟩:=e2;rw[e2] at z;cases z
  | dm f ks=>
   obtain⟨a,e1,c,n,e2⟩:=h
   refine⟨a,e1,(cn a fun xs z=>?_).trans c,n,e2⟩
   cases f with
   | false=>rw[show H a=_ from e2] at z;cases z
   | true=>obtain⟨o,e2⟩:=e2;rw[e2] at z;cases z
  | bd d=>exact h
  | ot d=>
   obtain⟨v,e1,t⟩:=h
   refine⟨v,e1,t.mv fun b o g e=>⟨?_,e⟩⟩
   by_cases q:∃xs,H b=some (.tup xs)
   ·obtain⟨xs,q⟩:=q
    exact .inr ⟨ct b xs q,xs,q⟩
   ·rcases g with g | g
    ·exact .inl ⟨(if_neg q).trans g.1,g.2⟩
    ·exact absurd g.2 q
  | ob R=>
   obtain⟨v,e1,t⟩:=h
   refine⟨v,e1,R.mv (fun b o g e=>⟨?_,e⟩) t⟩
   by_cases q:∃xs,H b=some (.tup xs)
   ·obtain⟨xs,q⟩:=q
    exact .inr ⟨ct b xs q,xs,q⟩
   ·rcases g with g | g
    ·exact .inl ⟨(if_neg q).trans g.1,g.2⟩
    ·exact absurd g.2 q
 ·have h:=r.pd p hp
  cases p with
  | v v d=>exact ThV.mv mv0 h
  | n a o=>exact⟨lo a h.1,h.2⟩
  | s vs ds=>exact A6.mv mv0 h
  | o c as dss=>exact⟨h.1,h.2.mvl mv0 fun b ys g e=>⟨⟨(hl b _ e).trans g.1,g.2⟩,e⟩⟩
  | w v d=>exact h
inductive Pds (P:List Pe):List V->List PyData->Prop
 | nil:Pds P [] []
 | cons {v d vs ds}:Pe.v v d∈P->Pds P vs ds->Pds P (v::vs) (d::ds)
theorem Pds.th {C:DC} {col:Addr->Nat} {ρ:List Sl} {σ:St} {P:List Pe} {H:Hp} (r:B9 C col ρ σ P H):∀{vs:List V} {ds:List PyData},Pds P vs ds->A6 (Z col) H vs ds
 | _,_,.nil=>.nil
 | _,_,.cons h t=>.cons (r.pd _ h) (Pds.th r t)
abbrev DE:=List Sl->(PyData->List Sl->Prop)->Prop
abbrev DT:=List Sl->(Bool->List Sl->Prop)->Prop
abbrev DF:=List Sl->(List PyData->List Sl->Prop)->Prop
def eOf (C:DC) (t:DE):TE:=fun σ H Q=>∃ρ P Qd,Rel C ρ σ P H/\t ρ Qd/\∀v d ρ' H',Rel C ρ' σ (.v v d::P) H'->Qd d ρ'->Q v H'
def cOf (C:DC) (t:DT):TT:=fun σ H Q=>∃ρ P Qd,Rel C ρ σ P H/\t ρ Qd/\∀b ρ' H',Rel C ρ' σ P H'->Qd b ρ'->Q b H'
def fOf (C:DC) (t:DF):TE:=fun σ H Q=>∃ρ P Qd,Rel C ρ σ P H/\t ρ Qd/\∀p vs ds ρ' H1,(∃col,B9 C col ρ' σ P H1/\A6 (Z col) H1 vs ds)->H1 p=none->Qd ds ρ'->Q (.ref p) (upd H1 p (.lst vs))
def vOf (C:DC) (t:DF):TA:=fun σ H Q=>∃ρ P Qd,Rel C ρ σ P H/\t ρ Qd/\∀vs ds ρ' P' H',Rel C ρ' σ P' H'->(∀p∈P,p∈P')->Pds P' vs ds->Qd ds ρ'->Q vs H'
def bnd {α:Type} (o:Option α) (Q:α->Prop):Prop:=match o with
 | some a=>Q a
 | none=>False
theorem J2 {α:Type} {o:Option α} {Q:α->Prop} (h:bnd o Q):∃a,o=some a/\Q a:=by
 cases o with
 | none=>exact h.elim
 | some a=>exact⟨a,rfl,h⟩
section
variable {X:Cx} {C:DC}
theorem PE.wk {e:Expr} {t t':TE} (h:PE X e t) (f:∀σ H Q,t' σ H Q->t σ H Q):PE X e t':=fun pins s σ H Q I q=>h pins s σ H Q I (f σ H Q q)
theorem PT.wk {e:Expr} {t t':TT} (h:PT X e t) (f:∀σ H Q,t' σ H Q->t σ H Q):PT X e t':=fun pins s σ H Q I q=>h pins s σ H Q I (f σ H Q q)
theorem PW.wk {e:Expr} {t t':TT} (h:PW X e t) (f:∀σ H Q,t' σ H Q->t σ H Q):PW X e t':=fun wh pins s σ H Q I q=>h wh pins s σ H Q I (f σ H Q q)
theorem PA.wk {es:List Expr} {t t':TA} (h:PA X es t) (f:∀σ H Q,t' σ H Q->t σ H Q):PA X es t':=fun pos pins s σ H Q I q=>h pos pins s σ H Q I (f σ H Q q)
theorem PO.wk {e:Option Expr} {t t':TO} (h:PO X e t) (f:∀σ H Q,t' σ H Q->t σ H Q):PO X e t':=fun pins s σ H Q I q=>h pins s σ H Q I (f σ H Q q)
def dC (d:PyData)  (ρ:List Sl) (Q:PyData->List Sl->Prop):Prop:=Q d ρ
theorem B1q {e:Expr} {v:V} {d:PyData} (h:PE X e (tC v)) (t:∀F H,ThV F H v d):PE X e (eOf C (dC d)):=PE.wk h fun _ _ _ zz1=>el3 zz1 fun _ _ _ zz2 ht k=>zz2.elim fun col r=>k _ _ _ _ ⟨col,r.push (t _ _)⟩ ht
theorem B0 {i j pos}:PE X (.Constant (.int i) j pos) (eOf C (dC (.int i))):=B1q C8 fun _ _=>.int i
theorem G0 {j pos}:PE X (.Constant .none j pos) (eOf C (dC .none)):=B1q B5n fun _ _=>.non
theorem D4 {e:Expr} {i:Int} (h:PE X e (tC (.int i))):PE X e (eOf C (dC (.int i))):=B1q h fun _ _=>.int i
theorem G7 {α:Type} {o:Option (Option α)} {v:α} (h:o.join=some v):o=some (some v):=by
 cases o with
 | none=>cases h
 | some q=>exact congrArg some h
def A0b (i:Nat)  (ρ:List Sl) (Q:PyData->List Sl->Prop):Prop:=match ρ[i]? with
 | some (.sh d)=>Q d ρ
 | some (.ow ds)=>Q (.list ds) (ρ.set i (.sh (.list ds)))
 | _=>False
theorem A1 {e:Expr} {i:Nat} (h:PE X e (Q2 i)):PE X e (eOf C (A0b i)):=PE.wk h fun σ H Q zz3=>el3 zz3 fun ρ P Qd zz4 ht k=>zz4.elim fun col r=>by
 unfold A0b at ht
 split at ht
 ·rename_i d e
  obtain⟨v,e1,t⟩:=r.sl i _ e
  exact⟨v,G7 e1,k _ _ _ _ ⟨col,r.push t⟩ ht⟩
 ·rename_i ds e
  obtain⟨a,e1,R⟩:=r.freeze e
  exact⟨_,G7 e1,k _ _ _ _ R ht⟩
 ·exact ht.elim
def N4 (ρ:List Sl) (i:Nat):Option PyData:=match ρ[i]? with
 | some (.sh d)=>some d
 | some (.ow ds)=>some (.list ds)
 | some (.bo ds)=>some (.list ds)
 | _=>none
inductive Red (col:Addr->Nat) (H:Hp):V->PyData->Prop
 | th {v d}:ThV (Z col) H v d->Red col H v d
 | ls {a vs ds}:H a=some (.lst vs)->A6 (Z col) H vs ds->Red col H (.ref a) (.list ds)
theorem B9.slot {col:Addr->Nat} {ρ:List Sl} {σ:St} {P:List Pe} {H:Hp} (r:B9 C col ρ σ P H) {i:Nat} {d:PyData} (h:N4 ρ i=some d):∃v,σ[i]?=some (some v)/\Red col H v d:=by
 unfold N4 at h
 split at h
 ·rename_i d' e
  cases h
  obtain⟨v,e1,t⟩:=r.sl i _ e
  exact⟨v,G7 e1,.th t⟩
 ·rename_i ds e
  cases h
  obtain⟨a,vs,e1,_,_,e2,t⟩:=r.sl i _ e
  exact⟨_,G7 e1,.ls e2 t⟩
 ·rename_i ds e
  cases h
  obtain⟨a,vs,e1,_,_,e2,t⟩:=r.sl i _ e
  exact⟨_,G7 e1,.ls e2 t⟩
 ·cases h
theorem Red.lst {col:Addr->Nat} {H:Hp} {v:V} {ds:List PyData} (h:Red col H v (.list ds)):∃a vs,v=.ref a/\H a=some (.lst vs)/\A6 (Z col) H vs ds:=by
 cases h with
 | th t=>cases t with
  | lst _ e t=>exact⟨_,_,rfl,e,t⟩
 | ls e t=>exact⟨_,_,rfl,e,t⟩
theorem Red.tup {col:Addr->Nat} {H:Hp} {v:V} {ds:List PyData} (h:Red col H v (.tuple ds)):∃a vs,v=.ref a/\H a=some (.tup vs)/\A6 (Z col) H vs ds:=by
 cases h with
 | th t=>cases t with
  | tup _ e t=>exact⟨_,_,rfl,e,t⟩
abbrev G2:=PyData->PyData->(PyData->Prop)->Prop
def O2 (C:DC) (r:R2) (g:G2):Prop:=
 ∀{ρ:List Sl} {σ:St} {P:List Pe} {H:Hp} {v w:V} {a b:PyData} {Qd:PyData->Prop} {Q:VK},Rel C ρ σ (.v w b::.v v a::P) H->g a b Qd->(∀u d H',Rel C ρ σ (.v u d::P) H'->Qd d->Q u H')->r v w H Q
def dOp (g:G2) (ta tb:DE)  (ρ:List Sl) (Q:PyData->List Sl->Prop):Prop:=ta ρ fun a ρ1=>tb ρ1 fun b ρ2=>g a b fun d=>Q d ρ2
theorem B1r {r:R2} {g:G2} {ta tb:DE} (hg:O2 C r g) {σ:St} {H:Hp} {Q:VK} (h:eOf C (dOp g ta tb) σ H Q):tOp r (eOf C ta) (eOf C tb) σ H Q:=by
 obtain⟨ρ,P,Qd,R,ht,k⟩:=h
 exact⟨ρ,P,_,R,ht,fun v a ρ1 H1 R1 h1=>⟨ρ1,_,_,R1,h1,fun w b ρ2 H2 R2 h2=>hg R2 h2 fun u d H' R' q=>k u d ρ2 H' R' q⟩⟩
variable {a b:Expr} {ta tb:DE} {pos:Pos}
theorem E9 {op:Operator} {r:R2} {g:G2} (ho:OpR X (binaryOp op) r) (hg:O2 C r g) (ha:PE X a (eOf C ta)) (hb:PE X b (eOf C tb)):PE X (.BinOp a op b pos) (eOf C (dOp g ta tb)):=PE.wk (M8 ho ha hb) fun _ _ _ h=>B1r hg h
theorem c8 {op:CmpOp} {r:R2} {g:G2} (ho:OpR X (compareOp op) r) (hg:O2 C r g) (ha:PE X a (eOf C ta)) (hb:PE X b (eOf C tb)) (hm:behindInMarks op b=false):PE X (.Compare a [op] [b] pos) (eOf C (dOp g ta tb)):=PE.wk (A8p ho ha hb hm) fun _ _ _ h=>B1r hg h
def dT (t:DE)  (ρ:List Sl) (Q:Bool->List Sl->Prop):Prop:=t ρ fun d ρ'=>match d with
 | .bool b=>Q b ρ'
 | _=>False
theorem A84 {t:DE} {σ:St} {H:Hp} {Q:Bool->Hp->Prop} (h:cOf C (dT t) σ H Q):eOf C t σ H fun x H'=>∃k,x=.bl k/\Q k H':=by
 obtain⟨ρ,P,Qd,R,ht,k⟩:=h
 refine⟨ρ,P,_,R,ht,fun v d ρ' H' R' q=>?_⟩
 split at q
 ·obtain⟨col,r⟩:=R'
  have t:=r.pd _ B2
  cases (show ThV (Z col) H' v (.bool _) from t)
  exact⟨_,rfl,k _ _ _ (Rel.pop ⟨col,r⟩) q⟩
 ·exact q.elim
theorem A0c {e:Expr} {t:DE} (h:PE X e (eOf C t)) (he:∀whole,isTrue e X.env whole=(do let v <-whole;standAt e.pos;holding [v] (truthy v)):=by intro _;rfl):PT X e (cOf C (dT t)):=PT.wk (B0u h he) fun _ _ _ h=>A84 h
theorem F6 {op:CmpOp} {r:R2} {g:G2} (ho:OpR X (compareOp op) r) (hg:O2 C r g) (ha:PE X a (eOf C ta)) (hb:PE X b (eOf C tb)) (hm:behindInMarks op b=false):PT X (.Compare a [op] [b] pos) (cOf C (dT (dOp g ta tb))):=
 PT.wk (W8 ho ha hb hm) fun σ H Q h=>B1r hg (A84 h)
def A1p (t:DT)  (ρ:List Sl) (Q:Bool->List Sl->Prop):Prop:=t ρ fun b ρ'=>Q (!b) ρ'
theorem B1s {t:DT} (h:PT X a (cOf C t)):PT X (.UnaryOp .Not a pos) (cOf C (A1p t)):=PT.wk (B0w h) fun _ _ _ zz5=>el3 zz5 fun ρ P _ R ht k=>⟨ρ,P,_,R,ht,fun b ρ' H' R' q=>k _ _ _ R' q⟩
def A1q (t u:DT)  (ρ:List Sl) (Q:Bool->List Sl->Prop):Prop:=t ρ fun b ρ'=>if b=true then u ρ' Q else Q false ρ'
def dOr (t u:DT)  (ρ:List Sl) (Q:Bool->List Sl->Prop):Prop:=t ρ fun b ρ'=>if b=true then Q true ρ' else u ρ' Q
variable {t u:DT} {M1:List Expr}
theorem A60 (h:PT X a (cOf C t)):PW X (.BoolOp .And [a] pos) (cOf C t):=B5p h
theorem A85 (h:PT X a (cOf C t)):PW X (.BoolOp .Or [a] pos) (cOf C t):=B0v h
theorem A61 (ha:PT X a (cOf C t)) (hb:PW X (.BoolOp .And (b::M1) pos) (cOf C u)):PW X (.BoolOp .And (a::b::M1) pos) (cOf C (A1q t u)):=PW.wk (B5q ha hb) fun _ _ _ zz6=>el3 zz6 fun ρ P Qd R ht k=>
 ⟨ρ,P,_,R,ht,fun b ρ' H' R' q=>by
  cases b with
  | true=>exact⟨ρ',P,Qd,R',by simpa using q,k⟩
  | false=>exact k _ _ _ R' (by simpa using q)⟩
theorem A62 (ha:PT X a (cOf C t)) (hb:PW X (.BoolOp .Or (b::M1) pos) (cOf C u)):PW X (.BoolOp .Or (a::b::M1) pos) (cOf C (dOr t u)):=PW.wk (A6l ha hb) fun _ _ _ zz7=>el3 zz7 fun ρ P Qd R ht k=>
 ⟨ρ,P,_,R,ht,fun b ρ' H' R' q=>by
  cases b with
  | true=>exact k _ _ _ R' (by simpa using q)
  | false=>exact⟨ρ',P,Qd,R',by simpa using q,k⟩⟩
def dBV (t:DE) (f:Bool->List Sl->Prop)  (ρ:List Sl):Prop:=t ρ fun d ρ'=>match d with
 | .bool b=>f b ρ'
 | _=>False
def A1r (ta tb:DE)  (ρ:List Sl) (Q:PyData->List Sl->Prop):Prop:=dBV ta (fun b ρ'=>if b=true then tb ρ' Q else Q (.bool false) ρ') ρ
def A1s (ta tb:DE)  (ρ:List Sl) (Q:PyData->List Sl->Prop):Prop:=dBV ta (fun b ρ'=>if b=true then Q (.bool true) ρ' else tb ρ' Q) ρ
def A1t (ta:DE)  (ρ:List Sl) (Q:PyData->List Sl->Prop):Prop:=dBV ta (fun b ρ'=>Q (.bool (!b)) ρ') ρ
theorem B1t {f:Bool->List Sl->Prop} {ρ:List Sl} {σ:St} {P:List Pe} {H:Hp} {Q:VK} (R:Rel C ρ σ P H) (ht:dBV ta f ρ) (k:∀c ρ' H',Rel C ρ' σ P H'->f c ρ'->Q (.bl c) H'):eOf C ta σ H Q:=by
 refine⟨ρ,P,_,R,ht,fun v d ρ' H' R' q=>?_⟩
 split at q
 ·obtain⟨col,r⟩:=R'
  have t:=r.pd _ B2
  cases (show ThV (Z col) H' v (.bool _) from t)
  exact k _ _ _ (Rel.pop ⟨col,r⟩) q
 ·exact q.elim
theorem A1u {op} (h:PE X a (eOf C ta)):PE X (.BoolOp op [a] pos) (eOf C ta):=A8g h
theorem A30 (ha:PE X a (eOf C ta)) (hb:PE X (.BoolOp .And (b::M1) pos) (eOf C tb)):PE X (.BoolOp .And (a::b::M1) pos) (eOf C (A1r ta tb)):=PE.wk (A8h ha hb) fun _ _ _ zz8=>el3 zz8 fun _ P Qd R ht k=>
 B1t R ht fun c ρ' H' R' q=>⟨c,rfl,by
  cases c with
  | true=>exact L5 ⟨ρ',P,Qd,R',by simpa using q,k⟩
  | false=>
   obtain⟨col,r⟩:=R'
   exact M4 (k _ _ _ _ ⟨col,r.push (.bl false)⟩ (by simpa using q))⟩
theorem C4j (ha:PE X a (eOf C ta)) (hb:PE X (.BoolOp .Or (b::M1) pos) (eOf C tb)):PE X (.BoolOp .Or (a::b::M1) pos) (eOf C (A1s ta tb)):=PE.wk (C2e ha hb) fun _ _ _ zz9=>el3 zz9 fun _ P Qd R ht k=>
 B1t R ht fun c ρ' H' R' q=>⟨c,rfl,by
  cases c with
  | true=>
   obtain⟨col,r⟩:=R'
   exact L5 (k _ _ _ _ ⟨col,r.push (.bl true)⟩ (by simpa using q))
  | false=>exact M4 ⟨ρ',P,Qd,R',by simpa using q,k⟩⟩
theorem B64 (ha:PE X a (eOf C ta)):PE X (.UnaryOp .Not a pos) (eOf C (A1t ta)):=PE.wk (C2f ha) fun _ _ _ zz10=>el3 zz10 fun _ _ _ R ht k=>
 B1t R ht fun c ρ' H' zz11 q=>zz11.elim fun col r=>⟨c,rfl,k _ _ _ _ ⟨col,r.push (.bl _)⟩ q⟩
def A1v (ta:DE)  (ρ:List Sl) (Q:PyData->List Sl->Prop):Prop:=ta ρ fun d ρ'=>match d with
 | .int i=>Q (.int (-i)) ρ'
 | _=>False
theorem A0d (ha:PE X a (eOf C ta)):PE X (.UnaryOp .USub a pos) (eOf C (A1v ta)):=PE.wk (C2u C2v ha) fun _ _ _ zz12=>el3 zz12 fun ρ P _ R ht k=>⟨ρ,P,_,R,ht,fun v d ρ' H' R' q=>by
 split at q
 ·obtain⟨col,r⟩:=R'
  have t:=r.pd _ B2
  cases (show ThV (Z col) H' v (.int _) from t)
  exact⟨_,rfl,k _ _ _ _ ⟨col,(r.sub fun _ h=>A9 _ h).push (.int _)⟩ q⟩
 ·exact q.elim⟩
def dIf (c:DT) (ta tb:DE)  (ρ:List Sl) (Q:PyData->List Sl->Prop):Prop:=c ρ fun b ρ'=>if b=true then ta ρ' Q else tb ρ' Q
theorem A31 {c:Expr} (hc:PT X c (cOf C t)) (ha:PE X a (eOf C ta)) (hb:PE X b (eOf C tb)):PE X (.IfExp c a b pos) (eOf C (dIf t ta tb)):=PE.wk (C2g hc ha hb) fun _ _ _ zz13=>el3 zz13 fun ρ P Qd R ht k=>
 ⟨ρ,P,_,R,ht,fun b ρ' H' R' q=>by
  cases b with
  | true=>exact L5 ⟨ρ',P,Qd,R',by simpa using q,k⟩
  | false=>exact M4 ⟨ρ',P,Qd,R',by simpa using q,k⟩⟩
def m6 (g g':G2) (ta tb tc:DE)  (ρ:List Sl) (Q:PyData->List Sl->Prop):Prop:=ta ρ fun a ρ1=>tb ρ1 fun b ρ2=>g a b fun z=>match z with
 | .bool k=>if k=true then tc ρ2 fun c ρ3=>g' b c fun d=>Q d ρ3 else Q (.bool false) ρ2
 | _=>False
end
def gI (c:Int->Int->Prop) (f:Int->Int->PyData)  (a b:PyData) (Q:PyData->Prop):Prop:=match a,b with
 | .int i,.int j=>c i j/\Q (f i j)
 | _,_=>False
def gI0 (f:Int->Int->PyData)  (a b:PyData) (Q:PyData->Prop):Prop:=match a,b with
 | .int i,.int j=>Q (f i j)
 | _,_=>False
section
variable {C:DC} {X:Cx}
theorem th2 {ρ:List Sl} {σ:St} {P:List Pe} {H:Hp} {v w:V} {a b:PyData} (r:Rel C ρ σ (.v w b::.v v a::P) H):∃col,B9 C col ρ σ P H/\ThV (Z col) H v a/\ThV (Z col) H w b:=by
 obtain⟨col,r⟩:=r
 exact⟨col,r.sub fun _ h=>A9 _ (A9 _ h),r.pd _ (A9 _ B2),r.pd _ B2⟩
theorem A1w {f:Int->Int->V} {g:Int->Int->PyData} (h:∀i j F H,ThV F H (f i j) (g i j)):O2 C (rI0 f) (gI0 g):=by
 intro ρ σ P H v w a b Qd Q R hg k
 unfold gI0 at hg
 split at hg
 ·obtain⟨col,r,t1,t2⟩:=th2 R
  cases t1;cases t2
  exact⟨_,_,rfl,rfl,k _ _ _ ⟨col,r.push (h _ _ _ _)⟩ hg⟩
 ·exact hg.elim
theorem A63 {c:Int->Int->Prop} {f:Int->Int->V} {g:Int->Int->PyData} (h:∀i j F H,ThV F H (f i j) (g i j)):O2 C (rI c f) (gI c g):=by
 intro ρ σ P H v w a b Qd Q R hg k
 unfold gI at hg
 split at hg
 ·obtain⟨col,r,t1,t2⟩:=th2 R
  cases t1;cases t2
  exact⟨_,_,rfl,rfl,hg.1,k _ _ _ ⟨col,r.push (h _ _ _ _)⟩ hg.2⟩
 ·exact hg.elim
def A1x:G2:=gI0 fun i j=>.int (i + j)
def A1y:G2:=gI0 fun i j=>.int (i - j)
def A1z:G2:=gI A6q fun i j=>.int (i * j)
def A10:G2:=gI (fun _ j=>0 < j) fun i j=>.int (i % j)
def A11:G2:=gI B1k fun i j=>.int (i / j)
def A12:G2:=gI A3t fun i j=>.int (i ^ j.toNat)
def gLt:G2:=gI0 fun i j=>.bool (decide (i < j))
def gLe:G2:=gI0 fun i j=>.bool (decide (i<=j))
def gGt:G2:=gI0 fun i j=>.bool (decide (j < i))
def gGe:G2:=gI0 fun i j=>.bool (decide (j<=i))
theorem P9:O2 C (rI0 (fun i j=>.int (i + j))) A1x:=A1w (f:=fun i j=>.int (i + j)) fun _ _ _ _=>.int _
theorem A86:O2 C (rI0 (fun i j=>.int (i - j))) A1y:=A1w (f:=fun i j=>.int (i - j)) fun _ _ _ _=>.int _
theorem C4k:O2 C (rI A6q (fun i j=>.int (i * j))) A1z:=A63 (f:=fun i j=>.int (i * j)) fun _ _ _ _=>.int _
theorem B65:O2 C (rI (fun _ j=>0 < j) (fun i j=>.int (i % j))) A10:=A63 (f:=fun i j=>.int (i % j)) fun _ _ _ _=>.int _
theorem B66:O2 C (rI B1k (fun i j=>.int (i / j))) A11:=A63 (f:=fun i j=>.int (i / j)) fun _ _ _ _=>.int _
theorem A87:O2 C (rI A3t (fun i j=>.int (i ^ j.toNat))) A12:=A63 (f:=fun i j=>.int (i ^ j.toNat)) fun _ _ _ _=>.int _
theorem A64:O2 C (rI0 (fun i j=>.bl (decide (i < j)))) gLt:=A1w (f:=fun i j=>.bl (decide (i < j))) fun _ _ _ _=>.bl _
theorem A32:O2 C (rI0 (fun i j=>.bl (decide (j < i)))) gGt:=A1w (f:=fun i j=>.bl (decide (j < i))) fun _ _ _ _=>.bl _
theorem B1u:O2 C (rI0 (fun i j=>.bl (decide (j<=i)))) gGe:=A1w (f:=fun i j=>.bl (decide (j<=i))) fun _ _ _ _=>.bl _
def gEq (neg:Bool)  (a b:PyData) (Q:PyData->Prop):Prop:=a.canLay0=true/\b.canLay0=true/\min a.depth b.depth<=64/\Q (.bool (if neg then !PyData.eqv a b else PyData.eqv a b))
theorem N5 {K:A7} {neg:Bool}:O2 C (B1n K neg) (gEq neg):=by
 intro ρ σ P H v w a b Qd Q R hg k
 obtain⟨col,r,t1,t2⟩:=th2 R
 exact⟨a,b,t1.dat hg.1,t2.dat hg.2.1,hg.1,hg.2.1,hg.2.2.1,k _ _ _ ⟨col,r.push (.bl _)⟩ hg.2.2.2⟩
def isN:PyData->Bool
 | .none=>true
 | _=>false
def j4 (neg:Bool)  (a b:PyData) (Q:PyData->Prop):Prop:=match b with
 | .none=>Q (.bool (if neg then !isN a else isN a))
 | _=>False
theorem B67 {F:Addr->Prop} {H:Hp} {v:V} {a:PyData} (t:ThV F H v a):decide (v=V.non)=isN a:=by
 cases t <;> simp [isN]
theorem A0e:O2 C (fun x y H Q=>y=.non/\Q (.bl (decide (x=.non))) H) (j4 false):=by
 intro ρ σ P H v w a b Qd Q R hg k
 unfold j4 at hg
 split at hg
 ·obtain⟨col,r,t1,t2⟩:=th2 R
  cases t2
  refine⟨rfl,k _ _ _ ⟨col,r.push (d:=.bool (isN a)) ?_⟩ hg⟩
  rw[B67 t1];exact .bl _
 ·exact hg.elim
theorem m7:O2 C (fun x y H Q=>y=.non/\Q (.bl (!decide (x=.non))) H) (j4 true):=by
 intro ρ σ P H v w a b Qd Q R hg k
 unfold j4 at hg
 split at hg
 ·obtain⟨col,r,t1,t2⟩:=th2 R
  cases t2
  refine⟨rfl,k _ _ _ ⟨col,r.push (d:=.bool (!isN a)) ?_⟩ hg⟩
  rw[B67 t1];exact .bl _
 ·exact hg.elim
end
section
variable {X:Cx} {C:DC} {a b c:Expr} {ta tb tc:DE} {pos:Pos}
theorem B68 {f f':Int->Int->Bool} {σ:St} {H:Hp} {Q:VK} (h:eOf C (m6 (gI0 fun i j=>.bool (f i j)) (gI0 fun i j=>.bool (f' i j)) ta tb tc) σ H Q) :
  B06 (rI0 fun i j=>.bl (f i j)) (rI0 fun i j=>.bl (f' i j)) (eOf C ta) (eOf C tb) (eOf C tc) σ H Q:=by
 obtain⟨ρ,P,Qd,R,ht,k⟩:=h
 exact⟨ρ,P,_,R,ht,fun v x ρ1 H1 R1 h1=>⟨ρ1,_,_,R1,h1,fun w y ρ2 H2 R2 h2=>by
  obtain⟨col,r,t1,t2⟩:=th2 R2
  cases x with
  | int i=>
   cases y with
   | int j=>
    cases t1;cases t2
    refine⟨i,j,rfl,rfl,f i j,rfl,?_⟩
    have h2':if f i j=true then tc ρ2 (fun c ρ3=>gI0 (fun i j=>.bool (f' i j)) (.int j) c fun d=>Qd d ρ3) else Qd (.bool false) ρ2:=h2
    cases e:f i j with
    | true=>
     rw[e] at h2'
     refine L5 ⟨ρ2,P,_,⟨col,r⟩,by simpa using h2',fun u z ρ3 H3 R3 h3=>?_⟩
     obtain⟨col3,r3⟩:=R3
     have t3:=r3.pd _ B2
     cases z with
     | int l=>
      cases (show ThV (Z col3) H3 u (.int l) from t3)
      exact⟨j,l,rfl,rfl,k _ _ _ _ ⟨col3,(r3.sub fun _ h=>A9 _ h).push (.bl _)⟩ h3⟩
     | _=>exact h3.elim
    | false=>
     rw[e] at h2'
     exact M4 (k _ _ _ _ ⟨col,r.push (.bl false)⟩ (by simpa using h2'))
   | _=>exact h2.elim
  | _=>exact h2.elim⟩⟩
theorem C4l {op op':CmpOp} {f f':Int->Int->Bool} (ho:OpR X (compareOp op) (rI0 fun i j=>.bl (f i j))) (ho':OpR X (compareOp op') (rI0 fun i j=>.bl (f' i j))) (ha:PE X a (eOf C ta)) (hb:PE X b (eOf C tb)) (hc:PE X c (eOf C tc))
  (hm:lastMarks [op,op'] [b,c]=false:=by with_unfolding_all rfl):PE X (.Compare a [op,op'] [b,c] pos) (eOf C (m6 (gI0 fun i j=>.bool (f i j)) (gI0 fun i j=>.bool (f' i j)) ta tb tc)):=PE.wk (C2x ho ho' ha hb hc hm) fun _ _ _ h=>B68 h
theorem C4m {op op':CmpOp} {f f':Int->Int->Bool} (ho:OpR X (compareOp op) (rI0 fun i j=>.bl (f i j))) (ho':OpR X (compareOp op') (rI0 fun i j=>.bl (f' i j))) (ha:PE X a (eOf C ta)) (hb:PE X b (eOf C tb)) (hc:PE X c (eOf C tc))
  (hm:lastMarks [op,op'] [b,c]=false:=by with_unfolding_all rfl):PT X (.Compare a [op,op'] [b,c] pos) (cOf C (dT (m6 (gI0 fun i j=>.bool (f i j)) (gI0 fun i j=>.bool (f' i j)) ta tb tc))):=PT.wk (C2y ho ho' ha hb hc hm) fun _ _ _ h=>B68 (A84 h)
end
section
variable {X:Cx} {C:DC} {e a b:Expr} {es:List Expr} {t ta tb:DE} {u:DF} {pos:Pos}
theorem B69 {P P':List Pe} {x:Pe} (h:∀p∈P,p∈P'):∀p∈x::P,p∈x::P':=fun p hp=>(N2.mp hp).elim (fun e=>e▸B2) fun hp=>A9 _ (h p hp)
def A13  (ρ:List Sl) (Q:List PyData->List Sl->Prop):Prop:=Q [] ρ
def A14 (t:DE) (u:DF)  (ρ:List Sl) (Q:List PyData->List Sl->Prop):Prop:=t ρ fun d ρ1=>u ρ1 fun ds ρ2=>Q (d::ds) ρ2
theorem C1:PA X [] (vOf C A13):=PA.wk C6 fun _ _ _ zz1=>el3 zz1 fun _ _ _ R ht k=>k [] [] _ _ _ R (fun _ h=>h) .nil ht
theorem A5 (ha:PE X e (eOf C t)) (hr:PA X es (vOf C u)) (hs:starEach (e::es) X.env=(false,eval e X.env)::starEach es X.env:=by rfl):PA X (e::es) (vOf C (A14 t u)):=PA.wk (B3 ha hr hs) fun _ _ _ zz2=>el3 zz2 fun ρ P _ R ht k=>
 ⟨ρ,P,_,R,ht,fun _ _ ρ1 _ R1 h1=>⟨ρ1,_,_,R1,h1,fun _ _ _ _ _ R2 s2 p2 h2=>k _ _ _ _ _ R2 (fun p hp=>s2 p (A9 _ hp)) (.cons (s2 _ B2) p2) h2⟩⟩
def A15 (t:DF)  (ρ:List Sl) (Q:PyData->List Sl->Prop):Prop:=t ρ fun ds ρ'=>ds.length<=1000/\Q (.tuple ds) ρ'
theorem O3 {x1} (h:PA X es (vOf C u)):PE X (.Tuple es x1 pos) (eOf C (A15 u)):=PE.wk (A6s h) fun _ _ _ zz3=>el3 zz3 fun ρ P _ R ht k=>⟨ρ,P,_,R,ht,fun vs ds ρ' P' H' zz4 s p q=>zz4.elim fun col r=>
 ⟨by rw[(p.th r).len];exact A6a (A6v q.1),fun b hb=>k _ _ _ _ ⟨col,(r.tup (p.th r) hb).sub (B69 s)⟩ q.2⟩⟩
def A16 (t:DF)  (ρ:List Sl) (Q:List PyData->List Sl->Prop):Prop:=t ρ fun ds ρ'=>ds.length<=1000/\Q ds ρ'
theorem G5 (h:PA X es (vOf C u)):PE X (.List es pos) (fOf C (A16 u)):=PE.wk (B08 h) fun _ _ _ zz5=>el3 zz5 fun ρ P _ R ht k=>⟨ρ,P,_,R,ht,fun vs ds ρ' P' H' zz6 s p q=>zz6.elim fun col r=>
 ⟨by rw[(p.th r).len];exact A6a (A6v q.1),fun b hb=>k _ _ _ _ _ ⟨col,r.sub s,p.th r⟩ hb q.2⟩⟩
def dF (t:DF)  (ρ:List Sl) (Q:PyData->List Sl->Prop):Prop:=t ρ fun ds ρ'=>Q (.list ds) ρ'
theorem E1 (h:PE X e (fOf C u)):PE X e (eOf C (dF u)):=PE.wk h fun _ _ _ zz7=>el3 zz7 fun ρ P _ R ht k=>⟨ρ,P,_,R,ht,fun _ _ _ _ _ zz8 hp q=>el2 zz8 fun col r t=>k _ _ _ _ ⟨col,r.lst t hp⟩ q⟩
def ixD (a b:PyData):Option PyData:=match a,b with
 | .list xs,.int i=>atI xs i
 | .tuple xs,.int i=>atI xs i
 | _,_=>none
theorem B7a {F:Addr->Prop} {H:Hp} {vs:List V} {ds:List PyData} {i:Int} {d:PyData} (t:A6 F H vs ds) (h:atI ds i=some d):∃v,atI vs i=some v/\ThV F H v d:=by
 unfold atI at h ⊢
 rw[t.len]
 cases q:ixN ds.length i with
 | none=>rw[q] at h;cases h
 | some j=>
  rw[q] at h
  exact t.at h
theorem B7b {K:A7} {col:Addr->Nat} {H:Hp} {v w:V} {a b d:PyData} (t1:Red col H v a) (t2:ThV (Z col) H w b) (h:ixD a b=some d):∃u,ThV (Z col) H u d/\∀Q:VK,Q u H->rIx K v w H Q:=by
 unfold ixD at h
 split at h
 ·cases t2
  obtain⟨p,vs,rfl,e,t⟩:=t1.lst
  obtain⟨u,hu,tu⟩:=B7a t h
  exact⟨u,tu,fun Q q=>.inl ⟨p,vs,_,u,rfl,rfl,SqL.of e,hu,q⟩⟩
 ·cases t2
  obtain⟨p,vs,rfl,e,t⟩:=t1.tup
  obtain⟨u,hu,tu⟩:=B7a t h
  exact⟨u,tu,fun Q q=>.inr (.inl ⟨p,vs,_,u,rfl,rfl,SqT.of e,hu,q⟩)⟩
 ·cases h
def dIx (ta tb:DE)  (ρ:List Sl) (Q:PyData->List Sl->Prop):Prop:=ta ρ fun a ρ1=>tb ρ1 fun b ρ2=>bnd (ixD a b) fun d=>Q d ρ2
theorem K0 (ha:PE X a (eOf C ta)) (hb:PE X b (eOf C tb)) (hs:B1b b):PE X (.Subscript a b pos) (eOf C (dIx ta tb)):=PE.wk (K4 A1i ha hb hs) fun _ _ _ zz9=>el3 zz9 fun ρ P _ R ht k=>⟨ρ,P,_,R,ht,fun v _ ρ1 H1 R1 h1=>⟨ρ1,_,_,R1,h1,fun w _ ρ2 H2 R2 h2=>by
 obtain⟨d,hd,q⟩:=J2 h2
 obtain⟨col,r,t1,t2⟩:=th2 R2
 obtain⟨u,tu,f⟩:=B7b (K:=X.K) (.th t1) t2 hd
 exact f _ (k _ _ _ _ ⟨col,r.push tu⟩ q)⟩⟩
def A17 (i:Nat) (tb:DE)  (ρ:List Sl) (Q:PyData->List Sl->Prop):Prop:=bnd (N4 ρ i) fun _=>tb ρ fun b ρ2=>bnd (N4 ρ2 i) fun a=>bnd (ixD a b) fun d=>Q d ρ2
theorem B5 {i:Nat} (ha:PE X a (Q2 i)) (hb:PE X b (eOf C tb)) (hs:B1b b):PE X (.Subscript a b pos) (eOf C (A17 i tb)):=PE.wk (K4 A1i ha hb hs) fun σ H Q zz10=>el3 zz10 fun ρ P Qd zz11 ht k=>zz11.elim fun col0 r0=>by
 obtain⟨_,h0,ht⟩:=J2 ht
 obtain⟨v,ev,_⟩:=r0.slot h0
 refine⟨v,ev,ρ,P,_,⟨col0,r0⟩,ht,fun w b ρ2 H2 R2 h2=>?_⟩
 obtain⟨a,ha,h2⟩:=J2 h2
 obtain⟨d,hd,q⟩:=J2 h2
 obtain⟨col,r⟩:=R2
 obtain⟨v',ev',t1⟩:=r.slot ha
 rw[ev] at ev'
 cases ev'
 obtain⟨u,tu,f⟩:=B7b (K:=X.K) t1 (r.pd _ B2) hd
 exact f _ (k _ _ _ _ ⟨col,(r.sub fun _ h=>A9 _ h).push tu⟩ q)
def m8 (C:DC) (r:List V->Hp->VK->Prop) (g:List PyData->(PyData->Prop)->Prop):Prop:=
 ∀{ρ:List Sl} {σ:St} {P:List Pe} {col:Addr->Nat} {H:Hp} {vs:List V} {ds:List PyData} {Qd:PyData->Prop} {Q:VK},B9 C col ρ σ P H->A6 (Z col) H vs ds->g ds Qd->(∀u d H',Rel C ρ σ (.v u d::P) H'->Qd d->Q u H')->r vs H Q
def dCb (g:List PyData->(PyData->Prop)->Prop) (u:DF)  (ρ:List Sl) (Q:PyData->List Sl->Prop):Prop:=u ρ fun ds ρ'=>g ds fun d=>Q d ρ'
theorem S8 {r:List V->Hp->VK->Prop} {g:List PyData->(PyData->Prop)->Prop} (hr:m8 C r g) (h:PE X e (tCB r (vOf C u))):PE X e (eOf C (dCb g u)):=PE.wk h fun _ _ _ zz12=>el3 zz12 fun ρ P _ R ht k=>⟨ρ,P,_,R,ht,fun vs ds ρ' P' H' zz13 s p q=>zz13.elim fun col r=>
 hr (r.sub s) (p.th r) q fun u d H2 R2 q2=>k _ _ _ _ R2 q2⟩
theorem A33 {F:Addr->Prop} {H:Hp} {vs:List V} {d:PyData} (t:A6 F H vs [d]):∃v,vs=[v]/\ThV F H v d:=by
 cases t with
 | cons x y=>cases y;exact⟨_,rfl,x⟩
theorem B1v {F:Addr->Prop} {H:Hp} {vs:List V} {d d':PyData} (t:A6 F H vs [d,d']):∃v w,vs=[v,w]/\ThV F H v d/\ThV F H w d':=by
 cases t with
 | cons x y=>
  obtain⟨w,rfl,z⟩:=A33 y
  exact⟨_,w,rfl,x,z⟩
def lenD:PyData->Option Nat
 | .list xs=>some xs.length
 | .tuple xs=>some xs.length
 | _=>none
def A0f  (ds:List PyData) (Q:PyData->Prop):Prop:=match ds with
 | [d]=>bnd (lenD d) fun n=>Q (.int n)
 | _=>False
abbrev B1w (K:A7):List V->Hp->VK->Prop:=fun xs H Q=>∃p ys,xs=[.ref p]/\(SqL K H p ys\/SqT K H p ys)/\Q (.int ys.length) H
theorem B7c {K:A7} {col:Addr->Nat} {H:Hp} {v:V} {a:PyData} {n:Nat} {Q:VK} (t:Red col H v a) (h:lenD a=some n) (q:Q (.int n) H):B1w K [v] H Q:=by
 cases a with
 | list ds=>
  cases h
  obtain⟨p,vs,rfl,e,t⟩:=t.lst
  exact⟨p,vs,rfl,.inl (SqL.of e),by rw[t.len];exact q⟩
 | tuple ds=>
  cases h
  obtain⟨p,vs,rfl,e,t⟩:=t.tup
  exact⟨p,vs,rfl,.inr (SqT.of e),by rw[t.len];exact q⟩
 | _=>cases h
theorem B7d {K:A7}:m8 C (B1w K) A0f:=by
 intro ρ σ P col H vs ds Qd Q r t g k
 unfold A0f at g
 split at g
 ·obtain⟨v,rfl,t1⟩:=A33 t
  obtain⟨n,hn,q⟩:=J2 g
  exact B7c (.th t1) hn (k _ _ _ ⟨col,r.push (.int _)⟩ q)
 ·exact g.elim
def A18 (i:Nat)  (ρ:List Sl) (Q:PyData->List Sl->Prop):Prop:=bnd (N4 ρ i) fun a=>bnd (lenD a) fun n=>Q (.int n) ρ
theorem X1 {i:Nat} {K:A7} (h:PE X e (tCB (B1w K) (W9 (Q2 i) Z0))):PE X e (eOf C (A18 i)):=PE.wk h fun _ _ _ zz14=>el3 zz14 fun ρ P _ zz15 ht k=>zz15.elim fun col r=>by
 obtain⟨a,ha,ht⟩:=J2 ht
 obtain⟨n,hn,q⟩:=J2 ht
 obtain⟨v,ev,t⟩:=r.slot ha
 exact⟨v,ev,B7c t hn (k _ _ _ _ ⟨col,r.push (.int _)⟩ q)⟩
def gI2 (f:Int->Int->Int)  (ds:List PyData) (Q:PyData->Prop):Prop:=match ds with
 | [.int i,.int j]=>Q (.int (f i j))
 | _=>False
theorem B7e {f:Int->Int->Int}:m8 C (fun xs H Q=>∃i j,xs=[.int i,.int j]/\Q (.int (f i j)) H) (gI2 f):=by
 intro ρ σ P col H vs ds Qd Q r t g k
 unfold gI2 at g
 split at g
 ·obtain⟨v,w,rfl,t1,t2⟩:=B1v t
  cases t1;cases t2
  exact⟨_,_,rfl,k _ _ _ ⟨col,r.push (.int _)⟩ g⟩
 ·exact g.elim
def A19:=gI2 fun i j=>if j < i then j else i
def A2a:=gI2 fun i j=>if j > i then j else i
theorem A2b:m8 C (fun xs H Q=>∃i j,xs=[.int i,.int j]/\Q (.int (if j < i then j else i)) H) A19:=B7e (f:=fun i j=>if j < i then j else i)
theorem B7f:m8 C (fun xs H Q=>∃i j,xs=[.int i,.int j]/\Q (.int (if j > i then j else i)) H) A2a:=B7e (f:=fun i j=>if j > i then j else i)
def A34  (ds:List PyData) (Q:PyData->Prop):Prop:=match ds with
 | [.int i]=>Q (.int (if i < 0 then -i else i))
 | _=>False
def A0g  (ds:List PyData) (Q:PyData->Prop):Prop:=match ds with
 | [.int i]=>Q (.int i)
 | [.bool b]=>Q (.int (if b then 1 else 0))
 | _=>False
theorem B7g:m8 C (fun xs H Q=>(∃i,xs=[.int i]/\Q (.int i) H)\/∃k,xs=[.bl k]/\Q (.int (if k then 1 else 0)) H) A0g:=by
 intro ρ σ P col H vs ds Qd Q r t g k
 unfold A0g at g
 split at g
 ·obtain⟨v,rfl,t1⟩:=A33 t
  cases t1
  exact .inl ⟨_,rfl,k _ _ _ ⟨col,r.push (.int _)⟩ g⟩
 ·obtain⟨v,rfl,t1⟩:=A33 t
  cases t1
  exact .inr ⟨_,rfl,k _ _ _ ⟨col,r.push (.int _)⟩ g⟩
 ·exact g.elim
def A2c:List PyData->Option (List Bool)
 | []=>some []
 | .bool b::r=>(A2c r).map (b::·)
 | _::_=>none
theorem C4n {F:Addr->Prop} {H:Hp} {ds:List PyData} {vs:List V} {bs:List Bool} (t:A6 F H vs ds) (h:A2c ds=some bs):vs=bs.map V.bl:=by
 induction ds generalizing vs bs with
 | nil=>cases t;cases h;rfl
 | cons d r ih=>
  cases t with
  | cons x y=>
   cases x with
   | bl b=>
    have h':(A2c r).map (b::·)=some bs:=h
    cases q:A2c r with
    | none=>rw[q] at h';cases h'
    | some cs=>
     rw[q] at h'
     cases h'
     rw[ih y q];rfl
   | _=>cases h
def gBs (f:List Bool->Bool)  (ds:List PyData) (Q:PyData->Prop):Prop:=match ds with
 | [.list xs]=>bnd (A2c xs) fun bs=>Q (.bool (f bs))
 | _=>False
theorem B7h {K:A7} {f:List Bool->Bool}:m8 C (fun xs H Q=>∃(p:Addr) (bs:List Bool),xs=[.ref p]/\SqL K H p (bs.map V.bl)/\Q (.bl (f bs)) H) (gBs f):=by
 intro ρ σ P col H vs ds Qd Q r t g k
 unfold gBs at g
 split at g
 ·obtain⟨bs,hb,q⟩:=J2 g
  obtain⟨v,rfl,t1⟩:=A33 t
  cases t1 with
  | lst _ e t2=>
   have z:=C4n t2 hb
   subst z
   exact⟨_,bs,rfl,SqL.of e,k _ _ _ ⟨col,r.push (.bl _)⟩ q⟩
 ·exact g.elim
def A2d:=gBs fun bs=>bs.all id
def A2e:=gBs fun bs=>bs.any id
theorem B1x {K:A7}:m8 C (fun xs H Q=>∃(p:Addr) (bs:List Bool),xs=[.ref p]/\SqL K H p (bs.map V.bl)/\Q (.bl (bs.all id)) H) A2d:=B7h
theorem C4o {K:A7}:m8 C (fun xs H Q=>∃(p:Addr) (bs:List Bool),xs=[.ref p]/\SqL K H p (bs.map V.bl)/\Q (.bl (bs.any id)) H) A2e:=B7h
abbrev B7i (K:A7):List V->Hp->VK->Prop:=fun xs H Q=>∃p ys,xs=[.ref p]/\(SqL K H p ys\/SqT K H p ys)/\∀l,H l=none->Q (.ref l) (upd H l (.lst ys))
def j5:PyData->Option (List PyData)
 | .list xs=>some xs
 | .tuple xs=>some xs
 | _=>none
theorem B7j {col:Addr->Nat} {H:Hp} {v:V} {a:PyData} {ds:List PyData} (t:Red col H v a) (h:j5 a=some ds):∃p vs,v=.ref p/\(H p=some (.lst vs)\/H p=some (.tup vs))/\A6 (Z col) H vs ds:=by
 cases a with
 | list ds=>
  cases h
  obtain⟨p,vs,rfl,e,t⟩:=t.lst
  exact⟨p,vs,rfl,.inl e,t⟩
 | tuple ds=>
  cases h
  obtain⟨p,vs,rfl,e,t⟩:=t.tup
  exact⟨p,vs,rfl,.inr e,t⟩
 | _=>cases h
def A2f (i:Nat)  (ρ:List Sl) (Q:List PyData->List Sl->Prop):Prop:=bnd (N4 ρ i) fun a=>bnd (j5 a) fun ds=>Q ds ρ
theorem A65 {i:Nat} {K:A7} (h:PE X e (tCB (B7i K) (W9 (Q2 i) Z0))):PE X e (fOf C (A2f i)):=PE.wk h fun _ _ _ zz16=>el3 zz16 fun ρ P _ zz17 ht k=>zz17.elim fun col r=>by
 obtain⟨a,ha,ht⟩:=J2 ht
 obtain⟨ds,hn,q⟩:=J2 ht
 obtain⟨v,ev,t⟩:=r.slot ha
 obtain⟨p,vs,rfl,e,t⟩:=B7j t hn
 exact⟨_,ev,p,vs,rfl,e.elim (fun e=>.inl (SqL.of e)) (fun e=>.inr (SqT.of e)),fun l hl=>k _ _ _ _ _ ⟨col,r,t⟩ hl q⟩
def A2g (ta:DE)  (ρ:List Sl) (Q:List PyData->List Sl->Prop):Prop:=ta ρ fun a ρ'=>bnd (j5 a) fun ds=>Q ds ρ'
theorem C4p {K:A7} (h:PE X e (tCB (B7i K) (W9 (eOf C ta) Z0))):PE X e (fOf C (A2g ta)):=PE.wk h fun _ _ _ zz18=>el3 zz18 fun ρ P _ R ht k=>⟨ρ,P,_,R,ht,fun v d ρ' H' zz19 q=>zz19.elim fun col r=>by
 obtain⟨ds,hn,q⟩:=J2 q
 obtain⟨p,vs,rfl,e,t⟩:=B7j (.th (r.pd _ B2)) hn
 exact⟨p,vs,rfl,e.elim (fun e=>.inl (SqL.of e)) (fun e=>.inr (SqT.of e)),fun l hl=>k _ _ _ _ _ ⟨col,r.sub fun _ h=>A9 _ h,t⟩ hl q⟩⟩
abbrev DO:=List Sl->(Option Int->List Sl->Prop)->Prop
def oOf (C:DC) (t:DO):TO:=fun σ H Q=>∃ρ P Qd,Rel C ρ σ P H/\t ρ Qd/\∀o ρ' H',Rel C ρ' σ P H'->Qd o ρ'->Q o H'
def oN  (ρ:List Sl) (Q:Option Int->List Sl->Prop):Prop:=Q none ρ
def oS (t:DE)  (ρ:List Sl) (Q:Option Int->List Sl->Prop):Prop:=t ρ fun d ρ'=>match d with
 | .int i=>Q (some i) ρ'
 | _=>False
theorem A2h:PO X none (oOf C oN):=PO.wk A8s fun _ _ _ zz20=>el3 zz20 fun _ _ _ R ht k=>k _ _ _ R ht
theorem m9 (h:PE X e (eOf C t)):PO X (some e) (oOf C (oS t)):=PO.wk (A8t h) fun _ _ _ zz21=>el3 zz21 fun ρ P _ R ht k=>⟨ρ,P,_,R,ht,fun v d ρ' H' R' q=>by
 split at q
 ·obtain⟨col,r⟩:=R'
  have t:=r.pd _ B2
  cases (show ThV (Z col) H' v (.int _) from t)
  exact⟨_,rfl,k _ _ _ (Rel.pop ⟨col,r⟩) q⟩
 ·exact q.elim⟩
def S9 (xs:List PyData) (lo hi:Option Int):List PyData:=(xs.drop (HT.sIx xs.length 0 lo)).take (HT.sIx xs.length xs.length hi - HT.sIx xs.length 0 lo)
theorem A6.drop {F:Addr->Prop} {H:Hp}:∀{vs:List V} {ds:List PyData} (n:Nat),A6 F H vs ds->A6 F H (vs.drop n) (ds.drop n)
 | _,_,0,h=>h
 | _,_,_ + 1,.nil=>.nil
 | _,_,n + 1,.cons _ t=>A6.drop n t
theorem A6.take {F:Addr->Prop} {H:Hp}:∀{vs:List V} {ds:List PyData} (n:Nat),A6 F H vs ds->A6 F H (vs.take n) (ds.take n)
 | _,_,0,_=>.nil
 | _,_,_ + 1,.nil=>.nil
 | _,_,n + 1,.cons x t=>.cons x (A6.take n t)
theorem B7k {F:Addr->Prop} {H:Hp} {vs:List V} {ds:List PyData} (t:A6 F H vs ds) (lo hi:Option Int):A6 F H (c6 vs lo hi) (S9 ds lo hi):=by
 unfold c6 S9
 rw[t.len]
 exact (t.drop _).take _
def K8:PyData->Option (List PyData)
 | .list xs=>some xs
 | _=>none
def A2i (i:Nat) (tl th:DO)  (ρ:List Sl) (Q:List PyData->List Sl->Prop):Prop:=bnd (N4 ρ i) fun _=>tl ρ fun lo ρ1=>th ρ1 fun hi ρ2=>bnd (N4 ρ2 i) fun a=>bnd (K8 a) fun xs=>Q (S9 xs lo hi) ρ2
theorem A35 {i:Nat} {lo hi:Option Expr} {p2:Pos} {tl th:DO} (ha:PE X a (Q2 i)) (hl:PO X lo (oOf C tl)) (hh:PO X hi (oOf C th)):PE X (.Subscript a (.Slice lo hi none p2) pos) (fOf C (A2i i tl th)):=PE.wk (A6t A6u ha hl hh) fun σ H Q zz22=>el3 zz22 fun ρ P Qd zz23 ht k=>zz23.elim fun col0 r0=>by
 obtain⟨_,h0,ht⟩:=J2 ht
 obtain⟨v,ev,_⟩:=r0.slot h0
 refine⟨v,ev,ρ,P,_,⟨col0,r0⟩,ht,fun lo ρ1 H1 R1 h1=>⟨ρ1,P,_,R1,h1,fun hi ρ2 H2 R2 h2=>?_⟩⟩
 obtain⟨a,ha,h2⟩:=J2 h2
 obtain⟨xs,hx,q⟩:=J2 h2
 obtain⟨col,r⟩:=R2
 obtain⟨v',ev',t1⟩:=r.slot ha
 rw[ev] at ev'
 cases ev'
 cases a with
 | list ds=>
  cases hx
  obtain⟨p,vs,rfl,e,t⟩:=t1.lst
  exact⟨p,vs,rfl,SqL.of e,fun b hb=>k _ _ _ _ _ ⟨col,r,B7k t lo hi⟩ hb q⟩
 | _=>cases hx
def dSl (ta:DE) (tl th:DO)  (ρ:List Sl) (Q:List PyData->List Sl->Prop):Prop:=ta ρ fun a ρ0=>tl ρ0 fun lo ρ1=>th ρ1 fun hi ρ2=>bnd (K8 a) fun xs=>Q (S9 xs lo hi) ρ2
theorem B7l {lo hi:Option Expr} {p2:Pos} {tl th:DO} (ha:PE X a (eOf C ta)) (hl:PO X lo (oOf C tl)) (hh:PO X hi (oOf C th)):PE X (.Subscript a (.Slice lo hi none p2) pos) (fOf C (dSl ta tl th)):=PE.wk (A6t A6u ha hl hh) fun σ H Q zz24=>el3 zz24 fun ρ P Qd R ht k=>
 ⟨ρ,P,_,R,ht,fun v a ρ0 H0 R0 h0=>⟨ρ0,_,_,R0,h0,fun lo ρ1 H1 R1 h1=>⟨ρ1,_,_,R1,h1,fun hi ρ2 H2 R2 h2=>by
  obtain⟨xs,hx,q⟩:=J2 h2
  obtain⟨col,r⟩:=R2
  cases a with
  | list ds=>
   cases hx
   obtain⟨p,vs,rfl,e,t⟩:=Red.lst (.th (r.pd _ B2))
   exact⟨p,vs,rfl,SqL.of e,fun b hb=>k _ _ _ _ _ ⟨col,r.sub fun _ h=>A9 _ h,B7k t lo hi⟩ hb q⟩
  | _=>cases hx⟩⟩⟩
def A2j (ta tb:DE)  (ρ:List Sl) (Q:List PyData->List Sl->Prop):Prop:=ta ρ fun a ρ1=>tb ρ1 fun b ρ2=>bnd (K8 a) fun xs=>bnd (K8 b) fun ys=>xs.length + ys.length<=100000/\Q (xs++ys) ρ2
theorem n4 (ha:PE X a (eOf C ta)) (hb:PE X b (eOf C tb)):PE X (.BinOp a .Add b pos) (fOf C (A2j ta tb)):=PE.wk (M8 C3n ha hb) fun σ H Q zz25=>el3 zz25 fun ρ P Qd R ht k=>
 ⟨ρ,P,_,R,ht,fun v a ρ1 H1 R1 h1=>⟨ρ1,_,_,R1,h1,fun w b ρ2 H2 R2 h2=>by
  obtain⟨xs,hx,h2⟩:=J2 h2
  obtain⟨ys,hy,h3,q⟩:=J2 h2
  obtain⟨col,r,t1,t2⟩:=th2 R2
  cases a with
  | list ds=>
   cases b with
   | list es=>
    cases hx;cases hy
    obtain⟨p,vs,rfl,e,t⟩:=Red.lst (.th t1)
    obtain⟨p',vs',rfl,e',t'⟩:=Red.lst (.th t2)
    exact⟨p,p',vs,vs',rfl,rfl,e,e',by rw[t.len,t'.len,sizeLine_eq];lia,fun b hb=>k _ _ _ _ _ ⟨col,r,t.append t'⟩ hb q⟩
   | _=>cases hy
  | _=>cases hx⟩⟩
def A2k (xs:List PyData) (n:Nat):List PyData:=(D9 n xs).flatten
theorem B7m {F:Addr->Prop} {H:Hp} {vs:List V} {ds:List PyData} (t:A6 F H vs ds):∀n:Nat,A6 F H (D9 n vs).flatten (A2k ds n)
 | 0=>.nil
 | n + 1=>by
  unfold A2k
  rw[S2,S2,A3f,A3f]
  exact t.append (B7m t n)
def A2l (ta tb:DE)  (ρ:List Sl) (Q:List PyData->List Sl->Prop):Prop:=ta ρ fun a ρ1=>tb ρ1 fun b ρ2=>match b with
 | .int k=>bnd (K8 a) fun xs=>(-1000<=k/\k<=1000/\xs.length<=100)/\Q (A2k xs k.toNat) ρ2
 | _=>False
theorem A88 (ha:PE X a (eOf C ta)) (hb:PE X b (eOf C tb)):PE X (.BinOp a .Mult b pos) (fOf C (A2l ta tb)):=PE.wk (M8 C3q ha hb) fun σ H Q zz26=>el3 zz26 fun ρ P Qd R ht k=>
 ⟨ρ,P,_,R,ht,fun v a ρ1 H1 R1 h1=>⟨ρ1,_,_,R1,h1,fun w b ρ2 H2 R2 h2=>by
  split at h2
  ·obtain⟨xs,hx,⟨h3,h4,h5⟩,q⟩:=J2 h2
   obtain⟨col,r,t1,t2⟩:=th2 R2
   cases t2
   cases a with
   | list ds=>
    cases hx
    obtain⟨p,vs,rfl,e,t⟩:=Red.lst (.th t1)
    rename_i kk
    refine⟨p,kk,vs,rfl,rfl,e,by lia,by lia,?_,fun b hb=>k _ _ _ _ _ ⟨col,r,B7m t _⟩ hb q⟩
    have hl:=t.len
    rw[<-hl] at h5
    have:vs.length * kk.toNat<=100 * 1000:=Nat.mul_le_mul h5 (by lia)
    rw[sizeLine_eq]
    lia
   | _=>cases hx
  ·exact h2.elim⟩⟩
def tyD:PyData->Option String
 | .none=>some "NoneType"
 | .bool _=>some "bool"
 | .int _=>some "int"
 | .str _=>some "str"
 | .list _=>some "list"
 | .tuple _=>some "tuple"
 | .dict _=>some "dict"
theorem C4q {K:A7} {col:Addr->Nat} {H:Hp} {v:V} {a:PyData} (t:Red col H v a):∃T,tyD a=some T/\A6y K H v (.type T):=by
 cases t with
 | th t=>cases t with
  | non=>exact⟨_,rfl,.o .non⟩
  | bl b=>exact⟨_,rfl,.o (.bl b)⟩
  | int i=>exact⟨_,rfl,.o (.int i)⟩
  | str x=>exact⟨_,rfl,.o (.str x)⟩
  | lst _ e _=>exact⟨_,rfl,.o (.lst e)⟩
  | tup _ e _=>exact⟨_,rfl,.o (.tup e)⟩
  | dic _ e u=>cases u with
   | t=>exact⟨_,rfl,.o (.dT e)⟩
   | k i j=>exact⟨_,rfl,.o (.dK e)⟩
   | f o ks=>exact⟨_,rfl,.f e⟩
 | ls e _=>exact⟨_,rfl,.o (.lst e)⟩
def V0 (T:String) (d:PyData):Bool:=match tyD d with
 | some t=>t == T||(T == "int" &&t == "bool")
 | none=>false
def A66 (K:A7) (T:String):Prop:=∀d t,tyD d=some t->b6 K (.type t) (.type T)=some (V0 T d)
abbrev C4r (K:A7):List V->Hp->VK->Prop:=fun xs H Q=>∃x cv c t b,xs=[x,cv]/\D8 cv c/\A6y K H x t/\b6 K t c=some b/\Q (.bl b) H
def A2m (i:Nat) (T:String)  (ρ:List Sl) (Q:PyData->List Sl->Prop):Prop:=bnd (N4 ρ i) fun a=>Q (.bool (V0 T a)) ρ
theorem A67 {i:Nat} {K:A7} {T:String} (hT:A66 K T) (h:PE X e (tCB (C4r K) (W9 (Q2 i) (W9 (tC (.ty T)) Z0)))):PE X e (eOf C (A2m i T)):=PE.wk h fun _ _ _ zz27=>el3 zz27 fun ρ P _ zz28 ht k=>zz28.elim fun col r=>by
 obtain⟨a,ha,q⟩:=J2 ht
 obtain⟨v,ev,t⟩:=r.slot ha
 obtain⟨t',e1,e2⟩:=C4q (K:=K) t
 exact⟨v,ev,v,.ty T,.type T,_,_,rfl,rfl,e2,hT a t' e1,k _ _ _ _ ⟨col,r.push (.bl _)⟩ q⟩
def A36 (ta:DE) (T:String)  (ρ:List Sl) (Q:PyData->List Sl->Prop):Prop:=ta ρ fun a ρ'=>Q (.bool (V0 T a)) ρ'
theorem B7n {K:A7}:A66 K "int" :=fun d t h=>by cases d <;> cases h <;> with_unfolding_all rfl
theorem B7o {K:A7}:A66 K "bool" :=fun d t h=>by cases d <;> cases h <;> with_unfolding_all rfl
theorem B7p {K:A7}:A66 K "list" :=fun d t h=>by cases d <;> cases h <;> with_unfolding_all rfl
theorem C4s {K:A7}:A66 K "tuple" :=fun d t h=>by cases d <;> cases h <;> with_unfolding_all rfl
end
inductive Md where
 | sh
 | bo
 | hd
 | b2
 | bd
def A0h:List PyData->Option (List (List PyData))
 | []=>some []
 | .list ds::r=>(A0h r).map (ds::·)
 | _=>none
def B1y:PyData->Option (List (List PyData))
 | .list xs=>A0h xs
 | _=>none
abbrev lls (dss:List (List PyData)):List PyData:=dss.map PyData.list
theorem C4t {xs:List PyData} {dss:List (List PyData)} (h:A0h xs=some dss):xs=lls dss:=by
 induction xs generalizing dss with
 | nil=>cases h;rfl
 | cons x r ih=>
  cases x with
  | list ds=>
   have h':(A0h r).map (ds::·)=some dss:=h
   cases q:A0h r with
   | none=>rw[q] at h';cases h'
   | some ess=>
    rw[q] at h'
    cases h'
    rw[ih q];rfl
  | _=>cases h
theorem C4u {d:PyData} {dss:List (List PyData)} (h:B1y d=some dss):d=.list (lls dss):=by
 cases d with
 | list xs=>rw[C4t h]
 | _=>cases h
theorem C4v {F:Addr->Prop} {H:Hp} {dss:List (List PyData)} {vs:List V} (t:A6 F H vs (lls dss)):∃as:List Addr,vs=as.map V.ref/\Rws F F H as dss:=by
 induction dss generalizing vs with
 | nil=>cases t;exact⟨[],rfl,.nil⟩
 | cons ds dss ih=>
  cases t with
  | cons x y=>
   obtain⟨as,rfl,r⟩:=ih y
   cases x with
   | lst n e z=>exact⟨_::as,rfl,.cons n e z r⟩
def slot2 (ρ:List Sl) (i:Nat):Option (List (List PyData)):=match ρ[i]? with
 | some (.o2 dss)=>some dss
 | some (.b2 dss)=>some dss
 | some (.sh d)=>B1y d
 | _=>none
def B7q (F:Addr->Prop) (hand:Option (Addr×Addr)) (H:Hp) (v:V) (d:PyData):Md->Prop
 | .sh=>ThV F H v d
 | .bo=>∃a vs ds,v=.ref a/\d=.list ds/\(∀q,hand=some q->a≠q.1)/\H a=some (.lst vs)/\A6 F H vs ds
 | .hd=>∃q,hand=some q/\v=.ref q.1
 | .b2=>∃a as dss,v=.ref a/\d=.list (lls dss)/\(∀q,hand=some q->a≠q.1)/\H a=some (.lst (as.map V.ref))/\Rws (fun b=>∀q,hand=some q->b≠q.1) F H as dss
 | .bd=>ThV (fun b=>∀q,hand=some q->b≠q.1) H v d
inductive V1 (F:Addr->Prop) (hand:Option (Addr×Addr)) (H:Hp):List Md->List V->List PyData->Prop
 | nil:V1 F hand H [] [] []
 | cons {m v d ms vs ds}:B7q F hand H v d m->V1 F hand H ms vs ds->V1 F hand H (m::ms) (v::vs) (d::ds)
theorem V1.len {F:Addr->Prop} {hand:Option (Addr×Addr)} {H:Hp} {ms:List Md} {vs:List V} {ds:List PyData} (t:V1 F hand H ms vs ds):vs.length=ms.length/\ds.length=ms.length:=by
 induction t with
 | nil=>exact⟨rfl,rfl⟩
 | cons _ t ih=>exact⟨congrArg (· + 1) ih.1,congrArg (· + 1) ih.2⟩
abbrev DSp:=List PyData->(PyData->Prop)->Prop
def spD (ms:List Md) (sp:DSp):Sp:=fun vs H Q _=>∃F hand ds Qd,((∀b,H b=none->F b)/\∀b xs,H b=some (.tup xs)->F b)/\(∀q,hand=some q->¬ F q.1)/\Hq hand H/\V1 F hand H ms vs ds/\sp ds Qd/\∀d v H',Qd d->ThV F H' v d->Kq hand H H'->Hq hand H'->Q v H'
inductive Ar where
 | v (d:PyData)
 | s (i:Nat)
 | w (d:PyData)
inductive ArV (σ:St) (P:List Pe):List V->List Ar->Prop
 | nil:ArV σ P [] []
 | v {v d vs as}:Pe.v v d∈P->ArV σ P vs as->ArV σ P (v::vs) (.v d::as)
 | s {i v vs as}:σ[i]?=some (some v)->ArV σ P vs as->ArV σ P (v::vs) (.s i::as)
 | w {v d vs as}:Pe.w v d∈P->ArV σ P vs as->ArV σ P (v::vs) (.w d::as)
abbrev DA:=List Sl->(List Ar->List Sl->Prop)->Prop
def aOf (C:DC) (t:DA):TA:=fun σ H Q=>∃ρ P Qd,Rel C ρ σ P H/\t ρ Qd/\∀vs as ρ' P' H',Rel C ρ' σ P' H'->(∀p∈P,p∈P')->ArV σ P' vs as->Qd as ρ'->Q vs H'
def n5 (ρ:List Sl) (i:Nat):Bool:=match ρ[i]? with
 | some .no=>false
 | none=>false
 | _=>true
section
variable {X:Cx} {C:DC} {e:Expr} {es:List Expr} {t:DE} {u:DA}
def A2n  (ρ:List Sl) (Q:List Ar->List Sl->Prop):Prop:=Q [] ρ
def aV (t:DE) (u:DA)  (ρ:List Sl) (Q:List Ar->List Sl->Prop):Prop:=t ρ fun d ρ1=>u ρ1 fun as ρ2=>Q (.v d::as) ρ2
def aS (i:Nat) (u:DA)  (ρ:List Sl) (Q:List Ar->List Sl->Prop):Prop:=n5 ρ i=true/\u ρ fun as ρ2=>Q (.s i::as) ρ2
theorem C4:PA X [] (aOf C A2n):=PA.wk C6 fun _ _ _ zz31=>el3 zz31 fun _ _ _ R ht k=>k [] [] _ _ _ R (fun _ h=>h) .nil ht
theorem A2 (ha:PE X e (eOf C t)) (hr:PA X es (aOf C u)) (hs:starEach (e::es) X.env=(false,eval e X.env)::starEach es X.env:=by rfl):PA X (e::es) (aOf C (aV t u)):=PA.wk (B3 ha hr hs) fun _ _ _ zz32=>el3 zz32 fun ρ P _ R ht k=>
 ⟨ρ,P,_,R,ht,fun _ _ ρ1 _ R1 h1=>⟨ρ1,_,_,R1,h1,fun _ _ _ _ _ R2 s2 p2 h2=>k _ _ _ _ _ R2 (fun p hp=>s2 p (A9 _ hp)) (.v (s2 _ B2) p2) h2⟩⟩
theorem C4w {col:Addr->Nat} {ρ:List Sl} {σ:St} {P:List Pe} {H:Hp} {i:Nat} (r:B9 C col ρ σ P H) (h:n5 ρ i=true):∃v,σ[i]?=some (some v):=by
 unfold n5 at h
 split at h
 ·cases h
 ·cases h
 ·rename_i s n1 n2
  cases q:ρ[i]? with
  | none=>exact absurd q n2
  | some s=>
   have z:=r.sl i s q
   cases s with
   | no=>exact absurd q n1
   | sh d=>obtain⟨v,e,_⟩:=z;exact⟨v,G7 e⟩
   | ow d=>obtain⟨a,_,e,_⟩:=z;exact⟨_,G7 e⟩
   | bo d=>obtain⟨a,_,e,_⟩:=z;exact⟨_,G7 e⟩
   | hd=>obtain⟨q,_,e⟩:=z;exact⟨_,G7 e⟩
   | o2 d=>obtain⟨a,_,e,_⟩:=z;exact⟨_,G7 e⟩
   | b2 d=>obtain⟨a,_,e,_⟩:=z;exact⟨_,G7 e⟩
   | di f ks=>obtain⟨a,e,_⟩:=z;exact⟨_,G7 e⟩
   | dm f ks=>obtain⟨a,e,_⟩:=z;exact⟨_,G7 e⟩
   | bd d=>obtain⟨v,e,_⟩:=z;exact⟨v,G7 e⟩
   | ot d=>obtain⟨v,e,_⟩:=z;exact⟨v,G7 e⟩
   | ob R=>obtain⟨v,e,_⟩:=z;exact⟨v,G7 e⟩
def A2o (ρ:List Sl) (i:Nat):Option PyData:=match ρ[i]? with
 | some (.bd d)=>some d
 | _=>none
theorem B9.le {col:Addr->Nat} {ρ:List Sl} {σ:St} {P:List Pe} {H:Hp} (r:B9 C col ρ σ P H) {v:V} {d:PyData} (t:ThV (Le C) C.H0 v d):ThV (Le C) H v d:=t.mv fun b o g e=>⟨g,r.kq b o e g.2⟩
theorem B9.slot2 {col:Addr->Nat} {ρ:List Sl} {σ:St} {P:List Pe} {H:Hp} (r:B9 C col ρ σ P H) {i:Nat} {dss:List (List PyData)} (h:slot2 ρ i=some dss):∃a as,σ[i]?=some (some (.ref a))/\(∀q,C.hand=some q->a≠q.1)/\H a=some (.lst (as.map V.ref))/\Rws (fun b=>∀q,C.hand=some q->b≠q.1) (Z col) H as dss:=by
 unfold My.slot2 at h
 split at h
 ·rename_i dss' e
  cases h
  obtain⟨a,as,e1,c,e2,nd,t⟩:=r.sl i _ e
  exact⟨a,as,G7 e1,r.notH (by have:=c.1;lia),e2,t.mv (fun b o z e=>⟨z,e⟩) fun b o g e=>⟨r.notH (by have:=g.1;lia),e⟩⟩
 ·rename_i dss' e
  cases h
  obtain⟨a,as,e1,c,e2,t⟩:=r.sl i _ e
  exact⟨a,as,G7 e1,c.2,e2,t.mv (fun b o z e=>⟨z,e⟩) fun b o g e=>⟨g.2,e⟩⟩
 ·rename_i d e
  cases C4u h
  obtain⟨v,e1,t⟩:=r.sl i _ e
  cases t with
  | lst n e2 t=>
   obtain⟨as,rfl,t2⟩:=C4v t
   exact⟨_,as,G7 e1,r.notH (by rw[show col _=0 from n];decide),e2,t2.mv (fun b o z e=>⟨z,e⟩) fun b o g e=>⟨r.notH (by rw[show col b=0 from g];decide),e⟩⟩
 ·cases h
theorem K1 {i:Nat} (ha:PE X e (Q2 i)) (hr:PA X es (aOf C u)) (hs:starEach (e::es) X.env=(false,eval e X.env)::starEach es X.env:=by rfl):PA X (e::es) (aOf C (aS i u)):=PA.wk (B3 ha hr hs) fun σ H Q zz33=>el3 zz33 fun ρ P Qd zz34 ht k=>zz34.elim fun col r=>by
 obtain⟨v,ev⟩:=C4w r ht.1
 exact⟨v,ev,ρ,P,_,⟨col,r⟩,ht.2,fun _ _ _ _ _ R2 s2 p2 h2=>k _ _ _ _ _ R2 s2 (.s ev p2) h2⟩
def arD (ρ:List Sl) (m:Md) (a:Ar):Option PyData:=match m,a with
 | .sh,.v d=>some d
 | .bo,.v (.list ds)=>some (.list ds)
 | .bo,.s i=>(N4 ρ i).bind fun d=>(K8 d).map PyData.list
 | .hd,.s i=>match ρ[i]? with
  | some .hd=>some .none
  | _=>none
 | .b2,.s i=>(slot2 ρ i).map fun dss=>.list (lls dss)
 | .bd,.v d=>some d
 | .bd,.w d=>some d
 | .bd,.s i=>match ρ[i]? with
  | some (.bd d)=>some d
  | some (.sh d)=>some d
  | _=>none
 | _,_=>none
def N6 (ρ:List Sl):List Md->List Ar->Option (List PyData)
 | [],[]=>some []
 | m::ms,a::as=>(arD ρ m a).bind fun d=>(N6 ρ ms as).map (d::·)
 | _,_=>none
theorem A2p {d:PyData} {xs:List PyData} (h:K8 d=some xs):d=.list xs:=by
 cases d <;> cases h
 rfl
theorem B1z {col:Addr->Nat} {ρ:List Sl} {σ:St} {P:List Pe} {H:Hp} (r:B9 C col ρ σ P H) {m:Md} {v:V} {d:PyData} {a:Ar} (ha:match a with | .v d=>Pe.v v d∈P | .s i=>σ[i]?=some (some v) | .w d=>Pe.w v d∈P) (h:arD ρ m a=some d):B7q (Z col) C.hand H v d m:=by
 unfold arD at h
 split at h
 ·cases h;exact r.pd _ ha
 ·cases h
  have z:ThV (Z col) H v (.list _):=r.pd _ ha
  cases z with
  | lst za e t=>exact⟨_,_,_,rfl,rfl,r.notH (by rw[show col _=0 from za];decide),e,t⟩
 ·rename_i i
  have ha':σ[i]?=some (some v):=ha
  cases q:N4 ρ i with
  | none=>rw[q] at h;cases h
  | some d'=>
   rw[q] at h
   cases q2:K8 d' with
   | none=>
    have h':(K8 d').map PyData.list=some d:=h
    rw[q2] at h';cases h'
   | some xs=>
    have h':(K8 d').map PyData.list=some d:=h
    rw[q2] at h'
    cases h'
    have:=A2p q2
    subst this
    unfold N4 at q
    split at q
    ·rename_i d'' e
     cases q
     obtain⟨v',e1,t⟩:=r.sl i _ e
     rw[G7 e1] at ha'
     cases ha'
     cases t with
     | lst za e t=>exact⟨_,_,_,rfl,rfl,r.notH (by rw[show col _=0 from za];decide),e,t⟩
    ·rename_i ds e
     cases q
     obtain⟨a,vs,e1,c,_,e2,t⟩:=r.sl i _ e
     rw[G7 e1] at ha'
     cases ha'
     exact⟨_,_,_,rfl,rfl,r.notH (by lia),e2,t⟩
    ·rename_i ds e
     cases q
     obtain⟨a,vs,e1,c,n,e2,t⟩:=r.sl i _ e
     rw[G7 e1] at ha'
     cases ha'
     exact⟨_,_,_,rfl,rfl,n,e2,t⟩
    ·cases q
 ·rename_i i
  have ha':σ[i]?=some (some v):=ha
  split at h
  ·rename_i e
   cases h
   obtain⟨q,e1,e2⟩:=r.sl i _ e
   rw[G7 e2] at ha'
   cases ha'
   exact⟨q,e1,rfl⟩
  ·cases h
 ·rename_i i
  have ha':σ[i]?=some (some v):=ha
  cases q:slot2 ρ i with
  | none=>rw[q] at h;cases h
  | some dss=>
   rw[q] at h
   cases h
   obtain⟨a,as,e1,n,e2,t⟩:=r.slot2 q
   rw[e1] at ha'
   cases ha'
   exact⟨a,as,dss,rfl,rfl,n,e2,t⟩
 ·cases h
  exact ThV.mv (fun b o z e=>⟨r.notH (by rw[show col b=0 from z];decide),e⟩) (r.pd _ ha)
 ·cases h
  exact ThV.mv (fun b o z e=>⟨z.2,e⟩) (r.le (r.pd _ ha))
 ·rename_i i
  have ha':σ[i]?=some (some v):=ha
  split at h
  ·rename_i e
   cases h
   obtain⟨v',e1,t⟩:=r.sl i _ e
   rw[G7 e1] at ha'
   cases ha'
   exact ThV.mv (fun b o z e=>⟨z.2,e⟩) (r.le t)
  ·rename_i e
   cases h
   obtain⟨v',e1,t⟩:=r.sl i _ e
   rw[G7 e1] at ha'
   cases ha'
   exact ThV.mv (fun b o z e=>⟨r.notH (by rw[show col b=0 from z];decide),e⟩) t
  ·cases h
 ·cases h
theorem A68 {col:Addr->Nat} {ρ:List Sl} {σ:St} {P:List Pe} {H:Hp} (r:B9 C col ρ σ P H):∀{ms:List Md} {vs:List V} {ds:List PyData} {as:List Ar},ArV σ P vs as->N6 ρ ms as=some ds->V1 (Z col) C.hand H ms vs ds
 | [],_,_,_,.nil,h=>by cases h;exact .nil
 | [],_,_,_,.v _ _,h=>by cases h
 | [],_,_,_,.s _ _,h=>by cases h
 | [],_,_,_,.w _ _,h=>by cases h
 | _::_,_,_,_,.nil,h=>by cases h
 | m::ms,_,ds,_,.v (d:=d0) (as:=as) hm t,h=>by
  have h':((arD ρ m (.v d0)).bind fun d=>(N6 ρ ms as).map (d::·))=some ds:=h
  cases q:arD ρ m (.v d0) with
  | none=>rw[q] at h';cases h'
  | some d=>
   rw[q] at h'
   have h2:(N6 ρ ms as).map (d::·)=some ds:=h'
   cases q2:N6 ρ ms as with
   | none=>rw[q2] at h2;cases h2
   | some ds'=>
    rw[q2] at h2
    cases h2
    exact .cons (B1z r (a:=.v d0) hm q) (A68 r t q2)
 | m::ms,_,ds,_,.s (i:=i) (as:=as) hm t,h=>by
  have h':((arD ρ m (.s i)).bind fun d=>(N6 ρ ms as).map (d::·))=some ds:=h
  cases q:arD ρ m (.s i) with
  | none=>rw[q] at h';cases h'
  | some d=>
   rw[q] at h'
   have h2:(N6 ρ ms as).map (d::·)=some ds:=h'
   cases q2:N6 ρ ms as with
   | none=>rw[q2] at h2;cases h2
   | some ds'=>
    rw[q2] at h2
    cases h2
    exact .cons (B1z r (a:=.s i) hm q) (A68 r t q2)
 | m::ms,_,ds,_,.w (d:=d0) (as:=as) hm t,h=>by
  have h':((arD ρ m (.w d0)).bind fun d=>(N6 ρ ms as).map (d::·))=some ds:=h
  cases q:arD ρ m (.w d0) with
  | none=>rw[q] at h';cases h'
  | some d=>
   rw[q] at h'
   have h2:(N6 ρ ms as).map (d::·)=some ds:=h'
   cases q2:N6 ρ ms as with
   | none=>rw[q2] at h2;cases h2
   | some ds'=>
    rw[q2] at h2
    cases h2
    exact .cons (B1z r (a:=.w d0) hm q) (A68 r t q2)
def A2q (ms:List Md) (sp:DSp) (u:DA)  (ρ:List Sl) (Q:PyData->List Sl->Prop):Prop:=u ρ fun as ρ'=>bnd (N6 ρ' ms as) fun ds=>sp ds fun d=>Q d ρ'
theorem C5 {ms:List Md} {sp:DSp} {E:XK} (h:PE X e (B09 (spD ms sp) [] E (aOf C u))):PE X e (eOf C (A2q ms sp u)):=PE.wk h fun σ H Q zz35=>el3 zz35 fun ρ P Qd R ht k=>⟨ρ,P,_,R,ht,fun vs as ρ' P' H' zz36 s p q=>zz36.elim fun col r=>by
 obtain⟨ds,hds,q⟩:=J2 q
 rw[Q0]
 obtain⟨col,r,tp⟩:=r.norm
 refine⟨Z col,C.hand,ds,_,⟨r.fresh,tp⟩,fun q hq z=>?_,r.hq,A68 r p hds,q,fun d v H2 q2 t2 k2 h2=>k _ _ _ _ ⟨col,(((r.mv k2 h2).sub s)).push t2⟩ q2⟩
 have:=r.hnd q hq
 rw[show col q.1=0 from z] at this
 cases this⟩
end
structure A37 (C:DC) (J:It) (xs:List PyData) (P:List Pe):Prop where
 go:∀{i:Nat} {ρ:List Sl} {σ:St} {P':List Pe} {H:Hp},(∀p∈P,p∈P')->Rel C ρ σ P' H->i < xs.length->J.go i H
 yld:∀{i:Nat} {ρ:List Sl} {σ:St} {P':List Pe} {H H':Hp} {x:V} {d:PyData},(∀p∈P,p∈P')->Rel C ρ σ P' H->xs[i]?=some d->J.yld i H x H'->Rel C ρ σ (.v x d::P') H'
 stop:∀{ρ:List Sl} {σ:St} {P':List Pe} {H:Hp},(∀p∈P,p∈P')->Rel C ρ σ P' H->J.stop xs.length H
theorem n6 {F:Addr->Prop} {H:Hp} {v:V} {xs:List PyData} (t:ThV F H v (.list xs)):∃a vs,v=.ref a/\F a/\H a=some (.lst vs)/\A6 F H vs xs:=by
 cases t with
 | lst za e t=>exact⟨_,_,rfl,za,e,t⟩
theorem C4x {F:Addr->Prop} {H:Hp} {v:V} {xs:List PyData} (t:ThV F H v (.tuple xs)):∃a vs,v=.ref a/\F a/\H a=some (.tup vs)/\A6 F H vs xs:=by
 cases t with
 | tup za e t=>exact⟨_,_,rfl,za,e,t⟩
def iOf (C:DC) (t:DF):TI:=fun σ H R=>∃ρ P Qd,Rel C ρ σ P H/\t ρ Qd/\∀xs ρ' P' H' J,Rel C ρ' σ P' H'->(∀p∈P,p∈P')->A37 C J xs P'->Qd xs ρ'->R J H'
section
variable {X:Cx} {C:DC} {tg e:Expr} {t:DE} {u:DF} {pos:Pos}
theorem PI.wk {tg e:Expr} {w w':TI} (h:PI X tg e w) (f:∀σ H R,w' σ H R->w σ H R):PI X tg e w':=fun pins s σ H R I q=>h pins s σ H R I (f σ H R q)
theorem A89 {K:A7} {a:Addr} {vs:List V} {xs:List PyData} {P:List Pe}:A37 C (Itl K a) xs (.n a (.lst vs)::.s vs xs::P) where
 go:=fun {i ρ σ P' H} s R hi=>by
  obtain⟨col,r⟩:=R
  have h1:=r.pd _ (s _ B2)
  have h2:A6 (Z col) H vs xs:=r.pd _ (s _ (A9 _ B2))
  have hl:=h2.len
  exact⟨vs,vs[i],SqL.of h1.2.2,J6 (by lia)⟩
 yld:=fun {i ρ σ P' H H' x d} s R hi y=>by
  obtain⟨e,y⟩:=y
  subst e
  obtain⟨col,r⟩:=R
  have h1:=r.pd _ (s _ B2)
  have h2:A6 (Z col) H' vs xs:=r.pd _ (s _ (A9 _ B2))
  have hx:=y vs (SqL.of h1.2.2)
  obtain⟨d',e1,t⟩:=h2.get hx
  rw[hi] at e1
  cases e1
  exact⟨col,r.push t⟩
 stop:=fun {ρ σ P' H} s R=>by
  obtain⟨col,r⟩:=R
  have h1:=r.pd _ (s _ B2)
  have h2:A6 (Z col) H vs xs:=r.pd _ (s _ (A9 _ B2))
  have hl:=h2.len
  exact⟨vs,SqL.of h1.2.2,by lia⟩
def dIl (t:DE)  (ρ:List Sl) (Q:List PyData->List Sl->Prop):Prop:=t ρ fun d ρ'=>bnd (K8 d) fun xs=>Q xs ρ'
theorem A2r (h:PE X e (eOf C t)):PI X tg e (iOf C (dIl t)):=PI.wk (A6o h) fun _ _ _ zz1=>el3 zz1 fun ρ P _ R ht k=>⟨ρ,P,_,R,ht,fun v d ρ' H' zz2 q=>zz2.elim fun col r=>by
 obtain⟨xs,hx,q⟩:=J2 q
 have:=A2p hx
 subst this
 obtain⟨a,vs,rfl,za,e1,t1⟩:=n6 (show ThV (Z col) H' v (.list xs) from r.pd _ B2)
 refine⟨a,rfl,⟨vs,SqL.of e1⟩,k xs ρ' (.n a (.lst vs)::.s vs xs::P) H' _ ⟨col,?_⟩ (fun _ h=>A9 _ (A9 _ h)) A89 q⟩
 exact ((r.sub fun _ h=>A9 _ h).add (x:=.s vs xs) t1).add (x:=.n a (.lst vs)) ⟨by rw[show col a=0 from za];decide,r.notH (by rw[show col a=0 from za];decide),e1⟩⟩
def C4y:PyData->Option (List PyData)
 | .tuple xs=>some xs
 | _=>none
def dIt (t:DE)  (ρ:List Sl) (Q:List PyData->List Sl->Prop):Prop:=t ρ fun d ρ'=>bnd (C4y d) fun xs=>Q xs ρ'
def dIv (i:Nat)  (ρ:List Sl) (Q:List PyData->List Sl->Prop):Prop:=match ρ[i]? with
 | some (.sh (.list xs))=>Q xs ρ
 | some (.ow xs)=>Q xs (ρ.set i (.sh (.list xs)))
 | some (.bo xs)=>Q xs ρ
 | _=>False
theorem Z2 {i:Nat} (h:PE X e (Q2 i)):PI X tg e (iOf C (dIv i)):=PI.wk (A6o h) fun σ H R' zz5=>el3 zz5 fun ρ P Qd zz6 ht k=>zz6.elim fun col r=>by
 unfold dIv at ht
 split at ht
 ·rename_i xs e
  obtain⟨v,e1,t⟩:=r.sl i _ e
  obtain⟨a,vs,rfl,za,e2,t1⟩:=n6 t
  ·refine⟨_,G7 e1,a,rfl,⟨vs,SqL.of e2⟩,k xs ρ (.n a (.lst vs)::.s vs xs::P) H _ ⟨col,?_⟩ (fun _ h=>A9 _ (A9 _ h)) A89 ht⟩
   exact (r.add (x:=.s vs xs) t1).add (x:=.n a (.lst vs)) ⟨by rw[show col a=0 from za];decide,r.notH (by rw[show col a=0 from za];decide),e2⟩
 ·rename_i xs e
  obtain⟨a,e1,col',r'⟩:=r.freeze e
  obtain⟨a',vs,ea,za,e2,t1⟩:=n6 (show ThV (Z col') H (.ref a) (.list xs) from r'.pd _ B2)
  cases ea
  ·refine⟨_,G7 e1,a,rfl,⟨vs,SqL.of e2⟩,k xs _ (.n a (.lst vs)::.s vs xs::P) H _ ⟨col',?_⟩ (fun _ h=>A9 _ (A9 _ h)) A89 ht⟩
   exact ((r'.sub fun _ h=>A9 _ h).add (x:=.s vs xs) t1).add (x:=.n a (.lst vs)) ⟨by rw[show col' a=0 from za];decide,r'.notH (by rw[show col' a=0 from za];decide),e2⟩
 ·rename_i xs e
  obtain⟨a,vs,e1,c,n,e2,t⟩:=r.sl i _ e
  exact⟨_,G7 e1,a,rfl,⟨vs,SqL.of e2⟩,k xs ρ (.n a (.lst vs)::.s vs xs::P) H _ ⟨col,(r.add (x:=.s vs xs) t).add (x:=.n a (.lst vs)) ⟨c,n,e2⟩⟩ (fun _ h=>A9 _ (A9 _ h)) A89 ht⟩
 ·exact ht.elim
def J3 (lo:Int) (n:Nat):List PyData:=(L0 n).map fun i=>.int (lo + ((i:Nat):Int))
theorem B7r {lo:Int} {n i:Nat} {d:PyData} (h:(J3 lo n)[i]?=some d):i < n/\d=.int (lo + i):=by
 unfold J3 at h
 rw[O7] at h
 by_cases hi:i < n
 ·rw[B0m hi] at h
  cases h
  exact⟨hi,rfl⟩
 ·rw[Y2 (by rw[U5];lia)] at h
  cases h
theorem C4z {lo:Int} {n:Nat} {P:List Pe}:A37 C (Itr lo n) (J3 lo n) P where
 go:=fun {i _ _ _ _} _ _ hi=>by
  have:(J3 lo n).length=n:=by unfold J3;rw[C7,U5]
  show i < n
  lia
 yld:=fun {i ρ σ P' H H' x d} _ R hi y=>by
  obtain⟨e1,e2⟩:=y
  subst e1 e2
  obtain⟨_,e3⟩:=B7r hi
  subst e3
  obtain⟨col,r⟩:=R
  exact⟨col,r.push (.int _)⟩
 stop:=fun _ _=>by
  have:(J3 lo n).length=n:=by unfold J3;rw[C7,U5]
  show n<=(J3 lo n).length
  lia
def B10 (u:DF)  (ρ:List Sl) (Q:List PyData->List Sl->Prop):Prop:=u ρ fun ds ρ'=>match ds with
 | [.int j]=>(-(2 ^ 62)<=j/\j < 2 ^ 62)/\Q (J3 0 j.toNat) ρ'
 | _=>False
theorem j6 (h:PI X tg e (B5u (vOf C u))):PI X tg e (iOf C (B10 u)):=PI.wk h fun _ _ _ zz7=>el3 zz7 fun ρ P _ R ht k=>⟨ρ,P,_,R,ht,fun vs ds ρ' P' H' zz8 s p q=>zz8.elim fun col r=>by
 split at q
 ·have t:=p.th r
  obtain⟨v,rfl,t1⟩:=A33 t
  cases t1
  exact⟨_,rfl,q.1.1,q.1.2,k _ _ P' _ _ ⟨col,r⟩ s C4z q.2⟩
 ·exact q.elim⟩
def B7s (u:DF)  (ρ:List Sl) (Q:List PyData->List Sl->Prop):Prop:=u ρ fun ds ρ'=>match ds with
 | [.int i,.int j]=>(-(2 ^ 62)<=i/\i < 2 ^ 62/\-(2 ^ 62)<=j/\j < 2 ^ 62)/\Q (J3 i (j - i).toNat) ρ'
 | _=>False
def Q3 (xs:List PyData):List PyData:=xs.zipIdx.map fun p=>.tuple [.int (p.2:Nat),p.1]
theorem B7t {xs:List PyData} {i:Nat} {d:PyData} (h:(Q3 xs)[i]?=some d):∃x,xs[i]?=some x/\d=.tuple [.int (i:Nat),x]:=by
 unfold Q3 at h
 rw[O7,List.getElem?_zipIdx] at h
 cases q:xs[i]? with
 | none=>rw[q] at h;cases h
 | some x=>rw[q] at h;cases h;exact⟨x,rfl,by rw[A3i]⟩
theorem C40 {K:A7} {a:Addr} {vs:List V} {xs:List PyData} {P:List Pe}:A37 C (Ite K a) (Q3 xs) (.n a (.lst vs)::.s vs xs::P) where
 go:=fun {i ρ σ P' H} s R hi=>by
  obtain⟨col,r⟩:=R
  have h1:=r.pd _ (s _ B2)
  have h2:A6 (Z col) H vs xs:=r.pd _ (s _ (A9 _ B2))
  have hl:=h2.len
  have hi':i < xs.length:=by unfold Q3 at hi;rw[C7,B5b] at hi;exact hi
  exact⟨vs,vs[i],SqL.of h1.2.2,J6 (by lia)⟩
 yld:=fun {i ρ σ P' H H' x d} s R hi y=>by
  obtain⟨p,v,rfl,hp,rfl,y⟩:=y
  obtain⟨col,r⟩:=R
  have h1:=r.pd _ (s _ B2)
  have h2:A6 (Z col) H vs xs:=r.pd _ (s _ (A9 _ B2))
  have hx:=y vs (SqL.of h1.2.2)
  obtain⟨x,e1,rfl⟩:=B7t hi
  obtain⟨d',e2,t⟩:=h2.get hx
  rw[e1] at e2
  cases e2
  exact⟨col,r.tup (.cons (.int _) (.cons t .nil)) hp⟩
 stop:=fun {ρ σ P' H} s R=>by
  obtain⟨col,r⟩:=R
  have h1:=r.pd _ (s _ B2)
  have h2:A6 (Z col) H vs xs:=r.pd _ (s _ (A9 _ B2))
  have hl:=h2.len
  exact⟨vs,SqL.of h1.2.2,by unfold Q3;rw[C7,B5b];lia⟩
def B11 (t:DE)  (ρ:List Sl) (Q:List PyData->List Sl->Prop):Prop:=t ρ fun d ρ'=>bnd (K8 d) fun xs=>Q (Q3 xs) ρ'
theorem B12 {K:A7} (h:PI X tg e (B6z K (W9 (eOf C t) Z0))):PI X tg e (iOf C (B11 t)):=PI.wk h fun _ _ _ zz11=>el3 zz11 fun ρ P _ R ht k=>⟨ρ,P,_,R,ht,fun v d ρ' H' zz12 q=>zz12.elim fun col r=>by
 obtain⟨xs,hx,q⟩:=J2 q
 have:=A2p hx
 subst this
 obtain⟨a,vs,rfl,za,e1,t1⟩:=n6 (show ThV (Z col) H' v (.list xs) from r.pd _ B2)
 refine⟨a,rfl,⟨vs,SqL.of e1⟩,k _ ρ' (.n a (.lst vs)::.s vs xs::P) H' _ ⟨col,?_⟩ (fun _ h=>A9 _ (A9 _ h)) C40 q⟩
 exact ((r.sub fun _ h=>A9 _ h).add (x:=.s vs xs) t1).add (x:=.n a (.lst vs)) ⟨by rw[show col a=0 from za];decide,r.notH (by rw[show col a=0 from za];decide),e1⟩⟩
end
def n8 (tt:DT) (te:DE) (ρ:List Sl) (Q:List PyData->Prop):List PyData->List PyData->Prop
 | [],acc=>Q acc
 | x::r,acc=>tt (ρ++[.sh x]) fun b ρ'=>ρ'=ρ++[.sh x]/\if b=true then te (ρ++[.sh x]) fun d ρ''=>ρ''=ρ++[.sh x]/\n8 tt te ρ Q r (acc++[d]) else n8 tt te ρ Q r acc
def Z3 (j:Nat) (it:DF) (tt:DT) (te:DE)  (ρ:List Sl) (Q:List PyData->List Sl->Prop):Prop:=it ρ fun xs ρ1=>(ρ1.length=j/\xs.length<=1000)/\n8 tt te ρ1 (fun ds=>Q ds ρ1) xs []
def B7u  (ρ:List Sl) (Q:Bool->List Sl->Prop):Prop:=Q true ρ
section
variable {X:Cx} {C:DC}
theorem PTs.wk {es:List Expr} {t t':TT} (h:PTs X es t) (f:∀σ H Q,t' σ H Q->t σ H Q):PTs X es t':=fun pins s σ H Q I q=>h pins s σ H Q I (f σ H Q q)
theorem A0i:PTs X [] (cOf C B7u):=PTs.wk A8x fun _ _ _ zz13=>el3 zz13 fun _ _ _ R ht k=>k _ _ _ R ht
theorem Rel.ext {ρ:List Sl} {σ:St} {P:List Pe} {H:Hp} {x:V} {d:PyData} (R:Rel C ρ σ (.v x d::P) H):Rel C (ρ++[.sh d]) (σ++[some x]) P H:=by
 obtain⟨col,r⟩:=R
 have t:ThV (Z col) H x d:=r.pd _ B2
 have r:=r.sub fun _ h=>A9 _ h
 refine⟨col,{ r with sl:=fun i s e=>?_,len:=by rw[F5,F5,r.len];rfl }⟩
 by_cases hi:i < ρ.length
 ·rw[b7 hi] at e
  rw[b7 (by rw[<-r.len];exact hi)]
  exact r.sl i s e
 ·rw[X9 (by lia)] at e
  rw[X9 (by rw[<-r.len];lia),<-r.len]
  match q:i - ρ.length with
  | 0=>
   rw[q] at e
   cases e
   exact⟨x,rfl,t⟩
  | n + 1=>rw[q] at e;simp at e
theorem B9.unext {col:Addr->Nat} {ρ ρ':List Sl} {σ σ':St} {P:List Pe} {H:Hp} (r:B9 C col (ρ++ρ') (σ++σ') P H) (hl:ρ.length=σ.length):B9 C col ρ σ P H:=by
 refine { r with sl:=fun i s e=>?_,len:=hl }
 have hi:=(A05.mp e).1
 have:=r.sl i s (by rw[b7 hi];exact e)
 rw[b7 (by lia)] at this
 exact this
theorem A6.snoc {F:Addr->Prop} {H:Hp} {vs:List V} {ds:List PyData} {v:V} {d:PyData} (t:A6 F H vs ds) (x:ThV F H v d):A6 F H (vs++[v]) (ds++[d]):=t.append (.cons x .nil)
theorem C41 {σ:St} {n j:Nat} {x:V} (h1:n=σ.length + 1) (h2:j=σ.length):(Q9 n j σ).set j (some x)=σ++[some x]:=by
 subst h1 h2
 unfold Q9
 rw[v5 (by simp),C1k _ _ (D2 _),C1k _ _ (D2 _)]
 simp
theorem B13 {it:DF} {tt:DT} {te:DE} {n j:Nat} (hn:n=j + 1) {σ:St} {H:Hp} {Q:VK} (h:fOf C (Z3 j it tt te) σ H Q):x9 (iOf C it) n j (fun _=>cOf C tt) (fun _=>eOf C te) σ H Q:=by
 obtain⟨ρ,P,Qd,R,ht,k⟩:=h
 refine⟨ρ,P,_,R,ht,fun xs ρ1 P1 H1 J R1 s1 io q=>?_⟩
 obtain⟨⟨hj,hx⟩,q⟩:=q
 have lz:∀m,m<=1000->m<=sizeLine:=fun m hm=>A6a (A6v hm)
 refine⟨fun i m ys H'=>m=xs.length - i/\i<=xs.length/\ys.length<=i/\∃acc,Rel C ρ1 σ (.s ys acc::P1) H'/\n8 tt te ρ1 (fun ds=>Qd ds ρ1) (xs.drop i) acc,⟨xs.length,by simp,L4 _,D2 _,[],?_,q⟩,?_⟩
 ·obtain⟨col,r⟩:=R1
  exact⟨col,r.add (x:=.s [] []) .nil⟩
 rintro i m ys H2 ⟨rfl,hi,hy,acc,R2,q2⟩
 refine⟨lz _ (by lia),?_⟩
 have sub2:∀p∈P1,p∈Pe.s ys acc::P1:=fun _ h=>A9 _ h
 have hlen:ρ1.length=σ.length:=by obtain⟨col,r⟩:=R2;exact r.len
 by_cases hlt:i < xs.length
 ·rw[g6 hlt] at q2
  refine .inr ⟨io.go sub2 R2 hlt,fun ys' H'=>ys'.length<=i + 1/\∃acc,Rel C ρ1 σ (.s ys' acc::P1) H'/\n8 tt te ρ1 (fun ds=>Qd ds ρ1) (xs.drop (i + 1)) acc,fun ys' H' zz14=>zz14.elim fun h1 h2=>⟨xs.length - (i + 1),by lia,rfl,hlt,h1,h2⟩,fun x H3 y a=>?_⟩
  have R3:=(io.yld sub2 R2 (J6 hlt) y).ext
  rw[C41 (by rw[hn,<-hlen,hj]) (by rw[<-hlen,hj])]
  refine⟨_,_,_,R3,q2,fun b ρ' H4 R4 q4=>?_⟩
  obtain⟨rfl,q4⟩:=q4
  cases b with
  | true=>
   refine L5 ⟨_,_,_,R4,by simpa using q4,fun v d ρ'' H5 R5 q5=>?_⟩
   obtain⟨rfl,q5⟩:=q5
   refine⟨by rw[F5];simp;lia,acc++[d],?_,q5⟩
   obtain⟨col,r⟩:=R5
   have t1:ThV (Z col) H5 v d:=r.pd _ B2
   have t2:A6 (Z col) H5 ys acc:=r.pd _ (A9 _ B2)
   exact⟨col,((r.unext hlen).sub fun _ h=>A9 _ (A9 _ h)).add (x:=.s (ys++[v]) (acc++[d])) (t2.snoc t1)⟩
  | false=>
   refine M4 ⟨by lia,acc,?_,by simpa using q4⟩
   obtain⟨col,r⟩:=R4
   exact⟨col,r.unext hlen⟩
 ·have e:i=xs.length:=by lia
  subst e
  rw[List.drop_length] at q2
  refine .inl ⟨io.stop sub2 R2,fun p hp=>k _ _ _ _ _ ?_ hp q2⟩
  obtain⟨col,r⟩:=R2
  exact⟨col,r.sub fun p hp=>A9 _ (s1 p hp),r.pd _ B2⟩
end
structure J5 where
 nx:List Sl->Prop
 rt:PyData->Prop
 bk:List Sl->Prop:=fun _=>False
 ct:List Sl->Prop:=fun _=>False
 ro:Sl->Prop:=fun _=>False
abbrev DS:=J5->List Sl->Prop
def C42 (C:DC) (col:Addr->Nat) (H:Hp) (v:V):Sl->Prop
 | .ow ds=>∃a vs,v=.ref a/\C.H0 a=none/\col a≠0/\H a=some (.lst vs)/\A6 (Z col) H vs ds
 | .o2 dss=>∃a as,v=.ref a/\(C.H0 a=none/\col a≠0)/\H a=some (.lst (as.map V.ref))/\(a::as).Nodup/\Rws (fun b=>C.H0 b=none/\col b≠0) (Z col) H as dss
 | .di false ks=>∃a,v=.ref a/\C.H0 a=none/\H a=some (.dT (dEn ks))
 | _=>False
structure C43 (C:DC) (P:List Pe) (Dd:J5) (D:l4):Prop where
 nx:∀ρ σ H,Rel C ρ σ P H->Dd.nx ρ->D.nx σ H
 rt:∀v d ρ σ H,Rel C ρ σ (.v v d::P) H->Dd.rt d->D.rt v H
 bk:∀ρ σ H,Rel C ρ σ P H->Dd.bk ρ->D.bk σ H
 ct:∀ρ σ H,Rel C ρ σ P H->Dd.ct ρ->D.ct σ H
 ro:∀(v:V) (s:Sl) (ρ:List Sl) σ H col,B9 C col ρ σ P H->C42 C col H v s->Dd.ro s->D.rt v H
def sOf (C:DC) (t:DS):TS:=fun D σ H=>∃ρ P Dd,Rel C ρ σ P H/\t Dd ρ/\C43 C P Dd D
section
variable {X:Cx} {C:DC} {st:Stmt} {sts:List Stmt} {e:Expr} {t u:DS} {te:DE} {tf:DF} {c:DT} {pos:Pos}
theorem PS.wk {t t':TS} (h:PS X st t) (f:∀D σ H,t' D σ H->t D σ H):PS X st t':=fun pins s σ H D I q=>h pins s σ H D I (f D σ H q)
theorem PSs.wk {t t':TS} (h:PSs X sts t) (f:∀D σ H,t' D σ H->t D σ H):PSs X sts t':=fun pins s σ H D I q=>h pins s σ H D I (f D σ H q)
def A2s (t u:DS)  (D:J5) (ρ:List Sl):Prop:=t { D with nx:=u D } ρ
def A2t  (D:J5) (ρ:List Sl):Prop:=D.nx ρ
theorem K5:PSs X [] (sOf C A2t):=PSs.wk w6 fun _ _ _ zz15=>el3 zz15 fun _ _ _ R ht E=>E.nx _ _ _ R ht
theorem B1 (h:PS X st (sOf C t)):PSs X [st] (sOf C t):=S3 h
theorem F0 (h1:PS X st (sOf C t)) (h2:PSs X sts (sOf C u)):PSs X (st::sts) (sOf C (A2s t u)):=PSs.wk (G4 h1 h2) fun _ _ _ zz16=>el3 zz16 fun ρ P Dd R ht E=>⟨ρ,P,{ Dd with nx:=u Dd },R,ht,⟨fun ρ' _ _ R' h=>⟨ρ',P,Dd,R',h,E⟩,E.rt,E.bk,E.ct,E.ro⟩⟩
def Go (f:List Sl->Prop) (ρ:List Sl):Prop:=f ρ
theorem go {f:List Sl->Prop} {ρ:List Sl} (h:f ρ):Go f ρ:=h
def V9 (t u:DS) (D:J5) (ρ:List Sl):Prop:=t { D with nx:=Go (u D) } ρ
theorem D5 (h1:PS X st (sOf C t)) (h2:PSs X sts (sOf C u)):PSs X (st::sts) (sOf C (V9 t u)):=PSs.wk (G4 h1 h2) fun _ _ _ zz17=>el3 zz17 fun ρ P Dd R ht E=>⟨ρ,P,{ Dd with nx:=Go (u Dd) },R,ht,⟨fun ρ' _ _ R' h=>⟨ρ',P,Dd,R',h,E⟩,E.rt,E.bk,E.ct,E.ro⟩⟩
def A38 (t:DS)  (D:J5) (ρ:List Sl):Prop:=∃M:List Sl->Prop,t { D with nx:=M } ρ/\∀ρ',M ρ'->D.nx ρ'
theorem A39 (h:PS X st (sOf C t)):PS X st (sOf C (A38 t)):=PS.wk h fun _ _ _ ⟨ρ,P,Dd,R,⟨M,h1,h2⟩,E⟩=>⟨ρ,P,{ Dd with nx:=M },R,h1,⟨fun ρ' σ' H' R' h=>E.nx ρ' σ' H' R' (h2 ρ' h),E.rt,E.bk,E.ct,E.ro⟩⟩
theorem C44:PS X st (sOf C fun _ _=>False):=PS.wk C34 fun _ _ _ zz22=>el3 zz22 fun _ _ _ _ h _=>h
def A2u (te:DE)  (D:J5) (ρ:List Sl):Prop:=te ρ fun d _=>D.rt d
theorem D7 (h:PE X e (eOf C te)):PS X (.Return (some e) pos) (sOf C (A2u te)):=PS.wk (Y6 h) fun _ _ _ zz23=>el3 zz23 fun ρ P _ R ht E=>⟨ρ,P,_,R,ht,fun v d _ _ R' q=>E.rt v d _ _ _ R' q⟩
def A2v (c:DT) (t u:DS)  (D:J5) (ρ:List Sl):Prop:=c ρ fun b ρ'=>if b=true then t D ρ' else u D ρ'
theorem K6 {ce:Expr} {a b:List Stmt} (hc:PT X ce (cOf C c)) (ha:PSs X a (sOf C t)) (hb:PSs X b (sOf C u)):PS X (.If ce a b pos) (sOf C (A2v c t u)):=PS.wk (l5 hc ha hb) fun _ _ _ zz26=>el3 zz26 fun ρ P Dd R ht E=>⟨ρ,P,_,R,ht,fun b ρ' _ R' q=>by
 cases b with
 | true=>exact L5 ⟨ρ',P,Dd,R',by simpa using q,E⟩
 | false=>exact M4 ⟨ρ',P,Dd,R',by simpa using q,E⟩⟩
def A4a (te:DE)  (D:J5) (ρ:List Sl):Prop:=te ρ fun _ ρ'=>D.nx ρ'
def A0j (i:Nat) (te:DE)  (D:J5) (ρ:List Sl):Prop:=te ρ fun d ρ'=>D.nx (ρ'.set i (.sh d))
theorem E2 {i:Nat} (hp:PS X st (A1e (eOf C te) (Y7 i))):PS X st (sOf C (A0j i te)):=PS.wk hp fun _ _ _ zz28=>el3 zz28 fun ρ P _ R ht E=>⟨ρ,P,_,R,ht,fun v d ρ' H' zz29 q=>zz29.elim fun col r=>E.nx _ _ _ ⟨col,((r.store (i:=i) (r.pd _ B2)).sub fun _ h=>A9 _ h)⟩ q⟩
def n9 (i:Nat) (tf:DF)  (D:J5) (ρ:List Sl):Prop:=tf ρ fun ds ρ'=>D.nx (ρ'.set i (.ow ds))
theorem V2 {i:Nat} (hp:PS X st (A1e (fOf C tf) (Y7 i))):PS X st (sOf C (n9 i tf)):=PS.wk hp fun _ _ _ zz30=>el3 zz30 fun ρ P _ R ht E=>⟨ρ,P,_,R,ht,fun p vs ds ρ' H1 zz31 hp q=>el2 zz31 fun col r t=>E.nx _ _ _ (r.own t hp) q⟩
theorem C45 {i n j:Nat} {it:DF} {tt:DT} (hn:n=j + 1) (hp:PS X st (fun D σ H=>x9 (iOf C it) n j (fun _=>cOf C tt) (fun _=>eOf C te) σ H fun v H1=>D.nx (σ.set i (some v)) H1)):PS X st (sOf C (n9 i (Z3 j it tt te))):=
 PS.wk hp fun _ _ _ zz32=>el3 zz32 fun ρ P _ R ht E=>B13 hn ⟨ρ,P,_,R,ht,fun p vs ds ρ' H1 zz33 hp q=>el2 zz33 fun col r t=>E.nx _ _ _ (r.own t hp) q⟩
theorem C46 {i n j:Nat} {it:DF} {tt:DT} (hn:n=j + 1) (hp:PS X st (fun D σ H=>x9 (iOf C it) n j (fun _=>cOf C tt) (fun _=>eOf C te) σ H fun v H1=>D.nx (σ.set i (some v)) H1)):PS X st (sOf C (A0j i (dF (Z3 j it tt te)))):=
 PS.wk hp fun _ _ _ zz34=>el3 zz34 fun ρ P _ R ht E=>B13 hn ⟨ρ,P,_,R,ht,fun p vs ds ρ' H1 zz35 hp q=>el2 zz35 fun col r t=>E.nx _ _ _ ⟨col,(((r.lst t hp).store (i:=i) ((r.lst t hp).pd _ B2)).sub fun _ h=>A9 _ h)⟩ q⟩
def A0k (i:Nat) (te:DE)  (D:J5) (ρ:List Sl):Prop:=match ρ[i]? with
 | some (.ow _)=>te ρ fun d ρ'=>match ρ'[i]? with
  | some (.ow ds)=>ds.length<=1000/\D.nx (ρ'.set i (.ow (ds++[d])))
  | _=>False
 | _=>False
theorem d3 {i:Nat} {K:A7} (hp:PS X st (B0y (tBM K "list" B1e (Q2 i) (W9 (eOf C te) Z0)))):PS X st (sOf C (A0k i te)):=PS.wk hp fun D σ H zz36=>el3 zz36 fun ρ P Dd zz37 ht E=>zz37.elim fun col r=>by
 unfold A0k at ht
 split at ht
 ·rename_i ds0 e0
  obtain⟨a,vs,e1,c,n,e2,t⟩:=r.sl i _ e0
  refine⟨.ref a,G7 e1,.inl ⟨rfl,vs,SqL.of e2⟩,ρ,P,_,⟨col,r⟩,ht,fun v d ρ' H' zz38 q=>zz38.elim fun col' r'=>?_⟩
  split at q
  ·rename_i ds e0'
   obtain⟨a',vs',e1',c',n',e2',t'⟩:=r'.sl i _ e0'
   rw[e1] at e1'
   cases e1'
   exact⟨a,vs',v,rfl,rfl,e2',by rw[t'.len];exact A6v q.1,E.nx _ _ _ ⟨col',((r'.write e0' e1 (t'.snoc (r'.pd _ B2)))).sub fun _ h=>A9 _ h⟩ q.2⟩
  ·exact q.elim
 ·exact ht.elim
def A2w (i:Nat) (te tk:DE)  (D:J5) (ρ:List Sl):Prop:=te ρ fun d ρ1=>match ρ1[i]? with
 | some (.ow _)=>tk ρ1 fun k ρ2=>match ρ2[i]? with
  | some (.ow ds)=>match k with
   | .int k=>bnd (ixN ds.length k) fun j=>D.nx (ρ2.set i (.ow (ds.set j d)))
   | _=>False
  | _=>False
 | _=>False
theorem A6.set {F:Addr->Prop} {H:Hp} {v:V} {d:PyData} (x:ThV F H v d):∀{vs:List V} {ds:List PyData} (j:Nat),A6 F H vs ds->A6 F H (vs.set j v) (ds.set j d)
 | _,_,_,.nil=>.nil
 | _,_,0,.cons _ t=>.cons x t
 | _,_,j + 1,.cons y t=>.cons y (A6.set x j t)
theorem A4b {i:Nat} {tk:DE} (hp:PS X st (A1e (eOf C te) (B5r (Q2 i) (eOf C tk) B6h))):PS X st (sOf C (A2w i te tk)):=PS.wk hp fun D σ H zz39=>el3 zz39 fun ρ P Dd R ht E=>⟨ρ,P,_,R,ht,fun v d ρ1 H1 zz40 q1=>zz40.elim fun col1 r1=>by
 split at q1
 ·rename_i ds0 e0
  obtain⟨a,vs,e1,c,n,e2,t⟩:=r1.sl i _ e0
  refine⟨.ref a,G7 e1,ρ1,_,_,⟨col1,r1⟩,q1,fun w k ρ2 H2 zz41 q2=>zz41.elim fun col2 r2=>?_⟩
  split at q2
  ·rename_i ds e0'
   cases k with
   | int k'=>
    obtain⟨j,hj,q⟩:=J2 q2
    obtain⟨a',vs',e1',c',n',e2',t'⟩:=r2.sl i _ e0'
    rw[e1] at e1'
    cases e1'
    have tw:ThV (Z col2) H2 w (.int k'):=r2.pd _ B2
    cases tw
    refine⟨a,vs',k',j,rfl,rfl,e2',by rw[t'.len];exact hj,E.nx _ _ _ ⟨col2,((r2.write e0' e1 (A6.set (r2.pd (.v v d) (A9 _ B2)) j t'))).sub fun _ h=>A9 _ (A9 _ h)⟩ q⟩
   | _=>exact q2.elim
  ·exact q2.elim
 ·exact q1.elim⟩
abbrev DG:=PyData->List Sl->(List Sl->Prop)->Prop
def gOf (C:DC) (g:DG):TG:=fun v σ H Q=>∃ρ P d Qd,Rel C ρ σ (.v v d::P) H/\g d ρ Qd/\∀ρ' σ',Rel C ρ' σ' P H->Qd ρ'->Q σ' H
theorem PG.wk {tg:Expr} {g g':TG} (h:PG X tg g) (f:∀v σ H Q,g' v σ H Q->g v σ H Q):PG X tg g':=fun pins s σ H v u Q I r q=>h pins s σ H v u Q I r (f v σ H Q q)
def gN (i:Nat)  (d:PyData) (ρ:List Sl) (Q:List Sl->Prop):Prop:=Q (ρ.set i (.sh d))
theorem R6 {tg:Expr} {i:Nat} (h:PG X tg (Y7 i)):PG X tg (gOf C (gN i)):=PG.wk h fun _ _ _ _ ⟨_,_,_,_,⟨col,r⟩,ht,k⟩=>k _ _ ⟨col,((r.store (i:=i) (r.pd _ B2)).sub fun _ h=>A9 _ h)⟩ ht
def gT2 (i j:Nat)  (d:PyData) (ρ:List Sl) (Q:List Sl->Prop):Prop:=match d with
 | .tuple [a,b]=>Q ((ρ.set i (.sh a)).set j (.sh b))
 | _=>False
def gT3 (i j k:Nat)  (d:PyData) (ρ:List Sl) (Q:List Sl->Prop):Prop:=match d with
 | .tuple [a,b,c]=>Q (((ρ.set i (.sh a)).set j (.sh b)).set k (.sh c))
 | _=>False
theorem A9a {tg:Expr} {i j:Nat} {K:A7} (h:PG X tg (B01 K 2 (A3q (Y7 i) (A3q (Y7 j) B00)))):PG X tg (gOf C (gT2 i j)):=PG.wk h fun v σ H Q ⟨ρ,P,d,Qd,⟨col,r⟩,ht,k⟩=>by
 unfold gT2 at ht
 split at ht
 ·rename_i a b
  have z:ThV (Z col) H v (.tuple [a,b]):=r.pd _ B2
  cases z with
  | tup za e t=>
   obtain⟨x,y,rfl,t1,t2⟩:=B1v t
   exact⟨_,_,rfl,SqT.of e,rfl,x,[y],rfl,y,[],rfl,rfl,k _ _ ⟨col,(((r.store (i:=i) t1).store (i:=j) t2).sub fun _ h=>A9 _ h)⟩ ht⟩
 ·exact ht.elim
theorem B7v {tg:Expr} {i j l:Nat} {K:A7} (h:PG X tg (B01 K 3 (A3q (Y7 i) (A3q (Y7 j) (A3q (Y7 l) B00))))):PG X tg (gOf C (gT3 i j l)):=PG.wk h fun v σ H Q ⟨ρ,P,d,Qd,⟨col,r⟩,ht,k⟩=>by
 unfold gT3 at ht
 split at ht
 ·rename_i a b c
  have z:ThV (Z col) H v (.tuple [a,b,c]):=r.pd _ B2
  cases z with
  | tup za e t=>
   cases t with
   | cons t1 t=>
    obtain⟨y,z,rfl,t2,t3⟩:=B1v t
    exact⟨_,_,rfl,SqT.of e,rfl,_,[y,z],rfl,y,[z],rfl,z,[],rfl,rfl,k _ _ ⟨col,((((r.store (i:=i) t1).store (i:=j) t2).store (i:=l) t3).sub fun _ h=>A9 _ h)⟩ ht⟩
 ·exact ht.elim
def A2x (te:DE) (g:DG)  (D:J5) (ρ:List Sl):Prop:=te ρ fun d ρ'=>g d ρ' D.nx
theorem B7w {g:DG} (hp:PS X st (A1e (eOf C te) (gOf C g))):PS X st (sOf C (A2x te g)):=PS.wk hp fun _ _ _ zz45=>el3 zz45 fun ρ P _ R ht E=>⟨ρ,P,_,R,ht,fun v d ρ' H' R' q=>⟨ρ',P,d,_,R',q,fun ρ2 σ2 R2 q2=>E.nx _ _ _ R2 q2⟩⟩
def Blk (t:DS) (D:J5) (ρ:List Sl):Prop:=t D ρ
def B14 (it:DF) (g:DG) (tb:DS) (D:J5) (ρ:List Sl):Prop:=it ρ fun xs ρ1=>∃I:List PyData->List Sl->Prop,I xs ρ1/\(∀x r ρ,I (x::r) ρ->g x ρ (Blk tb { nx:=I r,ct:=I r,bk:=D.nx,rt:=D.rt }))/\∀ρ,I [] ρ->D.nx ρ
theorem O4 {it:DF} {g:DG} {tb:DS} (hp:PS X st (B5v (iOf C it) (gOf C g) (sOf C tb))):PS X st (sOf C (B14 it g tb)):=PS.wk hp fun D σ H zz46=>el3 zz46 fun ρ P Dd R ht E=>⟨ρ,P,_,R,ht,fun xs ρ1 P1 H1 J R1 s1 io q=>by
 obtain⟨I,q0,qs,qd⟩:=q
 refine⟨fun i m σ' H'=>m=xs.length - i/\i<=xs.length/\∃ρ',Rel C ρ' σ' P1 H'/\I (xs.drop i) ρ',⟨xs.length,by simp,L4 _,ρ1,R1,q0⟩,?_⟩
 rintro i m σ2 H2 ⟨rfl,hi,ρ2,R2,q2⟩
 by_cases hlt:i < xs.length
 ·rw[g6 hlt] at q2
  refine .inr ⟨io.go (fun _ h=>h) R2 hlt,fun σ' H'=>∃ρ',Rel C ρ' σ' P1 H'/\I (xs.drop (i + 1)) ρ',fun σ' H' h=>⟨xs.length - (i + 1),by lia,rfl,hlt,h⟩,fun x H3 y=>?_⟩
  refine⟨ρ2,P1,_,_,io.yld (fun _ h=>h) R2 (J6 hlt) y,qs _ _ _ q2,fun ρ3 σ3 R3 q3=>?_⟩
  refine⟨ρ3,P1,⟨I (xs.drop (i + 1)),Dd.rt,Dd.nx,I (xs.drop (i + 1)),fun _=>False⟩,R3,q3,⟨fun ρ4 σ4 H4 R4 q4=>⟨ρ4,R4,q4⟩,fun v d ρ4 σ4 H4 R4 q4=>E.rt v d ρ4 σ4 H4 (R4.sub (B69 s1)) q4,fun ρ4 σ4 H4 R4 q4=>E.nx ρ4 σ4 H4 (R4.sub s1) q4,fun ρ4 σ4 H4 R4 q4=>⟨ρ4,R4,q4⟩,fun _ _ _ _ _ _ _ _ h=>h.elim⟩⟩
 ·have e:i=xs.length:=by lia
  subst e
  rw[List.drop_length] at q2
  exact .inl ⟨io.stop (fun _ h=>h) R2,E.nx _ _ _ (R2.sub s1) (qd _ q2)⟩⟩
def A69 (c:DT) (tb:DS)  (D:J5) (ρ:List Sl):Prop:=∃W:Nat->List Sl->Prop,(∃m,W m ρ)/\∀m ρ,W m ρ->c ρ fun b ρ1=>if b=true then Blk tb { nx:=fun ρ'=>∃m',m' < m/\W m' ρ',ct:=fun ρ'=>∃m',m' < m/\W m' ρ',bk:=D.nx,rt:=D.rt } ρ1 else D.nx ρ1
theorem A9b {tb:DS} (hp:PS X st (B02 (cOf C c) (sOf C tb))):PS X st (sOf C (A69 c tb)):=PS.wk hp fun D σ H ⟨ρ,P,Dd,R,⟨W,⟨m0,w0⟩,turn⟩,E⟩=>by
 refine⟨fun m σ' H'=>∃ρ',Rel C ρ' σ' P H'/\W m ρ',⟨m0,ρ,R,w0⟩,?_⟩
 rintro m σ1 H1 ⟨ρ1,R1,w1⟩
 refine⟨ρ1,P,_,R1,turn m ρ1 w1,fun b ρ2 H2 R2 q2=>?_⟩
 cases b with
 | true=>
  refine L5 ⟨fun σ' H'=>∃ρ',Rel C ρ' σ' P H'/\∃m',m' < m/\W m' ρ',fun σ' H' zz48=>zz48.elim fun ρ' zz49=>zz49.elim fun R' zz50=>zz50.elim fun m' zz51=>zz51.elim fun hm w=>⟨m',hm,ρ',R',w⟩,ρ2,P,⟨fun ρ'=>∃m',m' < m/\W m' ρ',Dd.rt,Dd.nx,fun ρ'=>∃m',m' < m/\W m' ρ',fun _=>False⟩,R2,by simpa [Blk] using q2,⟨fun ρ4 σ4 H4 R4 q4=>⟨ρ4,R4,q4⟩,E.rt,fun ρ4 σ4 H4 R4 q4=>E.nx ρ4 σ4 H4 R4 q4,fun ρ4 σ4 H4 R4 q4=>⟨ρ4,R4,q4⟩,fun _ _ _ _ _ _ _ _ h=>h.elim⟩⟩
 | false=>exact M4 (E.nx _ _ _ R2 (by simpa using q2))
end
open PySem.Spec PyProof.Rows
def W0:Md->PyData->Sl
 | .sh,d=>.sh d
 | .bo,.list ds=>.bo ds
 | .bo,_=>.no
 | .hd,_=>.hd
 | .b2,d=>match B1y d with
  | some dss=>.b2 dss
  | none=>.no
 | .bd,d=>.bd d
theorem B7x:∀dss:List (List PyData),A0h (lls dss)=some dss
 | []=>rfl
 | ds::dss=>by
  show (A0h (lls dss)).map (ds::·)=some (ds::dss)
  rw[B7x dss];rfl
theorem C47 (dss:List (List PyData)):W0 .b2 (.list (lls dss))=.b2 dss:=by
 show (match A0h (lls dss) with
  | some dss=>Sl.b2 dss
  | none=>.no)=_
 rw[B7x]
def o0 (n:Nat):List Md->List PyData->List Sl
 | m::ms,d::ds=>W0 m d::o0 (n - 1) ms ds
 | _,_=>D9 n .no
def X2:List Str->List Md->List PyData->List Sl
 | [],_,_=>[]
 | _::N,ms,ds=>(match ms,ds with
  | m::_,d::_=>W0 m d
  | _,_=>.no)::X2 N ms.tail ds.tail
theorem B7y:∀N:List Str,X2 N [] []=D9 N.length .no
 | []=>rfl
 | _::N=>by
  show Sl.no::X2 N [] []=_
  rw[B7y N];rfl
theorem B15:∀{N:List Str} {ms:List Md} {ds:List PyData},ms.length<=N.length->ds.length=ms.length->X2 N ms ds=o0 N.length ms ds
 | N,[],[],_,_=>B7y N
 | _::N,m::ms,d::ds,h1,h2=>by
  show W0 m d::X2 N ms ds=W0 m d::o0 (N.length + 1 - 1) ms ds
  rw[B15 (by simpa using h1) (by simpa using h2)];rfl
 | [],_::_,_,h,_=>by simp at h
 | _,[],_::_,_,h=>by simp at h
 | _,_::_,[],_,h=>by simp at h
section
variable {P:Program} {w:World} {K:A7} {mg:Str->Option Value} {base:Heap}
theorem B7z {C:DC} {col:Addr->Nat} {H:Hp} {F:Addr->Prop} {hand:Option (Addr×Addr)} (hC:C.hand=hand) (hH:C.H0=H) (f:∀b,F b->col b=0) (lo:∀b,col b<=1) {ms:List Md} {vs:List V} {ds:List PyData} {n:Nat} (ar:V1 F hand H ms vs ds) :
  ∀(i:Nat) (s:Sl),(o0 n ms ds)[i]?=some s->∀j:Nat,SlR C col H j ((vs.map some++D9 (n - vs.length) none)[i]?).join s:=by
 induction ar generalizing n with
 | nil=>
  intro i s e j
  have e':(D9 n Sl.no)[i]?=some s:=e
  rw[B43] at e'
  split at e'
  ·cases e';trivial
  ·cases e'
 | @cons m v d ms vs ds a t ih=>
  intro i s e j
  have e':(W0 m d::o0 (n - 1) ms ds)[i]?=some s:=e
  cases i with
  | zero=>
   cases e'
   show SlR C col H j (some v) (W0 m d)
   have mv0:∀b o,F b->H b=some o->Z col b/\H b=some o:=fun b o z e=>⟨f b z,e⟩
   cases m with
   | sh=>exact⟨v,rfl,ThV.mv mv0 a⟩
   | bo=>
    obtain⟨ad,us,es,rfl,rfl,nh,e2,t2⟩:=a
    exact⟨ad,us,rfl,lo ad,by rw[hC];exact nh,e2,A6.mv mv0 t2⟩
   | hd=>
    obtain⟨q,hq,rfl⟩:=a
    exact⟨q,hC.trans hq,rfl⟩
   | b2=>
    obtain⟨ad,as,dss,rfl,rfl,nh,e2,t2⟩:=a
    rw[C47]
    exact⟨ad,as,rfl,⟨lo ad,by rw[hC];exact nh⟩,e2,t2.mv mv0 fun b o g e=>⟨⟨lo b,by rw[hC];exact g⟩,e⟩⟩
   | bd=>exact⟨v,rfl,ThV.mv (fun b o g e=>⟨⟨(by rw[hH,e];exact fun q=>nomatch q),by rw[hC];exact g⟩,by rw[hH];exact e⟩) a⟩
  | succ i=>
   have:=ih (n:=n - 1) i s e' j
   rw[U4,A3j,A3k,F3,show n - (vs.length + 1)=n - 1 - vs.length by lia]
   exact this
theorem B70 {F:Addr->Prop} {hand:Option (Addr×Addr)} {H:Hp} {ms:List Md} {vs:List V} {ds:List PyData} {n:Nat} (a:V1 F hand H ms vs ds) (h:ms.length<=n):(o0 n ms ds).length=n:=by
 induction a generalizing n with
 | nil=>show (D9 n Sl.no).length=n;rw[k6]
 | @cons m v d ms vs ds a t ih=>
  show (W0 m d::o0 (n - 1) ms ds).length=n
  rw[F3] at h
  rw[F3,ih (by lia)]
  lia
open Classical in
theorem F2 {x qual:Str} {st:Stmt} {f:Addr} {fd:FuncData} {N ps:List Str} {k:Nat} {sp:DSp} {ms:List Md} (F:Fun K x qual st f fd) (S:E3 N ps (C2 st)) (hm:ms.length=ps.length)
  (hb:∀(C:DC) (cdv:Value) (A:Around) (outer:List Env) (s:Shared) (H:Hp) (E:XK),P8 k (A.deeper (envOfC qual (C2 st) s.heap.objs.size f cdv))->
   ∃t,PSs (i9 CX0 P w K mg base N qual (C2 st) f cdv A outer s H E).nox (j1 st) (sOf C t)/\∀ds Q,ds.length=ms.length->sp ds Q->t { nx:=fun _=>Q .none,rt:=Q } (X2 N ms ds)) :
  C9 P w K mg base CX0 (k + 1) f fd ps (spD ms sp):=by
 refine F.ok S (fun vs H Q E h=>?_) (fun cdv A outer s H vs Q E hr h=>?_)
 ·obtain⟨_,_,_,_,_,_,_,a,_⟩:=h
  rw[a.len.1,hm]
 ·obtain⟨G,hand,ds,Qd,h1,h2,h3,a,h4,h5⟩:=h
  obtain⟨t,ht,q⟩:=hb ⟨G,hand,H⟩ cdv A outer s H E hr
  have hN:ps.length<=N.length:=by have:=congrArg A6b S.pre;rw[T3] at this;lia
  let col:Addr->Nat:=fun b=>if G b then 0 else 1
  have c0:∀b,G b->col b=0:=fun b hb=>if_pos hb
  have c1:∀b,¬ G b->col b=1:=fun b hb=>if_neg hb
  have lo:∀b,col b<=1:=fun b=>by
   by_cases z:G b
   ·rw[c0 b z];lia
   ·rw[c1 b z];lia
  refine⟨_,ht,o0 N.length ms ds,[],⟨fun _=>Qd .none,Qd,fun _=>False,fun _=>False,fun _=>False⟩,⟨col,fun b hb=>c0 b (h1.1 b hb),fun b hb=>?_,fun q hq=>c1 _ (h2 q hq),fun i s e=>B7z (C:=⟨G,hand,H⟩) rfl rfl c0 lo a i s e i,fun p hp=>(nomatch hp),Kq.refl,h3,h3,h1,?_⟩,by rw[<-B15 (by lia) a.len.2];exact q ds Qd a.len.2 h4,⟨fun ρ σ H' R h=>?_,fun v d ρ σ H' R h=>?_,fun _ _ _ _ h=>h.elim,fun _ _ _ _ h=>h.elim,fun _ _ _ _ _ _ _ _ h=>h.elim⟩⟩
  ·by_cases z:G b
   ·exact z
   ·rw[c1 b z] at hb;cases hb
  ·rw[B70 a (by lia)]
   unfold L2.start
   rw[F5,C7,k6,a.len.1]
   lia
  ·obtain⟨col',r⟩:=R
   exact h5 _ _ _ h .non r.kq r.hq
  ·obtain⟨col',r⟩:=R
   exact h5 _ _ _ h (ThV.mv (fun b o z e=>⟨r.inF b z,e⟩) (r.pd _ B2)) r.kq r.hq
open Classical in
end
end My
namespace My
open PySem L2
section
variable {X:Cx} {C:DC} {tg e a b:Expr} {t ta tb:DE} {u:DF} {pos:Pos}
def o7:List PyData->Option (List Int)
 | []=>some []
 | .int b::r=>(o7 r).map (b::·)
 | _::_=>none
theorem B16 {F:Addr->Prop} {H:Hp} {ds:List PyData} {vs:List V} {bs:List Int} (t:A6 F H vs ds) (h:o7 ds=some bs):vs=bs.map V.int:=by
 induction ds generalizing vs bs with
 | nil=>cases t;cases h;rfl
 | cons d r ih=>
  cases t with
  | cons x y=>
   cases x with
   | int b=>
    have h':(o7 r).map (b::·)=some bs:=h
    cases q:o7 r with
    | none=>rw[q] at h';cases h'
    | some cs=>
     rw[q] at h'
     cases h'
     rw[ih y q];rfl
   | _=>cases h
theorem A9c:∀ns:List Int,o7 (ns.map PyData.int)=some ns
 | []=>rfl
 | n::ns=>by
  show (o7 (ns.map PyData.int)).map (n::·)=some (n::ns)
  rw[A9c ns];rfl
def gIn (neg:Bool)  (a b:PyData) (Q:PyData->Prop):Prop:=match a,b with
 | .int i,.list xs=>bnd (o7 xs) fun ns=>Q (.bool (if neg then !(ns.contains i) else ns.contains i))
 | _,_=>False
theorem B71 (i:Int):∀ns:List Int,inV (V.int i) (ns.map V.int)=ns.contains i
 | []=>rfl
 | n::ns=>by
  have:=B71 i ns
  unfold inV at this ⊢
  rw[U4,A6c,this,List.contains_cons]
  congr 1
  show (n == i)=(i == n)
  exact Bool.beq_comm
theorem B72:∀ns:List Int,(ns.map V.int).all l9=true
 | []=>rfl
 | n::ns=>by rw[U4,B0k,B72 ns];rfl
theorem C48 {K:A7} {neg:Bool}:O2 C (rIn K neg) (gIn neg):=by
 intro ρ σ P H v w a b Qd Q R hg k
 unfold gIn at hg
 split at hg
 ·obtain⟨ns,hn,q⟩:=J2 hg
  obtain⟨col,r,t1,t2⟩:=th2 R
  cases t1
  cases t2 with
  | lst za e t=>
   have z:=B16 t hn
   subst z
   refine⟨_,_,rfl,.inl (SqL.of e),rfl,B72 ns,k _ _ _ ⟨col,r.push ?_⟩ q⟩
   rw[B71]
   exact .bl _
 ·exact hg.elim
def A2y (i:Nat) (tk:DE)  (ρ:List Sl) (Q:PyData->List Sl->Prop):Prop:=bnd (N4 ρ i) fun a0=>bnd (K8 a0) fun _=>tk ρ fun k ρ2=>match k with
 | .int k=>bnd (N4 ρ2 i) fun a=>bnd (K8 a) fun xs=>bnd (o7 xs) fun ns=>(k∈ns/\ns.length<=100000)/\Q (.int (ns.idxOf k:Nat)) ρ2
 | _=>False
theorem B73 {i:Nat} {K:A7} (h:PE X e (tBM K "list" (B60 K) (Q2 i) (W9 (eOf C t) Z0))):PE X e (eOf C (A2y i t)):=PE.wk h fun σ H Q zz1=>el3 zz1 fun ρ P Qd zz2 ht k=>zz2.elim fun col0 r0=>by
 obtain⟨a0,h0,ht⟩:=J2 ht
 obtain⟨xs0,hx0,ht⟩:=J2 ht
 have:=A2p hx0
 subst this
 obtain⟨v,ev,t0⟩:=r0.slot h0
 obtain⟨a,vs,rfl,e0,_⟩:=t0.lst
 refine⟨_,ev,.inl ⟨rfl,vs,SqL.of e0⟩,ρ,P,_,⟨col0,r0⟩,ht,fun w d ρ2 H2 R2 h2=>?_⟩
 split at h2
 ·rename_i kk
  obtain⟨a1,h1,h2⟩:=J2 h2
  obtain⟨xs,hx,h2⟩:=J2 h2
  obtain⟨ns,hn,⟨hk,hz⟩,q⟩:=J2 h2
  have:=A2p hx
  subst this
  obtain⟨col,r⟩:=R2
  obtain⟨v',ev',t1⟩:=r.slot h1
  rw[ev] at ev'
  cases ev'
  obtain⟨a',vs',e',e1,t1⟩:=t1.lst
  cases e'
  have z:=B16 t1 hn
  subst z
  have tw:ThV (Z col) H2 w (.int kk):=r.pd _ B2
  cases tw
  exact⟨a,ns,kk,rfl,rfl,SqL.of e1,hk,hz,k _ _ _ _ ⟨col,(r.sub fun _ h=>A9 _ h).push (.int _)⟩ q⟩
 ·exact h2.elim
def A2z (t:DE)  (ρ:List Sl) (Q:List PyData->List Sl->Prop):Prop:=t ρ fun d ρ'=>bnd (K8 d) fun xs=>Q xs.reverse ρ'
theorem A6.rev {F:Addr->Prop} {H:Hp} {vs:List V} {ds:List PyData} (t:A6 F H vs ds):A6 F H vs.reverse ds.reverse:=by
 induction vs generalizing ds with
 | nil=>cases t;exact .nil
 | cons v vs ih=>
  cases t with
  | cons x t=>
   rw[B5a,B5a]
   exact (ih t).append (.cons x .nil)
theorem C49 {K:A7} (h:PE X e (fun σ H Q=>W9 (eOf C t) Z0 σ H fun vs H1=>∃a xs,vs=[.ref a]/\SqL K H1 a xs/\∀p,H1 p=none->Q (.ref p) (upd H1 p (.lst xs.reverse)))):PE X e (fOf C (A2z t)):=PE.wk h fun _ _ _ zz3=>el3 zz3 fun ρ P _ R ht k=>⟨ρ,P,_,R,ht,fun v d ρ' H' zz4 q=>zz4.elim fun col r=>by
 obtain⟨xs,hx,q⟩:=J2 q
 have:=A2p hx
 subst this
 obtain⟨a,vs,rfl,e,t⟩:=Red.lst (.th (r.pd _ B2))
 exact⟨a,vs,rfl,SqL.of e,fun p hp=>k _ _ _ _ _ ⟨col,r.sub fun _ h=>A9 _ h,t.rev⟩ hp q⟩⟩
theorem C5a {K:A7} {a:Addr} {vs:List V} {xs:List PyData} {P:List Pe}:A37 C (Itv K a vs.length) xs.reverse (.n a (.lst vs)::.s vs xs::P) where
 go:=fun {i ρ σ P' H} s R hi=>by
  obtain⟨col,r⟩:=R
  have h1:=r.pd _ (s _ B2)
  have h2:A6 (Z col) H vs xs:=r.pd _ (s _ (A9 _ B2))
  have hl:=h2.len
  rw[A6f] at hi
  exact⟨vs,vs.reverse[i]'(by rw[A6f];lia),SqL.of h1.2.2,rfl,J6 _⟩
 yld:=fun {i ρ σ P' H H' x d} s R hi y=>by
  obtain⟨e,y⟩:=y
  subst e
  obtain⟨col,r⟩:=R
  have h1:=r.pd _ (s _ B2)
  have h2:A6 (Z col) H' vs xs:=r.pd _ (s _ (A9 _ B2))
  have hx:=y vs (SqL.of h1.2.2)
  obtain⟨d',e1,t⟩:=h2.rev.get hx
  rw[hi] at e1
  cases e1
  exact⟨col,r.push t⟩
 stop:=fun {ρ σ P' H} s R=>by
  obtain⟨col,r⟩:=R
  have h2:A6 (Z col) H vs xs:=r.pd _ (s _ (A9 _ B2))
  have hl:=h2.len
  show vs.length<=xs.reverse.length
  rw[A6f];lia
def B17 (t:DE)  (ρ:List Sl) (Q:List PyData->List Sl->Prop):Prop:=t ρ fun d ρ'=>bnd (K8 d) fun xs=>Q xs.reverse ρ'
theorem C5b {K:A7} (h:PI X tg e (B63 K (W9 (eOf C t) Z0))):PI X tg e (iOf C (B17 t)):=PI.wk h fun _ _ _ zz5=>el3 zz5 fun ρ P _ R ht k=>⟨ρ,P,_,R,ht,fun v d ρ' H' zz6 q=>zz6.elim fun col r=>by
 obtain⟨xs,hx,q⟩:=J2 q
 have:=A2p hx
 subst this
 obtain⟨a,vs,rfl,za,e1,t1⟩:=n6 (show ThV (Z col) H' v (.list xs) from r.pd _ B2)
 refine⟨a,vs,rfl,SqL.of e1,k _ ρ' (.n a (.lst vs)::.s vs xs::P) H' _ ⟨col,?_⟩ (fun _ h=>A9 _ (A9 _ h)) C5a q⟩
 exact ((r.sub fun _ h=>A9 _ h).add (x:=.s vs xs) t1).add (x:=.n a (.lst vs)) ⟨by rw[show col a=0 from za];decide,r.notH (by rw[show col a=0 from za];decide),e1⟩⟩
theorem o8 {n j:Nat} {it:DF} {tt:DT} {te:DE} (hn:n=j + 1) (h:PE X e (x9 (iOf C it) n j (fun _=>cOf C tt) (fun _=>eOf C te))):PE X e (fOf C (Z3 j it tt te)):=PE.wk h fun _ _ _ h=>B13 hn h
def gB2 (f:Bool->Bool->Bool)  (a b:PyData) (Q:PyData->Prop):Prop:=match a,b with
 | .bool i,.bool j=>Q (.bool (f i j))
 | _,_=>False
end
theorem A7a {α:Type} {x:α} {xs:List α}:atI (x::xs) 0=some x:=j0 (j:=0) rfl
theorem A4c {α:Type} {x:α}:atI [x] 0=some x:=rfl
theorem A4d {α:Type} {x y:α}:atI [x,y] 0=some x:=rfl
theorem A4e {α:Type} {x y:α}:atI [x,y] 1=some y:=rfl
theorem A4f {α:Type} {x y z:α}:atI [x,y,z] 0=some x:=rfl
theorem A4g {α:Type} {x y z:α}:atI [x,y,z] 1=some y:=rfl
theorem A4h {α:Type} {x y z:α}:atI [x,y,z] 2=some z:=rfl
theorem A4i {a b:Prop}:(if true=true then a else b)=a:=rfl
theorem A4j {a b:Prop}:(if false=true then a else b)=b:=rfl
theorem A4k {a b:Bool}:(if true=true then a else b)=a:=rfl
theorem A4l {a b:Bool}:(if false=true then a else b)=b:=rfl
theorem A4m {a b:Int}:(if true=true then a else b)=a:=rfl
theorem A4n {a b:Int}:(if false=true then a else b)=b:=rfl
theorem A4o {α:Type} {a:α} {Q:α->Prop}:bnd (some a) Q=Q a:=rfl
theorem o9 {α:Type} {te:DE} {ρ:List Sl} {Q:List PyData->Prop} {g f:α->PyData}:∀{xs:List α} {acc:List PyData},(∀x∈xs,∀Q':PyData->List Sl->Prop,Q' (f x) (ρ++[.sh (g x)])->te (ρ++[.sh (g x)]) Q')->Q (acc++xs.map f)->n8 B7u te ρ Q (xs.map g) acc
 | [],acc,_,q=>by
  have q':Q (acc++[]):=q
  rw[Q0] at q'
  exact q'
 | x::r,acc,h,q=>by
  refine⟨rfl,?_⟩
  rw[if_pos rfl]
  refine h x B2 _ ⟨rfl,o9 (fun y hy=>h y (A9 _ hy)) ?_⟩
  rw[L1]
  exact q
theorem A7b {α:Type} {tt:DT} {te:DE} {ρ:List Sl} {Q:List PyData->Prop} {g f:α->PyData} {p:α->Bool}:∀{xs:List α} {acc:List PyData},(∀x∈xs,∀Q':Bool->List Sl->Prop,Q' (p x) (ρ++[.sh (g x)])->tt (ρ++[.sh (g x)]) Q')->(∀x∈xs,p x=true->∀Q':PyData->List Sl->Prop,Q' (f x) (ρ++[.sh (g x)])->te (ρ++[.sh (g x)]) Q')->
  Q (acc++(xs.filter p).map f)->n8 tt te ρ Q (xs.map g) acc
 | [],acc,_,_,q=>by
  have q':Q (acc++[]):=q
  rw[Q0] at q'
  exact q'
 | x::r,acc,h1,h2,q=>by
  refine h1 x B2 _ ⟨rfl,?_⟩
  cases e:p x with
  | true=>
   rw[if_pos rfl]
   refine h2 x B2 e _ ⟨rfl,A7b (fun y hy=>h1 y (A9 _ hy)) (fun y hy=>h2 y (A9 _ hy)) ?_⟩
   rw[A6g e] at q
   rw[L1]
   exact q
  | false=>
   rw[if_neg G6]
   refine A7b (fun y hy=>h1 y (A9 _ hy)) (fun y hy=>h2 y (A9 _ hy)) ?_
   rw[A3l (by rw[e];exact G6)] at q
   exact q
theorem B18 {xs:List PyData} {k:Nat}:S9 xs none (some ((k:Nat):Int))=xs.take k:=by
 unfold S9
 rw[HT.sIx_none,HT.sIx_nat,A3m,Nat.sub_zero]
 by_cases h:k<=xs.length
 ·rw[A08 h]
 ·rw[Nat.min_eq_right (by lia),v5 (D2 _),v5 (by lia)]
theorem C5c {xs:List PyData} {i j:Nat} (h1:i<=xs.length) (h2:j<=xs.length):S9 xs (some ((i:Nat):Int)) (some ((j:Nat):Int))=(xs.drop i).take (j - i):=by
 unfold S9
 rw[HT.sIx_nat,HT.sIx_nat,A08 h1,A08 h2]
def B19 (tt:DT) (te:DE) (ρ:List Sl) (Q:List PyData->Prop):List PyData->List PyData->Prop
 | [],acc=>Q acc
 | .tuple [x,y,z]::r,acc=>tt (ρ++[.sh x,.sh y,.sh z]) fun b ρ'=>ρ'=ρ++[.sh x,.sh y,.sh z]/\if b=true then te (ρ++[.sh x,.sh y,.sh z]) fun d ρ''=>ρ''=ρ++[.sh x,.sh y,.sh z]/\B19 tt te ρ Q r (acc++[d]) else B19 tt te ρ Q r acc
 | _::_,_=>False
def A4p (it:DF) (tt:DT) (te:DE) (ρ:List Sl) (Q:List PyData->List Sl->Prop):Prop:=it ρ fun xs ρ1=>xs.length<=1000/\B19 tt te ρ1 (fun ds=>Q ds ρ1) xs []
section
variable {X:Cx} {C:DC}
open Classical in
def gT5 (i j k l n:Nat)  (d:PyData) (ρ:List Sl) (Q:List Sl->Prop):Prop:=match d with
 | .tuple [a,b,c,e,f]=>Q (((((ρ.set i (.sh a)).set j (.sh b)).set k (.sh c)).set l (.sh e)).set n (.sh f))
 | _=>False
def A0l:List PyData->Option (List Str)
 | []=>some []
 | .str b::r=>(A0l r).map (b::·)
 | _::_=>none
def A4q (neg:Bool)  (a b:PyData) (Q:PyData->Prop):Prop:=match a,b with
 | .str i,.tuple xs=>bnd (A0l xs) fun ns=>Q (.bool (if neg then !(inV (.str i) (ns.map V.str)) else inV (.str i) (ns.map V.str)))
 | _,_=>False
def A4r  (ds:List PyData) (Q:PyData->Prop):Prop:=match ds with
 | [.list xs]=>xs≠[]/\(∀x∈xs,∃i j:Int,x=.tuple [.int i,.int j])/\∀x∈xs,Q x
 | _=>False
end
def N7 (b:Nat×Int):PyData:=.tuple [.int (b.1:Nat),.int b.2]
section
variable {X:Cx} {C:DC} {e:Expr} {u:DF}
def A4s (i:Nat) (tk:DE)  (ρ:List Sl) (Q:PyData->List Sl->Prop):Prop:=match ρ[i]? with
 | some (.ow _)=>tk ρ fun k ρ'=>match ρ'[i]? with
  | some (.ow ds)=>match k with
   | .int k=>bnd (ixN ds.length k) fun j=>bnd (ds[j]?) fun d=>ds.length<=1000/\Q d (ρ'.set i (.ow (ds.eraseIdx j)))
   | _=>False
  | _=>False
 | _=>False
def A4t (t:DE)  (ρ:List Sl) (Q:List PyData->List Sl->Prop):Prop:=t ρ fun d ρ'=>match d with
 | .int n=>(0<=n/\n<=1000)/\Q (J3 0 n.toNat) ρ'
 | _=>False
end
def C5d (xs ys:List PyData):List PyData:=(xs.zip ys).map fun p=>.tuple [p.1,p.2]
section
variable {X:Cx} {C:DC} {tg e:Expr} {t u:DE}
def A4u (t u:DE)  (ρ:List Sl) (Q:List PyData->List Sl->Prop):Prop:=t ρ fun d ρ1=>u ρ1 fun d2 ρ2=>bnd (K8 d) fun xs=>bnd (K8 d2) fun ys=>Q (C5d xs ys) ρ2
end
def B2a (tt:DT) (te:DE) (ρ:List Sl) (Q:List PyData->Prop):List PyData->List PyData->Prop
 | [],acc=>Q acc
 | .tuple [x,y]::r,acc=>tt (ρ++[.sh x,.sh y]) fun b ρ'=>ρ'=ρ++[.sh x,.sh y]/\if b=true then te (ρ++[.sh x,.sh y]) fun d ρ''=>ρ''=ρ++[.sh x,.sh y]/\B2a tt te ρ Q r (acc++[d]) else B2a tt te ρ Q r acc
 | _::_,_=>False
def A4v (it:DF) (tt:DT) (te:DE) (ρ:List Sl) (Q:List PyData->List Sl->Prop):Prop:=it ρ fun xs ρ1=>xs.length<=1000/\B2a tt te ρ1 (fun ds=>Q ds ρ1) xs []
section
variable {X:Cx} {C:DC}
end
section
variable {X:Cx} {C:DC} {st:Stmt} {te:DE}
end
inductive O5 {α β:Type} (R:α->β->Prop):List α->List β->Prop
 | nil:O5 R [] []
 | cons {a b as bs}:R a b->O5 R as bs->O5 R (a::as) (b::bs)
section
variable {X:Cx} {C:DC} {st:Stmt}
def D2o (i:Nat) (tk te:DE)  (D:J5) (ρ:List Sl):Prop:=match ρ[i]? with
 | some (.ow _)=>tk ρ fun k ρ1=>te ρ1 fun d ρ2=>match ρ2[i]? with
  | some (.ow ds)=>∃n:Nat,k=.int ((n:Nat):Int)/\n<=ds.length/\ds.length<=1000/\D.nx (ρ2.set i (.ow (ds.take n++[d]++ds.drop n)))
  | _=>False
 | _=>False
end
theorem Rws.mvm {G F G' F':Addr->Prop} {H H':Hp} {as:List Addr} {dss:List (List PyData)} (t:Rws G F H as dss) (f:∀b o,F b->H b=some o->F' b/\H' b=some o) (g:∀b o,b∈as->G b->H b=some o->G' b/\H' b=some o):Rws G' F' H' as dss:=by
 induction t with
 | nil=>exact .nil
 | cons x e y _ ih=>
  have:=g _ _ B2 x e
  exact .cons this.1 this.2 (y.mv f) (ih fun b o hb=>g b o (A9 _ hb))
section
variable {C:DC} {col col':Addr->Nat} {ρ:List Sl} {σ σ':St} {P:List Pe} {H H':Hp} {p:Addr}
theorem B9.chg (r:B9 C col ρ σ P H) (i:Nat) (s:Sl) (hl:ρ.length=σ'.length) (fr:∀b,H' b=none->col' b=0) (inF:∀b,col' b=0->C.F b) (hnd:∀q,C.hand=some q->col' q.1=1)
  (z:∀b o,col b=0->H b=some o->col' b=0/\H' b=some o)
  (lo:∀b o,col b<=1->(∀q,C.hand=some q->b≠q.1)->H b=some o->col' b<=1/\H' b=some o)
  (c2:∀c as dss,Pe.o c as dss∈P->∀b o,col b=2 * c + 2->H b=some o->col' b=2 * c + 2/\H' b=some o)
  (ow:∀b o j,j≠i->col b=2 * j + 3->H b=some o->col' b=2 * j + 3/\H' b=some o)
  (kq:Kq C.hand C.H0 H') (hq:Hq C.hand H') (same:∀j,j≠i->σ'[j]?=σ[j]?)
  (new:i < ρ.length->SlR C col' H' i (σ'[i]?).join s):B9 C col' (ρ.set i s) σ' P H':=by
 have mv0:∀b o,Z col b->H b=some o->Z col' b/\H' b=some o:=z
 refine⟨fr,inF,hnd,fun j s' es=>?_,fun x hx=>?_,kq,hq,r.hq0,r.nf,by rw[O8];exact hl⟩
 ·by_cases hj:j=i
  ·subst hj
   rw[g5] at es
   simp only[if_true] at es
   split at es
   ·rename_i hl'
    cases es
    exact new hl'
   ·cases es
  ·rw[U2 (Ne.symm hj)] at es
   rw[same j hj]
   have h:=r.sl j s' es
   cases s' with
   | no=>trivial
   | sh d=>obtain⟨v,e1,t⟩:=h;exact⟨v,e1,t.mv mv0⟩
   | ow ds=>obtain⟨a,vs,e1,c,n,e2,t⟩:=h;exact⟨a,vs,e1,(ow a _ j hj c e2).1,n,(ow a _ j hj c e2).2,t.mv mv0⟩
   | bo ds=>obtain⟨a,vs,e1,c,n,e2,t⟩:=h;exact⟨a,vs,e1,(lo a _ c n e2).1,n,(lo a _ c n e2).2,t.mv mv0⟩
   | hd=>exact h
   | o2 dss=>obtain⟨a,as,e1,c,e2,nd,t⟩:=h;exact⟨a,as,e1,⟨(ow a _ j hj c.1 e2).1,c.2⟩,(ow a _ j hj c.1 e2).2,nd,t.mv mv0 fun b o g e=>⟨⟨(ow b o j hj g.1 e).1,g.2⟩,(ow b o j hj g.1 e).2⟩⟩
   | b2 dss=>obtain⟨a,as,e1,c,e2,t⟩:=h;exact⟨a,as,e1,⟨(lo a _ c.1 c.2 e2).1,c.2⟩,(lo a _ c.1 c.2 e2).2,t.mv mv0 fun b o g e=>⟨⟨(lo b o g.1 g.2 e).1,g.2⟩,(lo b o g.1 g.2 e).2⟩⟩
   | di f ks=>
    obtain⟨a,e1,c,n,e2⟩:=h
    obtain⟨o,ho⟩:=Option.ne_none_iff_exists'.mp e2.ne
    exact⟨a,e1,(ow a o j hj c ho).1,n,e2.mv fun o e=>(ow a o j hj c e).2⟩
   | dm f ks=>
    obtain⟨a,e1,c,n,e2⟩:=h
    obtain⟨o,ho⟩:=Option.ne_none_iff_exists'.mp e2.ne
    exact⟨a,e1,(ow a o j hj c ho).1,n,e2.mv fun o e=>(ow a o j hj c e).2⟩
   | bd d=>exact h
   | ot d=>
    obtain⟨v,e1,t⟩:=h
    refine⟨v,e1,t.mv fun b o g e=>?_⟩
    rcases g with g | ⟨g,xs,gt⟩
    ·exact⟨.inl ⟨(ow b o j hj g.1 e).1,g.2⟩,(ow b o j hj g.1 e).2⟩
    ·have:=z b o g e
     exact⟨.inr ⟨this.1,xs,by rw[e] at gt;rw[this.2];exact gt⟩,this.2⟩
   | ob R=>
    obtain⟨v,e1,t⟩:=h
    refine⟨v,e1,R.mv (fun b o g e=>?_) t⟩
    rcases g with g | ⟨g,xs,gt⟩
    ·exact⟨.inl ⟨(ow b o j hj g.1 e).1,g.2⟩,(ow b o j hj g.1 e).2⟩
    ·have:=z b o g e
     exact⟨.inr ⟨this.1,xs,by rw[e] at gt;rw[this.2];exact gt⟩,this.2⟩
 ·have h:=r.pd x hx
  cases x with
  | v v d=>exact ThV.mv mv0 h
  | n a o=>exact⟨(lo a o h.1 h.2.1 h.2.2).1,h.2.1,(lo a o h.1 h.2.1 h.2.2).2⟩
  | s vs ds=>exact A6.mv mv0 h
  | o c as dss=>exact⟨h.1,h.2.mv mv0 fun b o g e=>⟨⟨(c2 c as dss hx b o g.1 e).1,g.2⟩,(c2 c as dss hx b o g.1 e).2⟩⟩
  | w v d=>exact h
end
section
variable {X:Cx} {C:DC} {a b e:Expr} {pos:Pos}
end
section
variable {X:Cx} {C:DC} {e:Expr}
end
section
variable {X:Cx} {C:DC} {st:Stmt} {e:Expr} {te:DE} {pos:Pos} {u:DA}
def A0m (i:Nat)  (D:J5) (ρ:List Sl):Prop:=match ρ[i]? with
 | some (.o2 dss)=>D.ro (.o2 dss)
 | some (.ow ds)=>D.ro (.ow ds)
 | some (.di false ks)=>D.ro (.di false ks)
 | _=>False
theorem B74 {i:Nat} (h:PE X e (Q2 i)):PS X (.Return (some e) pos) (sOf C (A0m i)):=PS.wk (Y6 h) fun D σ H z=>el3 z fun ρ P Dd R ht E=>R.elim fun col r=>by
 unfold A0m at ht
 split at ht
 ·rename_i dss e0
  obtain⟨a,as,e1,c,e2,nd,t⟩:=r.sl i _ e0
  exact⟨_,G7 e1,E.ro _ (.o2 dss) ρ σ H col r ⟨a,as,rfl,⟨c.2,by lia⟩,e2,nd,t.mv (fun _ _ z e=>⟨z,e⟩) fun b o g e=>⟨⟨g.2,by have:=g.1;lia⟩,e⟩⟩ ht⟩
 ·rename_i ds e0
  obtain⟨a,vs,e1,c,n,e2,t⟩:=r.sl i _ e0
  exact⟨_,G7 e1,E.ro _ (.ow ds) ρ σ H col r ⟨a,vs,rfl,n,by lia,e2,t⟩ ht⟩
 ·rename_i ks e0
  obtain⟨a,e1,c,n,e2⟩:=r.sl i _ e0
  exact⟨_,G7 e1,E.ro _ (.di false ks) ρ σ H col r ⟨a,rfl,n,e2⟩ ht⟩
 ·exact ht.elim
end
section
variable {X:Cx} {C:DC} {e:Expr} {ta:DE}
def A4w (ta:DE)  (ρ:List Sl) (Q:List PyData->List Sl->Prop):Prop:=ta ρ fun a ρ'=>∃ns:List Int,a=.list (ns.map PyData.int)/\ns.length < 64/\∀ms:List Int,ms.Perm ns->ms.Pairwise (·<=·)->Q (ms.map PyData.int) ρ'
theorem B75 {F:Addr->Prop} {H:Hp}:∀{ns:List Int} {vs:List V},A6 F H vs (ns.map PyData.int)->vs=ns.map V.int
 | [],_,.nil=>rfl
 | _::_,_,.cons (.int _) t=>by rw[B75 t];rfl
theorem B76 {F:Addr->Prop} {H:Hp}:∀ns:List Int,A6 F H (ns.map V.int) (ns.map PyData.int)
 | []=>.nil
 | i::ns=>.cons (.int i) (B76 ns)
end
end My
namespace My
abbrev Tb:=List (Option Int)
abbrev Rn:=List (Option Nat)
abbrev Wy:=Nat×Nat×Int
def E4 (st lv c:Int):Option Int:=if lv + c < 0 then none else some (if st < lv + c then st else lv + c)
def gt {α:Type} (t:List (Option α)) (p:Nat):Option α:=(t[p]?).join
def K9 (st:Int) (t:Tb) (w:Wy):Option Int:=match gt t w.1 with
 | none=>none
 | some l=>E4 st l w.2.2
def R7:Option Int->Option Int->Bool
 | none,_=>false
 | some _,none=>true
 | some a,some b=>decide (b < a)
def leO (a b:Option Int):Prop:=R7 a b=false
theorem M9 {a b:Int}:leO (some a) (some b)↔a<=b:=by unfold leO R7;simp
theorem A20 {b:Option Int}:leO none b:=rfl
theorem X3 {a:Int}:¬ leO (some a) none:=by unfold leO R7;simp
theorem d4 (a:Option Int):leO a a:=by
 cases a with
 | none=>rfl
 | some x=>exact M9.mpr (b9 x)
theorem V3 {a b c:Option Int} (h1:leO a b) (h2:leO b c):leO a c:=by
 cases a with
 | none=>rfl
 | some x=>
  cases b with
  | none=>exact absurd h1 X3
  | some y=>
   cases c with
   | none=>exact absurd h2 X3
   | some z=>exact M9.mpr (T4 (M9.mp h1) (M9.mp h2))
theorem C5e {a b:Option Int} (h1:leO a b) (h2:leO b a):a=b:=by
 cases a with
 | none=>cases b with
  | none=>rfl
  | some y=>exact absurd h2 X3
 | some x=>cases b with
  | none=>exact absurd h1 X3
  | some y=>rw[Int.le_antisymm (M9.mp h1) (M9.mp h2)]
theorem B77 {a b:Option Int} (h:R7 a b=true):leO b a:=by
 cases a with
 | none=>cases h
 | some x=>cases b with
  | none=>rfl
  | some y=>unfold R7 at h;exact M9.mpr (by have:=of_decide_eq_true h;lia)
theorem B2b {a b:Option Int} (h:R7 a b=true):¬ leO a b:=fun z=>by unfold leO at z;rw[z] at h;cases h
theorem B2c {a b:Option Int}:R7 a b=true\/leO a b:=by
 cases e:R7 a b with
 | true=>exact .inl rfl
 | false=>exact .inr e
theorem A9d {st a b c:Int} (h:a<=b):leO (E4 st a c) (E4 st b c):=by
 unfold E4
 by_cases h1:a + c < 0
 ·rw[if_pos h1];rfl
 ·have h2:¬ b + c < 0:=by lia
  rw[if_neg h1,if_neg h2]
  apply M9.mpr
  split <;> split <;> lia
theorem A7c {st l c x:Int} (h0:0<=st) (h:E4 st l c=some x):0<=x/\x<=st:=by
 unfold E4 at h
 split at h
 ·cases h
 ·have:=Option.some.inj h
  subst this
  split <;> lia
def leT (t u:Tb):Prop:=∀p,leO (gt t p) (gt u p)
theorem B78 (t:Tb):leT t t:=fun _=>d4 _
theorem C5f {t u v:Tb} (a:leT t u) (b:leT u v):leT t v:=fun p=>V3 (a p) (b p)
theorem C5g {st:Int} {t u:Tb} {w:Wy} (h:leT t u):leO (K9 st t w) (K9 st u w):=by
 have:=h w.1
 unfold K9
 cases e:gt t w.1 with
 | none=>rfl
 | some a=>
  rw[e] at this
  cases e2:gt u w.1 with
  | none=>rw[e2] at this;exact absurd this X3
  | some b=>rw[e2] at this;exact A9d (M9.mp this)
theorem C5h {st:Int} {t:Tb} {w:Wy} {x:Int} (h0:0<=st) (h:K9 st t w=some x):0<=x/\x<=st:=by
 unfold K9 at h
 split at h
 ·cases h
 ·exact A7c h0 h
structure F1 (m:Nat) (st:Int) (t:Tb):Prop where
 len:t.length=m
 bd:∀p x,gt t p=some x->0<=x/\x<=st
structure F9 (m:Nat) (ws:List Wy):Prop where
 m1:1<=m
 m2:m<=12
 few:ws.length<=40
 st:∀w∈ws,w.1 < m
 en:∀w∈ws,w.2.1 < m
 lo:∀w∈ws,-1000000000000000000<=w.2.2
 hi:∀w∈ws,w.2.2<=1000000000000000000
theorem A21 {α:Type} {t:List (Option α)} {p:Nat} (h:t.length<=p):gt t p=none:=by unfold gt;rw[Y2 h];rfl
theorem A7d {α:Type} {t:List (Option α)} {p:Nat} (h:p < t.length):t[p]?=some (gt t p):=by unfold gt;rw[J6 h];rfl
theorem Z4 {α:Type} {t:List (Option α)} {i j:Nat} {x:Option α} (h:i < t.length):gt (t.set i x) j=if i=j then x else gt t j:=by
 unfold gt
 rw[g5]
 by_cases e:i=j
 ·rw[if_pos e,if_pos h,if_pos e];rfl
 ·rw[if_neg e,if_neg e]
theorem A0n {α:Type} {m p:Nat}:gt (D9 m (none:Option α)) p=none:=by
 unfold gt
 rw[B43]
 split <;> rfl
theorem B79 {t u:Tb} (hl:t.length=u.length) (h:∀p,gt t p=gt u p):t=u:=by
 apply A71
 intro i
 by_cases hi:i < t.length
 ·rw[A7d hi,A7d (by lia),h i]
 ·rw[Y2 (by lia),Y2 (by lia)]
theorem C5i {t u:Tb} (hl:t.length=u.length) (h1:leT t u) (h2:leT u t):t=u:=B79 hl fun p=>C5e (h1 p) (h2 p)
def A0o (st:Int) (t:Tb) (acc:Tb×Rn) (p:Wy×Nat):Tb×Rn:=
 if R7 (K9 st t p.1) (gt acc.1 p.1.2.1)=true then (acc.1.set p.1.2.1 (K9 st t p.1),acc.2.set p.1.2.1 (some p.2)) else acc
def M5 (m:Nat) (ws:List Wy) (st:Int) (t s:Tb):Tb×Rn:=ws.zipIdx.foldl (A0o st t) (s,D9 m none)
structure A4x (m:Nat) (ws:List Wy) (st:Int) (t s:Tb) (L:List (Wy×Nat)) (acc:Tb×Rn):Prop where
 l1:acc.1.length=m
 l2:acc.2.length=m
 up:leT s acc.1
 no:∀p,gt acc.2 p=none->gt acc.1 p=gt s p
 yes:∀p n,gt acc.2 p=some n->∃w,ws[n]?=some w/\w.2.1=p/\gt acc.1 p=K9 st t w/\R7 (K9 st t w) (gt s p)=true
 top:∀q∈L,leO (K9 st t q.1) (gt acc.1 q.1.2.1)
theorem C5j {m:Nat} {ws:List Wy} {st:Int} {t s:Tb} {L:List (Wy×Nat)} {acc:Tb×Rn} (ok:F9 m ws) (I:A4x m ws st t s L acc) {q:Wy×Nat} (hq:ws[q.2]?=some q.1):A4x m ws st t s (L++[q]) (A0o st t acc q):=by
 have hw:q.1∈ws:=Q8 hq
 have he:q.1.2.1 < m:=ok.en _ hw
 unfold A0o
 by_cases c:R7 (K9 st t q.1) (gt acc.1 q.1.2.1)=true
 ·rw[if_pos c]
  have g1:∀j,gt (acc.1.set q.1.2.1 (K9 st t q.1)) j=if q.1.2.1=j then K9 st t q.1 else gt acc.1 j:=fun j=>Z4 (by rw[I.l1];exact he)
  have g2:∀j,gt (acc.2.set q.1.2.1 (some q.2)) j=if q.1.2.1=j then some q.2 else gt acc.2 j:=fun j=>Z4 (by rw[I.l2];exact he)
  have hup:∀j,leO (gt acc.1 j) (gt (acc.1.set q.1.2.1 (K9 st t q.1)) j):=fun j=>by
   rw[g1]
   by_cases e:q.1.2.1=j
   ·rw[if_pos e,<-e];exact B77 c
   ·rw[if_neg e];exact d4 _
  refine⟨by rw[O8];exact I.l1,by rw[O8];exact I.l2,fun p=>V3 (I.up p) (hup p),fun p hp=>?_,fun p n hp=>?_,fun r hr=>?_⟩
  ·rw[g2] at hp
   by_cases e:q.1.2.1=p
   ·rw[if_pos e] at hp;cases hp
   ·rw[if_neg e] at hp;rw[g1,if_neg e];exact I.no p hp
  ·rw[g2] at hp
   by_cases e:q.1.2.1=p
   ·rw[if_pos e] at hp
    cases hp
    refine⟨q.1,hq,e,by rw[g1,if_pos e],?_⟩
    rcases B2c (a:=K9 st t q.1) (b:=gt s p) with z | z
    ·exact z
    ·exact absurd (V3 z (I.up p)) (B2b (e▸c))
   ·rw[if_neg e] at hp;rw[g1,if_neg e];exact I.yes p n hp
  ·rcases K7.mp hr with hr | hr
   ·exact V3 (I.top r hr) (hup _)
   ·have:r=q:=by simpa using hr
    subst this
    rw[g1,if_pos rfl];exact d4 _
 ·rw[if_neg c]
  refine⟨I.l1,I.l2,I.up,I.no,I.yes,fun r hr=>?_⟩
  rcases K7.mp hr with hr | hr
  ·exact I.top r hr
  ·have:r=q:=by simpa using hr
   subst this
   rcases B2c (a:=K9 st t r.1) (b:=gt acc.1 r.1.2.1) with z | z
   ·exact absurd z c
   ·exact z
theorem B8a {m:Nat} {ws:List Wy} {st:Int} {t s:Tb} (ok:F9 m ws):∀(R L:List (Wy×Nat)) (acc:Tb×Rn),A4x m ws st t s L acc->(∀q∈R,ws[q.2]?=some q.1)->A4x m ws st t s (L++R) (R.foldl (A0o st t) acc)
 | [],L,acc,I,_=>by rw[Q0];exact I
 | q::R,L,acc,I,h=>by
  have:=B8a ok R (L++[q]) _ (C5j ok I (h q B2)) fun r hr=>h r (A9 _ hr)
  rw[L1] at this
  exact this
theorem j7 {m:Nat} {ws:List Wy} {st:Int} {t s:Tb} (ok:F9 m ws) (hs:s.length=m):A4x m ws st t s ws.zipIdx (M5 m ws st t s):=by
 have h0:A4x m ws st t s [] (s,D9 m none):=⟨hs,by rw[k6],B78 s,fun _ _=>rfl,fun p n h=>(by rw[A0n] at h;cases h),fun q hq=>(nomatch hq)⟩
 have:=B8a ok ws.zipIdx [] _ h0 fun q hq=>by
  obtain⟨w,n⟩:=q
  rw[C1l] at hq
  exact hq
 rw[Q1] at this
 exact this
theorem B8b {m:Nat} {ws:List Wy} {st:Int} {t s:Tb} (ok:F9 m ws) (hs:s.length=m) {w:Wy} (hw:w∈ws):leO (K9 st t w) (gt (M5 m ws st t s).1 w.2.1):=by
 obtain⟨n,hn,e⟩:=A6e.mp hw
 exact (j7 ok hs).top (w,n) (by rw[C1l];show ws[n]?=some w;rw[J6 hn,e])
theorem C5k {m:Nat} {ws:List Wy} {st:Int} {t s:Tb} (ok:F9 m ws) (h0:0<=st) (hs:F1 m st s):F1 m st (M5 m ws st t s).1:=by
 have I:=j7 (st:=st) (t:=t) ok hs.len
 refine⟨I.l1,fun p x h=>?_⟩
 cases e:gt (M5 m ws st t s).2 p with
 | none=>rw[I.no p e] at h;exact hs.bd p x h
 | some n=>
  obtain⟨w,_,_,e2,_⟩:=I.yes p n e
  rw[e2] at h
  exact C5h h0 h
def A0p (ws:List Wy) (st:Int) (t:Tb):Prop:=∀w∈ws,leO (K9 st t w) (gt t w.2.1)
theorem C5l {m:Nat} {ws:List Wy} {st:Int} {t s L:Tb} (ok:F9 m ws) (hs:s.length=m) (h1:leT t L) (h2:leT s L) (c:A0p ws st L):leT (M5 m ws st t s).1 L:=fun p=>by
 have I:=j7 (st:=st) (t:=t) ok hs
 cases e:gt (M5 m ws st t s).2 p with
 | none=>rw[I.no p e];exact h2 p
 | some n=>
  obtain⟨w,hw,e1,e2,_⟩:=I.yes p n e
  rw[e2,<-e1]
  exact V3 (C5g h1) (c w (Q8 hw))
structure T8 (m:Nat) (ws:List Wy) (st:Int) (b t:Tb):Prop where
 tab:F1 m st t
 up:leT b t
 cl:A0p ws st t
 le:∀L,F1 m st L->leT b L->A0p ws st L->leT t L
theorem T8.uniq {m:Nat} {ws:List Wy} {st:Int} {b t u:Tb} (h:T8 m ws st b t) (h':T8 m ws st b u):t=u:=C5i (h.tab.len.trans h'.tab.len.symm) (h.le u h'.tab h'.up h'.cl) (h'.le t h.tab h.up h.cl)
abbrev Rw:=Tb×Rn
def P0 (m:Nat) (ws:List Wy) (st:Int):Nat->Rw->List Rw
 | 0,r=>[r]
 | k + 1,r=>if (M5 m ws st r.1 r.1).1=r.1 then [r] else r::P0 m ws st k (M5 m ws st r.1 r.1)
inductive Rows (m:Nat) (ws:List Wy) (st:Int) (b:Tb):List Rw->Prop
 | one:Rows m ws st b [(b,D9 m none)]
 | more {r rs}:Rows m ws st b (r::rs)->(M5 m ws st r.1 r.1).1≠r.1->Rows m ws st b (M5 m ws st r.1 r.1::r::rs)
theorem B8c {m:Nat} {ws:List Wy} {st:Int} {b:Tb}:∀(k:Nat) (r:Rw) (rs:List Rw),Rows m ws st b (r::rs)->∃r' rs',(rs.reverse++P0 m ws st k r).reverse=r'::rs'/\Rows m ws st b (r'::rs')/\((M5 m ws st r'.1 r'.1).1=r'.1\/(r'::rs').length=rs.length + k + 1)
 | 0,r,rs,h=>⟨r,rs,by simp [P0],h,.inr (by simp)⟩
 | k + 1,r,rs,h=>by
  unfold P0
  by_cases c:(M5 m ws st r.1 r.1).1=r.1
  ·rw[if_pos c]
   exact⟨r,rs,by simp,h,.inl c⟩
  ·rw[if_neg c]
   obtain⟨r',rs',e,h',z⟩:=B8c k _ (r::rs) (.more h c)
   refine⟨r',rs',?_,h',?_⟩
   ·rw[<-e];simp
   ·rcases z with z | z
    ·exact .inl z
    ·refine .inr ?_
     rw[z,F3];lia
section
variable {m:Nat} {ws:List Wy} {st:Int} {b:Tb}
theorem Rows.ok (ok:F9 m ws) (h0:0<=st) (hb:F1 m st b):∀{r:Rw} {rs:List Rw},Rows m ws st b (r::rs)->F1 m st r.1/\r.2.length=m/\leT b r.1
 | _,_,.one=>⟨hb,by simp,B78 b⟩
 | _,_,.more (r:=r) h c=>by
  obtain⟨a1,_,a3⟩:=Rows.ok ok h0 hb h
  have I:=j7 (st:=st) (t:=r.1) ok a1.len
  exact⟨C5k ok h0 a1,I.l2,C5f a3 I.up⟩
theorem Rows.under (ok:F9 m ws) (hb:b.length=m) {L:Tb} (h1:leT b L) (c:A0p ws st L):∀{r:Rw} {rs:List Rw},Rows m ws st b (r::rs)->r.1.length=m/\leT r.1 L
 | _,_,.one=>⟨hb,h1⟩
 | _,_,.more (r:=r) h _=>by
  obtain⟨a1,a2⟩:=Rows.under ok hb h1 c h
  exact⟨(j7 (st:=st) (t:=r.1) ok a1).l1,C5l ok a1 a2 a2 c⟩
theorem Rows.least (ok:F9 m ws) (h0:0<=st) (hb:F1 m st b) {r:Rw} {rs:List Rw} (h:Rows m ws st b (r::rs)) (c:(M5 m ws st r.1 r.1).1=r.1):T8 m ws st b r.1:=by
 obtain⟨a1,_,a3⟩:=h.ok ok h0 hb
 refine⟨a1,a3,fun w hw=>?_,fun L _ h1 cl=>(h.under ok hb.len h1 cl).2⟩
 have:=B8b (st:=st) (t:=r.1) (s:=r.1) ok a1.len hw
 rw[c] at this
 exact this
end
abbrev Ef:=Option (Int×Int×Int)
def EOk (st:Int) (e:Int×Int×Int):Prop:=0<=e.1/\e.1<=st/\0<=e.2.2/\e.2.2<=st/\0<=e.1 + e.2.1/\e.2.2<=st + e.2.1
def K2 (e:Ef) (x:Int):Option Int:=match e with
 | none=>none
 | some (l,g,t)=>if x < l then none else some (if t < x + g then t else x + g)
def V4 (a b:Ef):Ef:=match a,b with
 | some (l1,g1,t1),some (l2,g2,t2)=>if t1 < l2 then none else some (if l2 - g1 > l1 then l2 - g1 else l1,g1 + g2,if t2 < t1 + g2 then t2 else t1 + g2)
 | _,_=>none
theorem A4y {a b:Int×Int×Int} (h:¬ a.2.2 < b.1):V4 (some a) (some b)=some (if b.1 - a.2.1 > a.1 then b.1 - a.2.1 else a.1,a.2.1 + b.2.1,if b.2.2 < a.2.2 + b.2.1 then b.2.2 else a.2.2 + b.2.1):=by
 obtain⟨l1,g1,t1⟩:=a
 obtain⟨l2,g2,t2⟩:=b
 unfold V4
 simp only at h
 simp only[if_neg h]
theorem A7e {a b:Int×Int×Int} (h:a.2.2 < b.1):V4 (some a) (some b)=none:=by
 obtain⟨l1,g1,t1⟩:=a
 obtain⟨l2,g2,t2⟩:=b
 unfold V4
 simp only at h
 simp only[if_pos h]
theorem C5m {st:Int} {a b r:Int×Int×Int} (ha:EOk st a) (hb:EOk st b) (h:V4 (some a) (some b)=some r):EOk st r:=by
 by_cases c:a.2.2 < b.1
 ·rw[A7e c] at h;cases h
 ·rw[A4y c] at h
  cases h
  obtain⟨l1,g1,t1⟩:=a
  obtain⟨l2,g2,t2⟩:=b
  obtain⟨h1,h2,h3,h4,h5,h6⟩:=ha
  obtain⟨i1,i2,i3,i4,i5,i6⟩:=hb
  simp only at h1 h2 h3 h4 h5 h6 i1 i2 i3 i4 i5 i6 c
  refine⟨?_,?_,?_,?_,?_,?_⟩ <;> dsimp only <;> (repeat' split) <;> lia
theorem C5n {a b r:Int×Int×Int} (h:V4 (some a) (some b)=some r) (x:Int):K2 (some r) x=(K2 (some a) x).bind (K2 (some b)):=by
 by_cases c:a.2.2 < b.1
 ·rw[A7e c] at h;cases h
 ·rw[A4y c] at h
  cases h
  obtain⟨l1,g1,t1⟩:=a
  obtain⟨l2,g2,t2⟩:=b
  simp only at c
  unfold K2
  dsimp only
  by_cases c1:x < l1
  ·rw[if_pos c1,if_pos (by split <;> lia)]
   rfl
  ·rw[if_neg c1]
   show _=(if (if t1 < x + g1 then t1 else x + g1) < l2 then none else some (if t2 < (if t1 < x + g1 then t1 else x + g1) + g2 then t2 else (if t1 < x + g1 then t1 else x + g1) + g2))
   obtain⟨y,ey,y1,y2,y3⟩:∃y,(if t1 < x + g1 then t1 else x + g1)=y/\y<=t1/\y<=x + g1/\(y=t1\/y=x + g1):=⟨_,rfl,by split <;> lia,by split <;> lia,by split <;> lia⟩
   obtain⟨m,em,m1,m2,m3⟩:∃m,(if l2 - g1 > l1 then l2 - g1 else l1)=m/\l1<=m/\l2 - g1<=m/\(m=l1\/m=l2 - g1):=⟨_,rfl,by split <;> lia,by split <;> lia,by split <;> lia⟩
   obtain⟨n,en,n1,n2,n3⟩:∃n,(if t2 < t1 + g2 then t2 else t1 + g2)=n/\n<=t2/\n<=t1 + g2/\(n=t2\/n=t1 + g2):=⟨_,rfl,by split <;> lia,by split <;> lia,by split <;> lia⟩
   rw[ey,em,en]
   by_cases c2:x < m
   ·rw[if_pos c2,if_pos (show y < l2 by lia)]
   ·rw[if_neg c2,if_neg (show ¬ y < l2 by lia)]
    congr 1
    split <;> split <;> lia
def OkE (st:Int):Ef->Prop
 | none=>True
 | some e=>EOk st e
theorem OkE.join {st:Int} {a b:Ef} (ha:OkE st a) (hb:OkE st b):OkE st (V4 a b):=by
 rcases a with _ | a
 ·exact trivial
 ·rcases b with _ | b
  ·exact trivial
  ·cases q:V4 (some a) (some b) with
   | none=>exact trivial
   | some r=>exact C5m ha hb q
theorem C5o {st:Int} (h:0<=st):EOk st (0,0,st):=⟨b9 _,h,h,b9 _,by simp,by simp⟩
def Z5 (st c:Int):Ef:=if st + c < 0 then none else some (if -c > 0 then -c else 0,c,if st + c < st then st + c else st)
def foF (st:Int) (w:Ef) (cs:List Int):Ef:=cs.foldl (fun w c=>V4 w (Z5 st c)) w
def fxF (st:Int) (cs:List Int):Ef:=foF st (some (0,0,st)) cs
theorem C5p {st:Int} (h:0<=st) (c:Int):OkE st (Z5 st c):=by
 unfold Z5
 split
 ·exact trivial
 ·refine⟨?_,?_,?_,?_,?_,?_⟩ <;> dsimp only <;> (repeat' split) <;> lia
theorem B8d {st:Int} (h:0<=st):∀(cs:List Int) {w:Ef},OkE st w->OkE st (foF st w cs)
 | [],_,hw=>hw
 | c::cs,w,hw=>B8d h cs (hw.join (C5p h c))
theorem C5q {st:Int} (h:0<=st) (cs:List Int):OkE st (fxF st cs):=B8d h cs (C5o h)
theorem C5r (a b:Ef) (x:Int):K2 (V4 a b) x=(K2 a x).bind (K2 b):=by
 rcases a with _ | a
 ·rfl
 ·rcases b with _ | b
  ·show none=(K2 (some a) x).bind (K2 none)
   cases K2 (some a) x <;> rfl
  ·by_cases c:a.2.2 < b.1
   ·rw[A7e c]
    obtain⟨l1,g1,t1⟩:=a
    obtain⟨l2,g2,t2⟩:=b
    simp only at c
    show none=_
    unfold K2
    dsimp only
    by_cases c1:x < l1
    ·rw[if_pos c1];rfl
    ·rw[if_neg c1]
     show none=if (if t1 < x + g1 then t1 else x + g1) < l2 then none else _
     rw[if_pos (by split <;> lia)]
   ·exact C5n (A4y c) x |>.symm▸(by rw[A4y c])
def wkF (st:Int) (o:Option Int) (cs:List Int):Option Int:=cs.foldl (fun o c=>o.bind (fun x=>E4 st x c)) o
theorem A9e (st:Int):∀cs:List Int,wkF st none cs=none
 | []=>rfl
 | _::cs=>A9e st cs
theorem C5s {st x c:Int} (h0:0<=x) (h1:x<=st):K2 (Z5 st c) x=E4 st x c:=by
 unfold Z5 E4
 by_cases d:st + c < 0
 ·rw[if_pos d,if_pos (by lia)]
  rfl
 ·rw[if_neg d]
  unfold K2
  dsimp only
  by_cases e:x + c < 0
  ·rw[if_pos e,if_pos (by split <;> lia)]
  ·rw[if_neg e,if_neg (by split <;> lia)]
   congr 1
   split <;> split <;> (try split) <;> lia
theorem B8e {st:Int} (h:0<=st) (x:Int):∀(cs:List Int) (w:Ef),(∀y,K2 w x=some y->0<=y/\y<=st)->K2 (foF st w cs) x=wkF st (K2 w x) cs
 | [],_,_=>rfl
 | c::cs,w,hw=>by
  have e:K2 (V4 w (Z5 st c)) x=(K2 w x).bind (fun y=>E4 st y c):=by
   rw[C5r]
   cases q:K2 w x with
   | none=>rfl
   | some y=>exact C5s (hw y q).1 (hw y q).2
  show K2 (foF st (V4 w (Z5 st c)) cs) x=wkF st ((K2 w x).bind (fun y=>E4 st y c)) cs
  rw[B8e h x cs _ ?_,e]
  intro y q
  rw[e] at q
  cases q2:K2 w x with
  | none=>rw[q2] at q;cases q
  | some z=>rw[q2] at q;exact A7c h q
theorem B8f {st x:Int} (h0:0<=x) (h1:x<=st):K2 (some (0,0,st)) x=some x:=by
 unfold K2
 dsimp only
 rw[if_neg (by lia)]
 congr 1
 split <;> lia
theorem B2d {st x:Int} (h0:0<=x) (h1:x<=st) (cs:List Int):K2 (fxF st cs) x=wkF st (some x) cs:=by
 unfold fxF
 rw[B8e (by lia) x cs _ ?_,B8f h0 h1]
 intro y q
 rw[B8f h0 h1] at q
 cases q
 exact⟨h0,h1⟩
theorem B8g {st:Int}:∀(cs:List Int) {w:Int×Int×Int} {r:Int×Int×Int},foF st (some w) cs=some r->r.2.1=w.2.1 + cs.sum
 | [],w,r,q=>by
  have q':some w=some r:=q
  cases q'
  simp
 | c::cs,w,r,q=>by
  have q':foF st (V4 (some w) (Z5 st c)) cs=some r:=q
  cases q2:V4 (some w) (Z5 st c) with
  | none=>
   rw[q2] at q'
   have:∀cs:List Int,foF st none cs=none:=by
    intro cs
    induction cs with
    | nil=>rfl
    | cons c cs ih=>exact ih
   rw[this] at q'
   cases q'
  | some a=>
   rw[q2] at q'
   rw[B8g cs q']
   have ga:a.2.1=w.2.1 + c:=by
    unfold Z5 at q2
    split at q2
    ·cases q2
    ·by_cases d:w.2.2 < (if -c > 0 then -c else 0)
     ·rw[A7e (by exact d)] at q2;cases q2
     ·rw[A4y (by exact d)] at q2;cases q2;rfl
   rw[ga,List.sum_cons]
   lia
theorem C5t {st:Int} {cs:List Int} {r:Int×Int×Int} (q:fxF st cs=some r):r.2.1=cs.sum:=by
 rw[B8g cs q]
 show 0 + cs.sum=cs.sum
 lia
def T9 (ws:List Wy) (n:Nat):Nat:=match ws[n]? with
 | some w=>w.1
 | none=>0
def p5 (ws:List Wy) (n:Nat):Nat:=match ws[n]? with
 | some w=>w.2.1
 | none=>0
def Z6 (ws:List Wy) (n:Nat):Int:=match ws[n]? with
 | some w=>w.2.2
 | none=>0
def wlk (ws:List Wy):List Rw->Nat->Nat×List Nat
 | [],p=>(p,[])
 | r::rs,p=>match gt r.2 p with
  | none=>wlk ws rs p
  | some n=>((wlk ws rs (T9 ws n)).1,(wlk ws rs (T9 ws n)).2++[n])
structure Wk (ws:List Wy) (st:Int) (b:Tb) (N:List Nat) (P:Nat->Nat) (L:Nat->Int):Prop where
 way:∀k n,N[k]?=some n->∃w,ws[n]?=some w/\w.1=P k/\w.2.1=P (k + 1)/\E4 st (L k) w.2.2=some (L (k + 1))
 beg:gt b (P 0)=some (L 0)
 rise:∀k,1<=k->k<=N.length->R7 (some (L k)) (gt b (P k))=true
 strict:∀i j,i < j->j<=N.length->P i=P j->L i < L j
theorem C5u {a b c:Option Int} (h:R7 a c=true) (z:leO b c):R7 a b=true:=by
 rcases B2c (a:=a) (b:=b) with q | q
 ·exact q
 ·exact absurd (V3 q z) (B2b h)
section
variable {m:Nat} {ws:List Wy} {st:Int} {b:Tb}
theorem B8h (ok:F9 m ws) (h0:0<=st) (hb:F1 m st b):∀{r:Rw} {rs:List Rw},Rows m ws st b (r::rs)->∀p,((rs=[]/\∃l,gt b p=some l)\/(∃n,gt r.2 p=some n))->
  ∃N P L,wlk ws (r::rs) p=(P 0,N)/\N.length=rs.length/\P N.length=p/\gt r.1 p=some (L N.length)/\Wk ws st b N P L/\∀k,k<=N.length->leO (some (L k)) (gt r.1 (P k))
 | _,_,.one,p,h=>by
  rcases h with ⟨_,l,hl⟩ | ⟨n,hn⟩
  ·refine⟨[],fun _=>p,fun _=>l,?_,rfl,rfl,hl,⟨fun k n e=>by simp at e,hl,fun k h1 h2=>?_,fun i j h1 h2=>?_⟩,fun k _=>by show leO (some l) (gt b p);rw[hl];exact d4 _⟩
   ·unfold wlk
    rw[A0n]
    rfl
   ·simp at h2;lia
   ·simp at h2;lia
  ·rw[A0n] at hn;cases hn
 | _,_,.more (r:=r) (rs:=rs) h c,p,hp=>by
  obtain⟨a1,_,a3⟩:=h.ok ok h0 hb
  have I:=j7 (st:=st) (t:=r.1) ok a1.len
  have hp':∃n,gt (M5 m ws st r.1 r.1).2 p=some n:=by
   rcases hp with ⟨z,_⟩ | z
   ·cases z
   ·exact z
  obtain⟨n,hn⟩:=hp'
  obtain⟨w,hw,e1,e2,e3⟩:=I.yes p n hn
  obtain⟨l,hl⟩:∃l,K9 st r.1 w=some l:=by
   cases q:K9 st r.1 w with
   | none=>rw[q] at e3;cases e3
   | some l=>exact⟨l,rfl⟩
  obtain⟨l',hl',hs⟩:∃l',gt r.1 w.1=some l'/\E4 st l' w.2.2=some l:=by
   have hl2:=hl
   unfold K9 at hl2
   split at hl2
   ·cases hl2
   ·rename_i l' e;exact⟨l',e,hl2⟩
  rw[hl] at e2 e3
  have hq:(rs=[]/\∃l,gt b w.1=some l)\/(∃n,gt r.2 w.1=some n):=by
   cases h with
   | one=>exact .inl ⟨rfl,l',hl'⟩
   | @more r0 rs0 h' c'=>
    obtain⟨b1,_,_⟩:=h'.ok ok h0 hb
    have I0:=j7 (st:=st) (t:=r0.1) ok b1.len
    cases e:gt (M5 m ws st r0.1 r0.1).2 w.1 with
    | some n'=>exact .inr ⟨n',rfl⟩
    | none=>
     have e4:=I0.no w.1 e
     have e5:K9 st r0.1 w=some l:=by
      unfold K9
      rw[<-e4,hl']
      exact hs
     have:=B8b (st:=st) (t:=r0.1) (s:=r0.1) ok b1.len (Q8 hw)
     rw[e5,e1] at this
     exact absurd this (B2b e3)
  obtain⟨N,P,L,f1,f2,f3,f4,W,f6⟩:=B8h ok h0 hb h w.1 hq
  have eL:L N.length=l':=by rw[hl'] at f4;exact (Option.some.inj f4).symm
  let P':Nat->Nat:=fun k=>if k<=N.length then P k else p
  let L':Nat->Int:=fun k=>if k<=N.length then L k else l
  have p1:∀k,k<=N.length->P' k=P k:=fun k hk=>if_pos hk
  have p2:∀k,¬ k<=N.length->P' k=p:=fun k hk=>if_neg hk
  have l1:∀k,k<=N.length->L' k=L k:=fun k hk=>if_pos hk
  have l2:∀k,¬ k<=N.length->L' k=l:=fun k hk=>if_neg hk
  have hlen:(N++[n]).length=N.length + 1:=by simp
  refine⟨N++[n],P',L',?_,by rw[hlen,f2];rfl,by rw[hlen];exact p2 _ (by lia),by rw[hlen,l2 _ (by lia)];exact e2,⟨fun k n' e=>?_,by rw[p1 0 (L4 _),l1 0 (L4 _)];exact W.beg,fun k k1 k2=>?_,fun i j hij hj hp=>?_⟩,fun k hk=>?_⟩
  ·show (match gt (M5 m ws st r.1 r.1).2 p with
    | none=>wlk ws (r::rs) p
    | some n=>((wlk ws (r::rs) (T9 ws n)).1,(wlk ws (r::rs) (T9 ws n)).2++[n]))=_
   rw[hn]
   have:T9 ws n=w.1:=by unfold T9;rw[hw]
   show ((wlk ws (r::rs) (T9 ws n)).1,(wlk ws (r::rs) (T9 ws n)).2++[n])=_
   rw[this,f1,p1 0 (L4 _)]
  ·by_cases hk:k < N.length
   ·rw[b7 hk] at e
    rw[p1 k (by lia),p1 (k + 1) (by lia),l1 k (by lia),l1 (k + 1) (by lia)]
    exact W.way k n' e
   ·rw[X9 (by lia)] at e
    have hk':k=N.length:=by
     match q:k - N.length with
     | 0=>lia
     | z + 1=>rw[q] at e;simp at e
    subst hk'
    rw[A6h] at e
    cases e
    refine⟨w,hw,?_,?_,?_⟩
    ·rw[p1 _ (D2 _),f3]
    ·rw[p2 _ (by lia),e1]
    ·rw[l1 _ (D2 _),l2 _ (by lia),eL];exact hs
  ·by_cases hk:k<=N.length
   ·rw[p1 k hk,l1 k hk];exact W.rise k k1 hk
   ·rw[p2 k hk,l2 k hk];exact C5u e3 (a3 p)
  ·by_cases hk:j<=N.length
   ·rw[l1 i (by lia),l1 j hk]
    rw[p1 i (by lia),p1 j hk] at hp
    exact W.strict i j hij hk hp
   ·rw[hlen] at hj
    rw[p1 i (by lia),p2 j hk] at hp
    rw[l1 i (by lia),l2 j hk]
    have z:=f6 i (by lia)
    rw[hp] at z
    cases q:gt r.1 p with
    | none=>rw[q] at z;exact absurd z X3
    | some y=>
     rw[q] at z e3
     have z1:=M9.mp z
     have z2:y < l:=of_decide_eq_true e3
     lia
  ·by_cases hk':k<=N.length
   ·rw[p1 k hk',l1 k hk'];exact V3 (f6 k hk') (I.up _)
   ·rw[p2 k hk',l2 k hk',e2];exact d4 _
end
def seg (N:List Nat) (i j:Nat):List Nat:=(N.drop i).take (j - i)
def chs (ws:List Wy) (ns:List Nat):List Int:=ns.map (Z6 ws)
theorem A4z (N:List Nat) (i:Nat):seg N i i=[]:=by unfold seg;rw[A6h];rfl
theorem B2e {N:List Nat} {i j:Nat} (h:i<=j) (h2:j < N.length):seg N i (j + 1)=seg N i j++[N[j]]:=by
 unfold seg
 have e:j + 1 - i=j - i + 1:=by lia
 rw[e,A72,B5c,show i + (j - i)=j by lia,J6 h2]
 rfl
theorem A9f {N:List Nat} {i j:Nat} (h:j<=N.length):(seg N i j).length=j - i:=by
 unfold seg
 rw[T3,A70]
 lia
theorem B8i (st:Int) (o:Option Int) (xs ys:List Int):wkF st o (xs++ys)=wkF st (wkF st o xs) ys:=by unfold wkF;rw[List.foldl_append]
section
variable {ws:List Wy} {st:Int} {b:Tb} {N:List Nat} {P:Nat->Nat} {L:Nat->Int}
theorem Wk.ch (W:Wk ws st b N P L) {k:Nat} (h:k < N.length):E4 st (L k) (Z6 ws N[k])=some (L (k + 1)):=by
 obtain⟨w,hw,_,_,e⟩:=W.way k N[k] (J6 h)
 unfold Z6
 rw[hw]
 exact e
theorem Wk.seg (W:Wk ws st b N P L) {i:Nat}:∀{j:Nat},i<=j->j<=N.length->wkF st (some (L i)) (chs ws (My.seg N i j))=some (L j)
 | 0,h1,_=>by
  have:i=0:=by lia
  subst this
  rw[A4z];rfl
 | j + 1,h1,h2=>by
  by_cases e:i=j + 1
  ·subst e
   rw[A4z];rfl
  ·rw[B2e (by lia) (by lia)]
   unfold chs
   rw[P6,B8i]
   have:=W.seg (i:=i) (j:=j) (by lia) (by lia)
   unfold chs at this
   rw[this]
   exact W.ch (by lia)
theorem Wk.bd (W:Wk ws st b N P L) (h0:0<=st) {m:Nat} (hb:F1 m st b):∀k,k<=N.length->0<=L k/\L k<=st
 | 0,_=>hb.bd _ _ W.beg
 | k + 1,h=>A7c h0 (W.ch (k:=k) (by lia))
theorem Wk.pl (W:Wk ws st b N P L) {m:Nat} (ok:F9 m ws) (hb:F1 m st b):∀k,k<=N.length->P k < m
 | 0,_=>by
  by_cases h:P 0 < m
  ·exact h
  ·have:=W.beg
   rw[A21 (by rw[hb.len];lia)] at this
   cases this
 | k + 1,h=>by
  obtain⟨w,hw,_,e,_⟩:=W.way k N[k] (J6 (by lia))
  rw[<-e]
  exact ok.en w (Q8 hw)
theorem Wk.lid (W:Wk ws st b N P L) {T:Tb} (c:A0p ws st T) {i:Nat} {x:Int} (hx:leO (some x) (gt T (P i))):∀{j:Nat} {y:Int},i<=j->j<=N.length->wkF st (some x) (chs ws (My.seg N i j))=some y->leO (some y) (gt T (P j))
 | 0,y,h1,_,e=>by
  have:i=0:=by lia
  subst this
  rw[A4z] at e
  cases e
  exact hx
 | j + 1,y,h1,h2,e=>by
  by_cases q:i=j + 1
  ·subst q
   rw[A4z] at e
   cases e
   exact hx
  ·rw[B2e (by lia) (by lia)] at e
   unfold chs at e
   rw[P6,B8i] at e
   obtain⟨w,hw,e1,e2,_⟩:=W.way j N[j] (J6 (by lia))
   cases z:wkF st (some x) ((My.seg N i j).map (Z6 ws)) with
   | none=>rw[z] at e;cases e
   | some v=>
    rw[z] at e
    have e':E4 st v (Z6 ws N[j])=some y:=e
    have ih:=W.lid c hx (j:=j) (y:=v) (by lia) (by lia) z
    have hc:Z6 ws N[j]=w.2.2:=by unfold Z6;rw[hw]
    cases g:gt T (P j) with
    | none=>rw[g] at ih;exact absurd ih X3
    | some u=>
     rw[g] at ih
     have s1:=A9d (st:=st) (c:=w.2.2) (M9.mp ih)
     rw[<-hc,e',hc] at s1
     have s2:=c w (Q8 hw)
     unfold K9 at s2
     rw[e1,g,e2] at s2
     exact V3 s1 s2
end
def L3 (st lv:Int):List Int->List Int
 | []=>[lv]
 | c::cs=>match E4 st lv c with
  | none=>[lv]
  | some x=>lv::L3 st x cs
theorem C5v {st lv c:Int} {cs:List Int} (h:E4 st lv c=none):L3 st lv (c::cs)=[lv]:=by rw[L3,h]
theorem C5w {st lv c x:Int} {cs:List Int} (h:E4 st lv c=some x):L3 st lv (c::cs)=lv::L3 st x cs:=by rw[L3,h]
theorem B2f {st:Int}:∀{cs:List Int} {x y:Int},wkF st (some x) cs=some y->∀k,k<=cs.length->∃z,(L3 st x cs)[k]?=some z/\wkF st (some x) (cs.take k)=some z
 | [],x,y,_,k,hk=>by
  have:k=0:=by simpa using hk
  subst this
  exact⟨x,rfl,rfl⟩
 | c::cs,x,y,h,k,hk=>by
  cases e:E4 st x c with
  | none=>
   have h':wkF st (E4 st x c) cs=some y:=h
   rw[e,A9e] at h'
   cases h'
  | some x1=>
   have h':wkF st (E4 st x c) cs=some y:=h
   rw[e] at h'
   unfold L3
   rw[e]
   cases k with
   | zero=>exact⟨x,rfl,rfl⟩
   | succ k=>
    obtain⟨z,z1,z2⟩:=B2f h' k (by simpa using hk)
    refine⟨z,z1,?_⟩
    show wkF st (E4 st x c) (cs.take k)=some z
    rw[e];exact z2
theorem B2g {st:Int}:∀{cs:List Int} {x y:Int},wkF st (some x) cs=some y->(L3 st x cs).length=cs.length + 1
 | [],_,_,_=>rfl
 | c::cs,x,y,h=>by
  have h':wkF st (E4 st x c) cs=some y:=h
  cases e:E4 st x c with
  | none=>rw[e,A9e] at h';cases h'
  | some x1=>
   rw[e] at h'
   unfold L3
   rw[e,F3,F3,B2g h']
theorem B8j {st:Int}:∀{cs:List Int} {x y:Int},wkF st (some x) cs=some y->y=x + cs.sum\/st∈L3 st x cs
 | [],x,y,h=>by
  cases h
  exact .inl (by simp)
 | c::cs,x,y,h=>by
  have h':wkF st (E4 st x c) cs=some y:=h
  cases e:E4 st x c with
  | none=>rw[e,A9e] at h';cases h'
  | some x1=>
   rw[e] at h'
   have hd:(L3 st x1 cs).head?=some x1:=by
    cases cs with
    | nil=>rfl
    | cons d ds=>
     unfold L3
     cases E4 st x1 d <;> rfl
   by_cases q:x1=st
   ·refine .inr ?_
    unfold L3
    rw[e]
    refine A9 _ ?_
    have hm:=List.mem_of_head? hd
    have e3:(st∈L3 st x1 cs)=(x1∈L3 st x1 cs):=congrArg (·∈L3 st x1 cs) q.symm
    rw[e3]
    exact hm
   ·have e1:x1=x + c:=by
     unfold E4 at e
     split at e
     ·cases e
     ·have e2:=Option.some.inj e
      split at e2
      ·exact absurd e2.symm q
      ·exact e2.symm
    rcases B8j h' with z | z
    ·refine .inl ?_
     rw[z,e1,List.sum_cons];lia
    ·refine .inr ?_
     unfold L3
     rw[e]
     exact A9 _ z
structure Rnd (st:Int) (cs:List Int) (x:Int) (le g tp:Int) (k:Nat):Prop where
 fx:fxF st cs=some (le,g,tp)
 g0:0 < g
 gs:g=cs.sum
 xt:x < tp
 tst:tp<=st
 kl:k<=cs.length
 ki:(L3 st tp cs).idxOf st=k
 km:st∈L3 st tp cs
 kw:wkF st (some tp) (cs.take k)=some st
 ll:(L3 st tp cs).length=cs.length + 1
theorem C5x {st:Int} {cs:List Int} {x y:Int} (h0:0<=x) (h1:x<=st) (w:wkF st (some x) cs=some y) (hy:x < y):∃le g tp k,Rnd st cs x le g tp k/\le<=x:=by
 have hp:=B2d h0 h1 cs
 rw[w] at hp
 have hok:=C5q (by lia) cs (st:=st)
 cases e:fxF st cs with
 | none=>rw[e] at hp;cases hp
 | some r=>
  obtain⟨le,g,tp⟩:=r
  rw[e] at hp hok
  have gs:=C5t e
  obtain⟨o1,o2,o3,o4,o5,o6⟩:=hok
  simp only at o1 o2 o3 o4 o5 o6 gs
  unfold K2 at hp
  dsimp only at hp
  split at hp
  ·cases hp
  ·rename_i hle
   have hy2:=Option.some.inj hp
   have g0:0 < g:=by split at hy2 <;> lia
   have xt:x < tp:=by split at hy2 <;> lia
   have wt:=B2d (st:=st) (x:=tp) o3 o4 cs
   rw[e] at wt
   unfold K2 at wt
   dsimp only at wt
   rw[if_neg (by lia),if_pos (by lia)] at wt
   have km:st∈L3 st tp cs:=by
    rcases B8j wt.symm with z | z
    ·lia
    ·exact z
   have hlt:=B0l.mpr km
   have ll:=B2g wt.symm
   rw[ll] at hlt
   obtain⟨z,z1,z2⟩:=B2f wt.symm ((L3 st tp cs).idxOf st) (by lia)
   have ez:z=st:=by
    have hl2:=B0l.mpr km
    rw[J6 hl2,C1i hl2] at z1
    exact (Option.some.inj z1).symm
   subst ez
   exact⟨le,g,tp,_,⟨e,g0,gs,xt,o4,by lia,rfl,km,z2,ll⟩,by lia⟩
section
variable {m:Nat} {ws:List Wy} {st:Int} {b:Tb} {N:List Nat} {P:Nat->Nat} {L:Nat->Int}
theorem B8k {N:List Nat} {i j k:Nat} (h:k<=j - i):(seg N i j).take k=seg N i (i + k):=by
 unfold seg
 rw[List.take_take,show min k (j - i)=k by lia,show i + k - i=k by lia]
theorem C5y (W:Wk ws st b N P L) {i j:Nat} (hij:i < j) (hj:j<=N.length) (hp:P i=P j) {le g tp:Int} {k:Nat} (hle:le<=L i) (R:Rnd st (chs ws (seg N i j)) (L i) le g tp k) {T:Tb} (hT:F1 m st T) (hb:leT b T) (c:A0p ws st T) :
  leO (some st) (gt T (P (i + k))):=by
 have kl:k<=j - i:=by
  have:=R.kl
  unfold chs at this
  rw[C7,A9f hj] at this
  exact this
 have h0:leO (some (L 0)) (gt T (P 0)):=by rw[<-W.beg];exact hb _
 have hi:=W.lid c h0 (j:=i) (L4 _) (by lia) (W.seg (L4 _) (by lia))
 cases q:gt T (P i) with
 | none=>rw[q] at hi;exact absurd hi X3
 | some z=>
  rw[q] at hi
  have hz:=M9.mp hi
  obtain⟨z0,z1⟩:=hT.bd _ _ q
  have wz:=B2d z0 z1 (chs ws (seg N i j))
  rw[R.fx] at wz
  unfold K2 at wz
  dsimp only at wz
  rw[if_neg (by lia)] at wz
  have hr:=W.lid c (x:=z) (by rw[q];exact d4 _) (j:=j) (by lia) hj wz.symm
  rw[<-hp,q] at hr
  have hr':=M9.mp hr
  have:=R.g0
  have htz:tp<=z:=by split at hr' <;> lia
  have ht:leO (some tp) (gt T (P i)):=by rw[q];exact M9.mpr htz
  refine W.lid c ht (j:=i + k) (by lia) (by lia) ?_
  have kw:=R.kw
  unfold chs at kw ⊢
  rw[<-v6,B8k kl] at kw
  exact kw
theorem C5z (W:Wk ws st b N P L) (h0:0<=st) (hb:F1 m st b) {i j k:Nat} (hij:i < j) (hj:j<=N.length) (hp:P i=P j) (hk:i + k<=j):gt b (P (i + k))≠some st:=fun e=>by
 have key:∀q,1<=q->q<=N.length->gt b (P q)≠some st:=fun q h1 h2 e=>by
  have r:=W.rise q h1 h2
  rw[e] at r
  have:=of_decide_eq_true r
  have:=(W.bd h0 hb q h2).2
  lia
 by_cases hk0:i + k=0
 ·rw[hk0] at e
  have:i=0:=by lia
  rw[this] at hp
  rw[hp] at e
  exact key j (by lia) hj e
 ·exact key (i + k) (by lia) (by lia) e
theorem T8.fill (hb:F1 m st b) {p:Nat} (hp:p < m) {t:Tb} (h:T8 m ws st (b.set p (some st)) t) (hl:∀T,F1 m st T->leT b T->A0p ws st T->leO (some st) (gt T p)):T8 m ws st b t:=by
 have g:∀j,gt (b.set p (some st)) j=if p=j then some st else gt b j:=fun j=>Z4 (by rw[hb.len];exact hp)
 refine⟨h.tab,fun q=>V3 ?_ (h.up q),h.cl,fun T hT h1 h2=>h.le T hT (fun q=>?_) h2⟩
 ·rw[g]
  by_cases e:p=q
  ·rw[if_pos e]
   cases z:gt b q with
   | none=>rfl
   | some x=>exact M9.mpr (hb.bd _ _ z).2
  ·rw[if_neg e];exact d4 _
 ·rw[g]
  by_cases e:p=q
  ·rw[if_pos e,<-e];exact hl T hT h1 h2
  ·rw[if_neg e];exact h1 q
theorem C50 (h0:0<=st) (hb:F1 m st b) {p:Nat} (hp:p < m):F1 m st (b.set p (some st)):=by
 refine⟨by rw[O8];exact hb.len,fun q x h=>?_⟩
 rw[Z4 (by rw[hb.len];exact hp)] at h
 by_cases e:p=q
 ·rw[if_pos e] at h;cases h;exact⟨h0,b9 _⟩
 ·rw[if_neg e] at h;exact hb.bd q x h
end
def A22 (st:Int) (b:Tb):Nat:=b.countP fun x=>!(x == some st)
theorem B8l (st:Int):∀(b:Tb) (p:Nat),p < b.length->gt b p≠some st->A22 st (b.set p (some st)) < A22 st b
 | [],_,h,_=>by simp at h
 | x::b,0,_,h=>by
  have hx:x≠some st:=h
  show List.countP _ (some st::b) < List.countP _ (x::b)
  rw[List.countP_cons_of_neg (by simp),List.countP_cons_of_pos (by simp [hx])]
  lia
 | x::b,p + 1,h1,h2=>by
  have ih:=B8l st b p (by simpa using h1) h2
  show List.countP _ (x::b.set p (some st)) < List.countP _ (x::b)
  unfold A22 at ih
  rw[List.countP_cons,List.countP_cons]
  lia
theorem A9g:∀(m:Nat) (l:List Nat),l.Nodup->(∀x∈l,x < m)->l.length<=m
 | 0,l,_,h=>by
  cases l with
  | nil=>exact D2 _
  | cons x r=>exact absurd (h x B2) (by lia)
 | m + 1,l,nd,h=>by
  by_cases c:m∈l
  ·have h1:=A9g m (l.erase m) (nd.erase m) fun x hx=>by
    have h2:=h x (List.mem_of_mem_erase hx)
    have h3:x≠m:=fun e=>by
     subst e
     exact absurd hx (nd.not_mem_erase)
    lia
   rw[List.length_erase_of_mem c] at h1
   lia
  ·have:=A9g m l nd fun x hx=>by
    have h2:=h x hx
    have h3:x≠m:=fun e=>c (e▸hx)
    lia
   lia
abbrev Sp2:=Nat×Int
def U0 (m:Nat) (b:Sp2):Tb:=(D9 m none).set b.1 (some b.2)
def enF (t:Tb) (g:Sp2):Bool:=match gt t g.1 with
 | none=>false
 | some l=>decide (g.2<=l)
section
variable {m:Nat} {ws:List Wy} {st:Int} {b g:Sp2}
theorem B8m:(U0 m b).length=m:=by unfold U0;rw[O8,k6]
end
section
variable {ws:List Wy} {row:List Nat} {cs:List Int} {st sc gv x y:Int} {p0:Nat}
end
section
variable {m:Nat} {row:List Nat} {cs:List Int} {sc gv:Int} {B S ws:List Wy}
end
section
variable {m:Nat} {ws:List Wy} {row:List Nat} {cs:List Int} {sc gv st x y:Int} {p0 pl:Nat}
end
section
variable {m:Nat} {ws:List Wy} {st:Int}
end
section
variable {m:Nat} {st:Int}
end
end My
namespace L2
open PySem PySem.Spec PyProof.Rows
def B8n (N:List Str) (osc scope:Scope) (x:Str) (j:Nat):Bool:=
 decide N.Nodup&&decide (N[j]?=some x)&&decide (scope.kind=.function)&&decide (osc.kind=.function)&&(scope.names.lookup x == some .local)&&
  scope.names.all fun y=>match y.2 with
   | .cell=>false
   | .local=>scope.names.lookup y.1 == some .local&&(y.1 == x||!(N.contains y.1))
   | .free=>osc.names.lookup y.1 == some .cell
   | _=>true
theorem O1.old {N:List Str} {osc scope:Scope} {x:Str} {j:Nat} (h:B8n N osc scope x j=true):O1 N N osc scope j x:=by
 unfold B8n at h
 simp only[k8,decide_eq_true_eq,B47,beq_iff_eq] at h
 obtain⟨⟨⟨⟨⟨h1,h0⟩,h2⟩,h3⟩,h4⟩,h5⟩:=h
 refine⟨h1,h0,fun i y _ e=>e,A3g _,h2,fun y hy e=>?_,fun y hy e=>?_,fun y hy e=>?_,h4,h3,fun y hy e=>?_⟩
 ·have:=h5 y hy;rw[e] at this;cases this
 ·have:=h5 y hy
  rw[e] at this
  simp only[k8,beq_iff_eq] at this
  exact this.1
 ·have:=h5 y hy
  rw[e] at this
  simp only[k8,Bool.or_eq_true,beq_iff_eq,B48,List.contains_eq_mem,decide_eq_false_iff_not] at this
  exact this.2
 ·have:=h5 y hy
  rw[e] at this
  simp only[beq_iff_eq] at this
  exact this
end L2
namespace My
open PySem L2
def A40 (j:Nat) (tt:DT) (te:DE) (ρ:List Sl) (Q:List PyData->Prop):List PyData->List PyData->Prop
 | [],acc=>Q acc
 | x::r,acc=>tt (ρ.set j (.sh x)) fun b ρ'=>ρ'=ρ.set j (.sh x)/\if b=true then te (ρ.set j (.sh x)) fun d ρ''=>ρ''=ρ.set j (.sh x)/\A40 j tt te ρ Q r (acc++[d]) else A40 j tt te ρ Q r acc
def A0q (n j:Nat) (it:DF) (tt:DT) (te:DE)  (ρ:List Sl) (Q:List PyData->List Sl->Prop):Prop:=it ρ fun xs ρ1=>(ρ1.length=n/\ρ1[j]?=some .no/\xs.length<=1000)/\A40 j tt te ρ1 (fun ds=>Q ds ρ1) xs []
section
variable {X:Cx} {C:DC}
theorem B9.unset {col:Addr->Nat} {ρ:List Sl} {σ:St} {P:List Pe} {H:Hp} {j:Nat} {s:Sl} {v:Option V} (r:B9 C col (ρ.set j s) (σ.set j v) P H) (hj:ρ[j]?=some .no) (hl:ρ.length=σ.length):B9 C col ρ σ P H:=by
 refine { r with sl:=fun i s' e=>?_,len:=hl }
 by_cases c:j=i
 ·subst c
  rw[hj] at e
  cases e
  trivial
 ·have:=r.sl i s' (by rw[U2 c];exact e)
  rw[U2 c] at this
  exact this
theorem C51 {σ:St} {n j:Nat} {x:V} (h1:n=σ.length):(Q9 n j σ).set j (some x)=σ.set j (some x):=by
 subst h1
 unfold Q9
 rw[List.take_append_of_le_length (D2 _),List.take_length,List.set_set]
theorem C52 {it:DF} {tt:DT} {te:DE} {n j:Nat} {σ:St} {H:Hp} {Q:VK} (h:fOf C (A0q n j it tt te) σ H Q):x9 (iOf C it) n j (fun _=>cOf C tt) (fun _=>eOf C te) σ H Q:=by
 obtain⟨ρ,P,Qd,R,ht,k⟩:=h
 refine⟨ρ,P,_,R,ht,fun xs ρ1 P1 H1 J R1 s1 io q=>?_⟩
 obtain⟨⟨hn,hj,hx⟩,q⟩:=q
 have lz:∀m,m<=1000->m<=sizeLine:=fun m hm=>A6a (A6v hm)
 refine⟨fun i m ys H'=>m=xs.length - i/\i<=xs.length/\ys.length<=i/\∃acc,Rel C ρ1 σ (.s ys acc::P1) H'/\A40 j tt te ρ1 (fun ds=>Qd ds ρ1) (xs.drop i) acc,⟨xs.length,by simp,L4 _,D2 _,[],?_,q⟩,?_⟩
 ·obtain⟨col,r⟩:=R1
  exact⟨col,r.add (x:=.s [] []) .nil⟩
 rintro i m ys H2 ⟨rfl,hi,hy,acc,R2,q2⟩
 refine⟨lz _ (by lia),?_⟩
 have sub2:∀p∈P1,p∈Pe.s ys acc::P1:=fun _ h=>A9 _ h
 have hlen:ρ1.length=σ.length:=by obtain⟨col,r⟩:=R2;exact r.len
 by_cases hlt:i < xs.length
 ·rw[g6 hlt] at q2
  refine .inr ⟨io.go sub2 R2 hlt,fun ys' H'=>ys'.length<=i + 1/\∃acc,Rel C ρ1 σ (.s ys' acc::P1) H'/\A40 j tt te ρ1 (fun ds=>Qd ds ρ1) (xs.drop (i + 1)) acc,fun ys' H' hh=>⟨xs.length - (i + 1),by lia,rfl,hlt,hh.1,hh.2⟩,fun x H3 y a=>?_⟩
  have R3:Rel C (ρ1.set j (.sh xs[i])) (σ.set j (some x)) (.s ys acc::P1) H3:=by
   obtain⟨col,r⟩:=io.yld sub2 R2 (J6 hlt) y
   exact⟨col,(r.store (i:=j) (r.pd _ B2)).sub fun _ h=>A9 _ h⟩
  rw[C51 (by rw[<-hlen,hn])]
  refine⟨_,_,_,R3,q2,fun b ρ' H4 R4 q4=>?_⟩
  obtain⟨rfl,q4⟩:=q4
  cases b with
  | true=>
   refine L5 ⟨_,_,_,R4,by simpa using q4,fun v d ρ'' H5 R5 q5=>?_⟩
   obtain⟨rfl,q5⟩:=q5
   refine⟨by rw[F5];simp;lia,acc++[d],?_,q5⟩
   obtain⟨col,r⟩:=R5
   have t1:ThV (Z col) H5 v d:=r.pd _ B2
   have t2:A6 (Z col) H5 ys acc:=r.pd _ (A9 _ B2)
   exact⟨col,((r.unset hj hlen).sub fun _ h=>A9 _ (A9 _ h)).add (x:=.s (ys++[v]) (acc++[d])) (t2.snoc t1)⟩
  | false=>
   refine M4 ⟨by lia,acc,?_,by simpa using q4⟩
   obtain⟨col,r⟩:=R4
   exact⟨col,r.unset hj hlen⟩
 ·have e:i=xs.length:=by lia
  subst e
  rw[List.drop_length] at q2
  refine .inl ⟨io.stop sub2 R2,fun p hp=>k _ _ _ _ _ ?_ hp q2⟩
  obtain⟨col,r⟩:=R2
  exact⟨col,r.sub fun p hp=>A9 _ (s1 p hp),r.pd _ B2⟩
variable {st:Stmt} {te:DE}
end
section
variable {X:Cx} {C:DC} {st:Stmt} {te:DE} {tg e:Expr} {u:DF}
end
section
variable {C:DC}
section
variable {X:Cx} {st:Stmt} {ta:DF}
def A23 (n j:Nat) (it:DF) (tt:DT) (te:DE) (ρ:List Sl) (Q:List PyData->List Sl->Prop):Prop:=A0q n j it tt te (ρ.set j .no) Q
theorem Rel.forget {ρ:List Sl} {σ:St} {P:List Pe} {H:Hp} {j:Nat} (r:Rel C ρ σ P H):Rel C (ρ.set j .no) σ P H:=by
 obtain⟨col,r⟩:=r
 refine⟨col,{ r with sl:=fun i s e=>?_,len:=by rw[O8];exact r.len }⟩
 by_cases c:j=i
 ·subst c
  rw[g5] at e
  simp only[if_true] at e
  split at e
  ·cases e;trivial
  ·cases e
 ·rw[U2 c] at e
  exact r.sl i s e
variable {a b:Expr} {te:DE} {pos:Pos}
end
end
section
variable {X:Cx} {C:DC} {st:Stmt} {te:DE}
end
section
variable {C:DC}
def A24:G2:=gI A3t fun i j=>.int (i * 2 ^ j.toNat)
def A25:G2:=gI0 fun i j=>.int (Builtin.bitAnd i j)
theorem B2h:O2 C (rI A3t (fun i j=>.int (i * 2 ^ j.toNat))) A24:=A63 (f:=fun i j=>.int (i * 2 ^ j.toNat)) fun _ _ _ _=>.int _
theorem A0r:O2 C (rI0 (fun i j=>.int (Builtin.bitAnd i j))) A25:=A1w (f:=fun i j=>.int (Builtin.bitAnd i j)) fun _ _ _ _=>.int _
end
section
variable {X:Cx} {C:DC}
end
section
variable {C:DC}
end
section
variable {X:Cx} {C:DC} {st:Stmt} {te:DE}
end
section
variable {C:DC}
def gOr:G2:=gI0 fun i j=>.int (Builtin.bitOr i j)
theorem A9h:O2 C (rI0 (fun i j=>.int (Builtin.bitOr i j))) gOr:=A1w (f:=fun i j=>.int (Builtin.bitOr i j)) fun _ _ _ _=>.int _
end
def J0:List Sl->Bool
 | []=>true
 | .b2 _::_=>false
 | .no::r=>J0 r
 | .sh _::r=>J0 r
 | .ow _::r=>J0 r
 | .bo _::r=>J0 r
 | .hd::r=>J0 r
 | .o2 _::r=>J0 r
 | .di _ _::r=>J0 r
 | .dm _ _::r=>J0 r
 | .bd _::r=>J0 r
 | .ot _::_=>false
 | .ob _::r=>J0 r
theorem Z7:∀{ρ:List Sl} {j:Nat} {d:List (List PyData)},J0 ρ=true->ρ[j]?=some (.b2 d)->False
 | [],_,_,_,e=>by cases e
 | s::r,0,d,h,e=>by cases e;cases h
 | s::r,j + 1,d,h,e=>by
  have e:r[j]?=some (.b2 d):=e
  cases s with
  | b2 _=>cases h
  | no=>exact Z7 (show J0 r=true from h) e
  | sh _=>exact Z7 (show J0 r=true from h) e
  | ow _=>exact Z7 (show J0 r=true from h) e
  | bo _=>exact Z7 (show J0 r=true from h) e
  | hd=>exact Z7 (show J0 r=true from h) e
  | o2 _=>exact Z7 (show J0 r=true from h) e
  | di _ _=>exact Z7 (show J0 r=true from h) e
  | dm _ _=>exact Z7 (show J0 r=true from h) e
  | bd _=>exact Z7 (show J0 r=true from h) e
  | ot _=>cases h
  | ob _=>exact Z7 (show J0 r=true from h) e
theorem Z8:∀{ρ:List Sl} {j:Nat} {d:PyData},J0 ρ=true->ρ[j]?=some (.ot d)->False
 | [],_,_,_,e=>by cases e
 | s::r,0,d,h,e=>by cases e;cases h
 | s::r,j + 1,d,h,e=>by
  have e:r[j]?=some (.ot d):=e
  cases s with
  | b2 _=>cases h
  | no=>exact Z8 (show J0 r=true from h) e
  | sh _=>exact Z8 (show J0 r=true from h) e
  | ow _=>exact Z8 (show J0 r=true from h) e
  | bo _=>exact Z8 (show J0 r=true from h) e
  | hd=>exact Z8 (show J0 r=true from h) e
  | o2 _=>exact Z8 (show J0 r=true from h) e
  | di _ _=>exact Z8 (show J0 r=true from h) e
  | dm _ _=>exact Z8 (show J0 r=true from h) e
  | bd _=>exact Z8 (show J0 r=true from h) e
  | ot _=>cases h
  | ob _=>exact Z8 (show J0 r=true from h) e
def A26 (C:DC) (a:Addr) (o:HO):DC:=⟨fun b=>C.F b/\b≠a,C.hand,fun b=>if b=a then some o else C.H0 b⟩
section
variable {C:DC} {col col2:Addr->Nat} {ρ:List Sl} {σ:St} {P:List Pe} {H H2:Hp} {i:Nat} {ds:List PyData} {a:Addr} {vs:List V}
theorem B9.lend (r:B9 C col ρ σ P H) (hn:J0 ρ=true) (e1:(σ[i]?).join=some (.ref a)) (ca:col a=2 * i + 3) (n:C.H0 a=none) (e2:H a=some (.lst vs)) (t:A6 (Z col) H vs ds) :
  B9 (A26 C a (.lst vs)) (fun b=>if b=a then 1 else col b) (ρ.set i (.bo ds)) σ P H:=by
 have cn:∀b,b≠a->(if b=a then 1 else col b)=col b:=fun b hb=>if_neg hb
 have nz:∀b,col b<=1->b≠a:=fun b hb q=>by rw[q] at hb;omega
 have mv0:∀b o,Z col b->H b=some o->Z (fun b=>if b=a then 1 else col b) b/\H b=some o:=fun b o z e=>⟨by show (if b=a then 1 else col b)=0;rw[cn b (nz b (by rw[show col b=0 from z];omega))];exact z,e⟩
 have h0:∀b,b≠a->(A26 C a (.lst vs)).H0 b=C.H0 b:=fun b hb=>if_neg hb
 have nh:∀q,C.hand=some q->a≠q.1:=r.notH (by omega)
 refine⟨fun b hb=>?_,fun b hb=>?_,fun q hq=>?_,fun j s es=>?_,fun p hp=>?_,fun b o eb nb=>?_,r.hq,fun q hq=>?_,⟨fun b hb=>?_,fun b xs hb=>?_⟩,by rw[O8];exact r.len⟩
 ·have:b≠a:=fun q=>by rw[q,e2] at hb;cases hb
  show (if b=a then 1 else col b)=0
  rw[cn b this];exact r.fresh b hb
 ·have hb:(if b=a then 1 else col b)=0:=hb
  have:b≠a:=fun q=>by rw[if_pos q] at hb;cases hb
  rw[cn b this] at hb
  exact⟨r.inF b hb,this⟩
 ·show (if q.1=a then 1 else col q.1)=1
  rw[cn _ (fun z=>nh q hq z.symm)];exact r.hnd q hq
 ·by_cases hj:j=i
  ·subst hj
   rw[g5] at es
   simp only[if_true] at es
   split at es
   ·cases es
    exact⟨a,vs,e1,by show (if a=a then 1 else col a)<=1;rw[if_pos rfl];exact D2 _,nh,e2,t.mv mv0⟩
   ·cases es
  ·rw[U2 (Ne.symm hj)] at es
   have h:=r.sl j s es
   cases s with
   | no=>trivial
   | sh d=>obtain⟨v,g1,t⟩:=h;exact⟨v,g1,t.mv mv0⟩
   | ow ds=>obtain⟨b,us,g1,c,n',g2,t⟩:=h;have nb:b≠a:=(fun q=>by rw[q] at c;omega);exact⟨b,us,g1,by show (if b=a then 1 else col b)=_;rw[cn b nb];exact c,by rw[h0 b nb];exact n',g2,t.mv mv0⟩
   | bo ds=>obtain⟨b,us,g1,c,n',g2,t⟩:=h;have nb:=nz b c;exact⟨b,us,g1,by show (if b=a then 1 else col b)<=1;rw[cn b nb];exact c,n',g2,t.mv mv0⟩
   | hd=>exact h
   | o2 dss=>obtain⟨b,us,g1,c,g2,nd,t⟩:=h;have nb:b≠a:=(fun q=>by rw[q] at c;have:=c.1;omega);exact⟨b,us,g1,⟨by show (if b=a then 1 else col b)=_;rw[cn b nb];exact c.1,by rw[h0 b nb];exact c.2⟩,g2,nd,t.mv mv0 fun b' o g e=>⟨(by have nb':b'≠a:=(fun q=>by rw[q] at g;have:=g.1;omega);exact⟨by show (if b'=a then 1 else col b')=_;rw[cn b' nb'];exact g.1,by rw[h0 b' nb'];exact g.2⟩),e⟩⟩
   | b2 dss=>exact (Z7 hn es).elim
   | bd d=>obtain⟨v,g1,t⟩:=h;exact⟨v,g1,t.mv fun b o g e=>(by have nb:b≠a:=(fun q=>g.1 (by rw[q];exact n));exact⟨⟨by rw[h0 b nb];exact g.1,g.2⟩,by rw[h0 b nb];exact e⟩)⟩
   | ot d=>exact (Z8 hn es).elim
   | ob R=>obtain⟨v,g1,t⟩:=h;exact⟨v,g1,R.mv (fun b o g e=>⟨g.imp (fun g=>(by have nb:b≠a:=(fun q=>by have:=g.1;rw[q] at this;omega);exact⟨by show (if b=a then 1 else col b)=_;rw[cn b nb];exact g.1,by rw[h0 b nb];exact g.2⟩)) fun g=>⟨(mv0 b o g.1 e).1,g.2⟩,e⟩) t⟩
   | di f ks=>obtain⟨b,g1,c,n',g2⟩:=h;have nb:b≠a:=(fun q=>by rw[q] at c;omega);exact⟨b,g1,by show (if b=a then 1 else col b)=_;rw[cn b nb];exact c,by rw[h0 b nb];exact n',g2⟩
   | dm f ks=>obtain⟨b,g1,c,n',g2⟩:=h;have nb:b≠a:=(fun q=>by rw[q] at c;omega);exact⟨b,g1,by show (if b=a then 1 else col b)=_;rw[cn b nb];exact c,by rw[h0 b nb];exact n',g2⟩
 ·have h:=r.pd p hp
  cases p with
  | v v d=>exact ThV.mv mv0 h
  | n b o=>exact⟨by show (if b=a then 1 else col b)<=1;rw[cn b (nz b h.1)];exact h.1,h.2⟩
  | s vs ds=>exact A6.mv mv0 h
  | o c as dss=>exact⟨h.1,h.2.mv mv0 fun b' o g e=>⟨(by have nb':b'≠a:=(fun q=>by rw[q] at g;have:=g.1;omega);exact⟨by show (if b'=a then 1 else col b')=_;rw[cn b' nb'];exact g.1,by rw[h0 b' nb'];exact g.2⟩),e⟩⟩
  | w v d=>exact ThV.mv (fun b o g e=>(by have nb:b≠a:=(fun q=>g.1 (by rw[q];exact n));exact⟨⟨by rw[h0 b nb];exact g.1,g.2⟩,by rw[h0 b nb];exact e⟩)) h
 ·by_cases q:b=a
  ·subst q
   have eb:(if b=b then some (HO.lst vs) else C.H0 b)=some o:=eb
   rw[if_pos rfl] at eb
   rw[<-eb];exact e2
  ·rw[h0 b q] at eb
   exact r.kq b o eb nb
 ·obtain⟨ns,p,b,c,u,v,hl,hp,ha⟩:=r.hq0 q hq
  exact⟨ns,p,b,c,u,v,by rw[h0 _ (fun z=>by rw[z,n] at hl;cases hl)];exact hl,hp,by rw[h0 _ (fun z=>by rw[z,n] at ha;cases ha)];exact ha⟩
 ·have hb:(if b=a then some (HO.lst vs) else C.H0 b)=none:=hb
  have:b≠a:=fun q=>by rw[if_pos q] at hb;cases hb
  rw[if_neg this] at hb
  exact⟨r.nf.1 b hb,this⟩
 ·have hb:(if b=a then some (HO.lst vs) else C.H0 b)=some (.tup xs):=hb
  have:b≠a:=fun q=>by rw[if_pos q] at hb;cases hb
  rw[if_neg this] at hb
  exact⟨r.nf.2 b xs hb,this⟩
theorem B9.back (r:B9 C col ρ σ P H) (hn:J0 ρ=true) (e:ρ[i]?=some (.ow ds)) (e1:(σ[i]?).join=some (.ref a)) (ca:col a=2 * i + 3) (n:C.H0 a=none) (r2:B9 (A26 C a (.lst vs)) col2 (ρ.set i (.bo ds)) σ P H2) :
  B9 C (fun b=>if b=a then 2 * i + 3 else col2 b) ρ σ P H2/\∀b,col2 b=0->(if b=a then 2 * i + 3 else col2 b)=0:=by
 have hi:i < ρ.length:=by
  rcases c4 i ρ.length with z | z
  ·exact z
  ·rw[Y2 z] at e;cases e
 obtain⟨a',us,g1,c1,g2,g3,tl⟩:=r2.sl i (.bo ds) (by rw[B41 hi])
 rw[e1] at g1
 cases g1
 have c2:col2 a=1:=by
  rcases Nat.eq_zero_or_pos (col2 a) with z | z
  ·exact absurd rfl (r2.inF a z).2
  ·omega
 have cn:∀b,b≠a->(if b=a then 2 * i + 3 else col2 b)=col2 b:=fun b hb=>if_neg hb
 have h0:∀b,b≠a->(A26 C a (.lst vs)).H0 b=C.H0 b:=fun b hb=>if_neg hb
 have z0:∀b,col2 b=0->(if b=a then 2 * i + 3 else col2 b)=0:=fun b hb=>by
  rw[cn b (fun q=>by rw[q,c2] at hb;cases hb)];exact hb
 have mv0:∀b o,Z col2 b->H2 b=some o->Z (fun b=>if b=a then 2 * i + 3 else col2 b) b/\H2 b=some o:=fun b o z e=>⟨z0 b z,e⟩
 have nh:∀q,C.hand=some q->a≠q.1:=r.notH (by omega)
 have ng:∀b c,(A26 C a (.lst vs)).H0 b=none->C.H0 b=none\/c:=fun b c hb=>by
  by_cases q:b=a
  ·have hb:(if b=a then some (HO.lst vs) else C.H0 b)=none:=hb
   rw[if_pos q] at hb;cases hb
  ·rw[h0 b q] at hb;exact .inl hb
 have hz:∀b,(A26 C a (.lst vs)).H0 b=none->C.H0 b=none:=fun b hb=>by
  rcases ng b False hb with z | z
  ·exact z
  ·exact z.elim
 refine⟨⟨fun b hb=>z0 b (r2.fresh b hb),fun b hb=>?_,fun q hq=>?_,fun j s es=>?_,fun p hp=>?_,fun b o eb nb=>?_,r2.hq,r.hq0,r.nf,r.len⟩,z0⟩
 ·have hb:(if b=a then 2 * i + 3 else col2 b)=0:=hb
  have:b≠a:=fun q=>by rw[if_pos q] at hb;omega
  rw[cn b this] at hb
  exact (r2.inF b hb).1
 ·show (if q.1=a then 2 * i + 3 else col2 q.1)=1
  rw[cn _ (fun z=>nh q hq z.symm)];exact r2.hnd q hq
 ·by_cases hj:j=i
  ·subst hj
   rw[e] at es
   cases es
   exact⟨a,us,e1,by show (if a=a then 2 * j + 3 else col2 a)=_;rw[if_pos rfl],n,g3,tl.mv mv0⟩
  ·have es2:(ρ.set i (.bo ds))[j]?=some s:=by rw[U2 (Ne.symm hj)];exact es
   have h:=r2.sl j s es2
   have hr:=r.sl j s es
   cases s with
   | no=>trivial
   | sh d=>obtain⟨v,k1,t⟩:=h;exact⟨v,k1,t.mv mv0⟩
   | ow ds'=>obtain⟨b,us',k1,c,n',k2,t⟩:=h;have nb:b≠a:=(fun q=>by rw[q,c2] at c;omega);exact⟨b,us',k1,by show (if b=a then 2 * i + 3 else col2 b)=_;rw[cn b nb];exact c,hz b n',k2,t.mv mv0⟩
   | bo ds'=>
    obtain⟨b,us',k1,c,n',k2,t⟩:=h
    obtain⟨b',_,k1',c',_⟩:=hr
    rw[k1] at k1'
    cases k1'
    have nb:b≠a:=(fun q=>by rw[q,ca] at c';omega)
    exact⟨b,us',k1,by show (if b=a then 2 * i + 3 else col2 b)<=1;rw[cn b nb];exact c,n',k2,t.mv mv0⟩
   | hd=>exact h
   | o2 dss=>obtain⟨b,us',k1,c,k2,nd,t⟩:=h;have nb:b≠a:=(fun q=>by rw[q,c2] at c;have:=c.1;omega);exact⟨b,us',k1,⟨by show (if b=a then 2 * i + 3 else col2 b)=_;rw[cn b nb];exact c.1,hz b c.2⟩,k2,nd,t.mv mv0 fun b' o g e=>⟨(by have nb':b'≠a:=(fun q=>by rw[q,c2] at g;have:=g.1;omega);exact⟨by show (if b'=a then 2 * i + 3 else col2 b')=_;rw[cn b' nb'];exact g.1,hz b' g.2⟩),e⟩⟩
   | b2 dss=>exact (Z7 hn es).elim
   | bd d=>exact hr
   | ot d=>exact (Z8 hn es).elim
   | ob R=>obtain⟨v,k1,t⟩:=h;exact⟨v,k1,R.mv (fun b o g e=>⟨g.imp (fun g=>(by have nb:b≠a:=(fun q=>by have:=g.1;rw[q,c2] at this;omega);exact⟨by show (if b=a then 2 * i + 3 else col2 b)=_;rw[cn b nb];exact g.1,hz b g.2⟩)) fun g=>⟨(mv0 b o g.1 e).1,g.2⟩,e⟩) t⟩
   | di f ks=>obtain⟨b,k1,c,n',k2⟩:=h;have nb:b≠a:=(fun q=>by rw[q,c2] at c;omega);exact⟨b,k1,by show (if b=a then 2 * i + 3 else col2 b)=_;rw[cn b nb];exact c,hz b n',k2⟩
   | dm f ks=>obtain⟨b,k1,c,n',k2⟩:=h;have nb:b≠a:=(fun q=>by rw[q,c2] at c;omega);exact⟨b,k1,by show (if b=a then 2 * i + 3 else col2 b)=_;rw[cn b nb];exact c,hz b n',k2⟩
 ·have h:=r2.pd p hp
  have hr:=r.pd p hp
  cases p with
  | v v d=>exact ThV.mv mv0 h
  | n b o=>have nb:b≠a:=(fun q=>by have:=hr.1;rw[q,ca] at this;omega);exact⟨by show (if b=a then 2 * i + 3 else col2 b)<=1;rw[cn b nb];exact h.1,h.2⟩
  | s vs ds=>exact A6.mv mv0 h
  | o c as dss=>exact⟨h.1,h.2.mv mv0 fun b' o g e=>⟨(by have nb':b'≠a:=(fun q=>by rw[q,c2] at g;have:=g.1;omega);exact⟨by show (if b'=a then 2 * i + 3 else col2 b')=_;rw[cn b' nb'];exact g.1,hz b' g.2⟩),e⟩⟩
  | w v d=>exact hr
 ·have nb':b≠a:=fun q=>by rw[q,n] at eb;cases eb
  exact r2.kq b o (by rw[h0 b nb'];exact eb) nb
variable {X:Cx} {e:Expr}
def A9i (i j:Nat) (tt:DT) (te:DE)  (ρ:List Sl) (Q:List PyData->List Sl->Prop):Prop:=match ρ[i]? with
 | some (.ow ds)=>(J0 ρ=true/\ρ.length=j/\ds.length<=1000)/\n8 tt te (ρ.set i (.bo ds)) (fun out=>Q out ρ) ds []
 | _=>False
theorem B8o {i j:Nat} {tt:DT} {te:DE} (h:∀C,PE X e (fOf C (Z3 j (dIv i) tt te))):PE X e (fOf C (A9i i j tt te)):=fun pins s σ H Q I q=>by
 obtain⟨ρ,P,Qd,⟨col,r⟩,ht,k⟩:=q
 unfold A9i at ht
 split at ht
 ·rename_i ds es
  obtain⟨⟨hn,hl,h3⟩,ht⟩:=ht
  obtain⟨a,vs,e1,ca,n,e2,t⟩:=r.sl i _ es
  have hi:i < ρ.length:=by
   rcases c4 i ρ.length with z | z
   ·exact z
   ·rw[Y2 z] at es;cases es
  refine h (A26 C a (.lst vs)) pins s σ H Q I ⟨ρ.set i (.bo ds),P,fun out ρ2=>ρ2=ρ.set i (.bo ds)/\Qd out ρ,⟨_,r.lend hn e1 ca n e2 t⟩,?_,?_⟩
  ·unfold Z3 dIv
   rw[B41 hi]
   refine⟨⟨by rw[O8];exact hl,h3⟩,?_⟩
   have eq:(fun out=>(ρ.set i (.bo ds)=ρ.set i (.bo ds)/\Qd out ρ))=fun out=>Qd out ρ:=funext fun out=>propext ⟨And.right,fun z=>⟨rfl,z⟩⟩
   show n8 tt te (ρ.set i (.bo ds)) (fun out=>(ρ.set i (.bo ds)=ρ.set i (.bo ds)/\Qd out ρ)) ds []
   rw[eq]
   exact ht
  ·rintro p us ds' ρ2 H1 ⟨col2,r2,t2⟩ hp ⟨rfl,z⟩
   obtain⟨r3,z0⟩:=r.back (vs:=vs) hn es e1 ca n r2
   exact k p us ds' ρ H1 ⟨_,r3,t2.mv fun b o zz eb=>⟨z0 b zz,eb⟩⟩ hp z
 ·exact ht.elim
end
end My
namespace L2
open PySem PySem.Spec PyProof.Rows
section
variable {κ:Type} [DecidableEq κ]
def Z9 (kvs:List (κ×V)) (k:κ):Option V:=(kvs.find? fun kv=>decide (kv.1=k)).map (·.2)
def X4 (kvs:List (κ×V)) (k:κ) (v:V):List (κ×V):=
 if (kvs.any fun kv=>decide (kv.1=k))=true then kvs.map (fun kv=>if kv.1=k then (kv.1,v) else kv) else kvs++[(k,v)]
theorem B2i {p:κ×V} {r:List (κ×V)} {k:κ} (e:p.1=k):Z9 (p::r) k=some p.2:=by simp [Z9,A73,e]
theorem B2j {p:κ×V} {r:List (κ×V)} {k:κ} (e:¬ p.1=k):Z9 (p::r) k=Z9 r k:=by simp [Z9,A73,e]
theorem B2k (k:κ):∀kvs:List (κ×V),(kvs.any fun kv=>decide (kv.1=k))=(Z9 kvs k).isSome
 | []=>rfl
 | p::r=>by
  rw[A6c]
  by_cases e:p.1=k
  ·simp only[B2i e,decide_eq_true e,Bool.true_or,Option.isSome_some]
  ·rw[B2j e,decide_eq_false e,Bool.false_or];exact B2k k r
theorem B8p (kvs:List (κ×V)) (k:κ) (v:V):(X4 kvs k v).length<=kvs.length + 1:=by
 unfold X4
 split
 ·rw[C7];omega
 ·rw[F5,F3,c5];omega
theorem A1c.isSome_eq {o:Option V} {u:Option Value} (r:A1c o u):o.isSome=u.isSome:=by
 cases o with
 | none=>cases u with
  | none=>rfl
  | some _=>exact (show False from r).elim
 | some _=>cases u with
  | none=>exact (show False from r).elim
  | some _=>rfl
theorem KV.val {kvs:List (κ×V)} {vs:List (κ×Value)} (r:KV kvs vs) (k:κ):A1c (Z9 kvs k) (valueAt vs k):=by
 unfold KV at r
 induction r with
 | nil=>exact True.intro
 | @cons p q ps qs h t ih=>
  obtain⟨h1,h2⟩:=h
  by_cases e:p.1=k
  ·have e':q.1=k:=h1.symm.trans e
   have b:valueAt (q::qs) k=some q.2:=by simp [valueAt,A73,e']
   rw[B2i e,b];exact h2
  ·have e':¬ q.1=k:=fun z=>e (h1.trans z)
   have b:valueAt (q::qs) k=valueAt qs k:=by simp [valueAt,A73,e']
   rw[B2j e,b];exact ih
theorem KV.any {kvs:List (κ×V)} {vs:List (κ×Value)} (r:KV kvs vs) (k:κ):(kvs.any fun kv=>decide (kv.1=k))=vs.any fun kv=>decide (kv.1=k):=by
 unfold KV at r
 induction r with
 | nil=>rfl
 | cons h t ih=>rw[A6c,A6c,ih,h.1]
theorem KV.repl {kvs:List (κ×V)} {vs:List (κ×Value)} (r:KV kvs vs) (k:κ) {y:V} {u:Value} (ry:D8 y u) :
  KV (kvs.map fun kv=>if kv.1=k then (kv.1,y) else kv) (vs.map fun kv=>if kv.1=k then (kv.1,u) else kv):=by
 unfold KV at r ⊢
 induction r with
 | nil=>exact .nil
 | @cons p q ps qs h t ih=>
  rw[U4,U4]
  refine .cons ?_ ih
  obtain⟨h1,h2⟩:=h
  by_cases e:p.1=k
  ·rw[if_pos e,if_pos (h1.symm.trans e)];exact⟨h1,ry⟩
  ·rw[if_neg e,if_neg (fun z=>e (h1.trans z))];exact⟨h1,h2⟩
theorem KV.put {kvs:List (κ×V)} {vs:List (κ×Value)} (r:KV kvs vs) (k:κ) {y:V} {u:Value} (ry:D8 y u):KV (X4 kvs k y) (stored vs k u):=by
 unfold X4 stored
 rw[r.any k]
 by_cases e:(vs.any fun kv=>decide (kv.1=k))=true
 ·rw[if_pos e,if_pos e];exact r.repl k ry
 ·rw[if_neg e,if_neg e];exact Paired.snoc r ⟨rfl,ry⟩
theorem KV.length {kvs:List (κ×V)} {vs:List (κ×Value)} (r:KV kvs vs):kvs.length=vs.length:=Paired.length r
end
theorem B2l {P:Program} {w:World} {k:Key} {u:Value} (r:D8 (kV k) u):(U7 P w).is k u=true:=by
 cases k with
 | inl i=>obtain⟨t,e⟩:=(show ∃t,u=Value.int i t from r);subst e;exact C11 P w i t
 | inr x=>obtain⟨t,e⟩:=(show ∃t,u=Value.str x t from r);subst e;exact C12 P w x t
theorem B8q {P:Program} {w:World}:∀{ks:List Key} {us:List Value},C3 (ks.map kV) us->ItemsAre (U7 P w) ks us
 | [],_,r=>by rw[List.map_nil] at r;cases r;exact .nil
 | k::ks,_,r=>by
  rw[U4] at r
  cases r with
  | cons h t=>exact .cons (B2l h) (B8q t)
abbrev KT (H:Hp):List (List Key×V)->List (List Key×Addr×Value)->Prop:=Paired fun p q=>p.1=q.1/\H q.2.1=some (.tup (p.1.map kV))/\D8 p.2 q.2.2
theorem KT.val {H:Hp} {kvs:List (List Key×V)} {xs:List (List Key×Addr×Value)} (r:KT H kvs xs) (k:List Key):A1c (Z9 kvs k) ((atKey xs k).map (·.2)):=by
 induction r with
 | nil=>exact True.intro
 | @cons p q ps qs h t ih=>
  obtain⟨h1,_,h2⟩:=h
  by_cases e:p.1=k
  ·have e':q.1=k:=h1.symm.trans e
   have b:atKey (q::qs) k=some q.2:=by simp [atKey,A73,e']
   rw[B2i e,b];exact h2
  ·have e':¬ q.1=k:=fun z=>e (h1.trans z)
   have b:atKey (q::qs) k=atKey qs k:=by simp [atKey,A73,e']
   rw[B2j e,b];exact ih
theorem KT.repl {H:Hp} {kvs:List (List Key×V)} {xs:List (List Key×Addr×Value)} (r:KT H kvs xs) (k:List Key) {y:V} {u:Value} (ry:D8 y u) :
  KT H (kvs.map fun kv=>if kv.1=k then (kv.1,y) else kv) (xs.map (putAt k u)):=by
 induction r with
 | nil=>exact .nil
 | @cons p q ps qs h t ih=>
  rw[U4,U4]
  refine .cons ?_ ih
  obtain⟨h1,h2,h3⟩:=h
  unfold putAt
  by_cases e:p.1=k
  ·rw[if_pos e,if_pos (h1.symm.trans e)];exact⟨h1,h2,ry⟩
  ·rw[if_neg e,if_neg (fun z=>e (h1.trans z))];exact⟨h1,h2,h3⟩
theorem KT.put {H:Hp} {kvs:List (List Key×V)} {xs:List (List Key×Addr×Value)} (r:KT H kvs xs) (k:List Key) {b:Addr} {y:V} {u:Value} (hb:H b=some (.tup (k.map kV))) (ry:D8 y u) :
  KT H (X4 kvs k y) (storedH xs k b u):=by
 have e:(kvs.any fun kv=>decide (kv.1=k))=(atKey xs k).isSome:=by
  rw[B2k,(r.val k).isSome_eq,Option.isSome_map]
 unfold X4 storedH
 rw[e]
 by_cases q:(atKey xs k).isSome=true
 ·rw[if_pos q,if_pos q];exact r.repl k ry
 ·rw[if_neg q,if_neg q];exact Paired.snoc r ⟨rfl,hb,ry⟩
theorem KT.keeps {H H':Hp} {kvs:List (List Key×V)} {xs:List (List Key×Addr×Value)} (r:KT H kvs xs) (ht:∀b ys,H b=some (.tup ys)->H' b=some (.tup ys)):KT H' kvs xs:=
 Paired.mapP r fun _ _ z=>⟨z.1,ht _ _ z.2.1,z.2.2⟩
section
variable {P:Program} {w:World} {H:Hp} {h:Heap} {a:Addr}
theorem B8r {u:HO} (ok:HOk P w H h) (e:Rd H a u):J1 P w H h a u:=e.ok ok
theorem B8s {kvs:List (Key×V)} (ok:HOk P w H h) (e:Rd H a (.dK kvs)):kvs.length<=sizeLine/\(a == sysModules)=false/\∃vs,KV kvs vs/\h.DictOf (U7 P w) a vs:=
 show J1 P w H h a (.dK kvs) from B8r ok e
theorem C53 {kvs:List (Key×V)} (ok:HOk P w H h) (e:H a=some (.dK kvs)):kvs.length<=sizeLine/\(a == sysModules)=false/\∃vs,KV kvs vs/\h.DictOf (U7 P w) a vs:=B8s ok (.inl e)
theorem B2m {ks:List Key} (ok:HOk P w H h) (e:H a=some (.tup (ks.map kV))):(tupleKind (U7 P w)).is h ks a:=by
 obtain⟨_,its,r,o,h1,h2,n,h3⟩:=(show J1 P w H h a (.tup (ks.map kV)) from ok a _ e)
 exact⟨o,its.toArray,n,h1,h2,h3,by simpa using B8q r⟩
theorem B8t {kvs:List (List Key×V)} (ok:HOk P w H h) (e:Rd H a (.dT kvs)):kvs.length<=sizeLine/\(a == sysModules)=false/\
  ∃xs,KT H kvs xs/\h.DictOfH (tupleKind (U7 P w)) a xs:=by
 obtain⟨z,y,xs,r,o,es,ep,h1,h2,h3,h4,h5⟩:=(show J1 P w H h a (.dT kvs) from B8r ok e)
 refine⟨z,y,xs,r,o,es,ep,h1,h2,h3,h4,fun x hx=>?_,h5⟩
 have all:∀{l:List (List Key×V)} {m:List (List Key×Addr×Value)},KT H l m->∀x∈m,(tupleKind (U7 P w)).is h x.1 x.2.1:=by
  intro l m q
  induction q with
  | nil=>intro x hx;exact nomatch hx
  | @cons p q ps qs hq t ih=>
   intro x hx
   rcases N2.mp hx with e | hx
   ·subst e
    exact B2m ok (by rw[<-hq.1];exact hq.2.1)
   ·exact ih x hx
 exact all r x hx
theorem C54 {kvs:List (List Key×V)} (ok:HOk P w H h) (e:H a=some (.dT kvs)):kvs.length<=sizeLine/\(a == sysModules)=false/\
  ∃xs,KT H kvs xs/\h.DictOfH (tupleKind (U7 P w)) a xs:=B8t ok (.inl e)
end
def A7f (H:Hp) (a:Addr) (y:V) (r:Option V):Prop:=
 (∃kvs k,Rd H a (.dK kvs)/\y=kV k/\r=Z9 kvs k)\/∃kvs k b,Rd H a (.dT kvs)/\y=.ref b/\H b=some (.tup (k.map kV))/\r=Z9 kvs k
def A7g (H:Hp) (a:Addr) (y v:V) (H':Hp):Prop:=
 (∃kvs k,H a=some (.dK kvs)/\y=kV k/\kvs.length < sizeLine/\H'=upd H a (.dK (X4 kvs k v)))\/
 ∃kvs k b,H a=some (.dT kvs)/\y=.ref b/\H b=some (.tup (k.map kV))/\kvs.length < sizeLine/\H'=upd H a (.dT (X4 kvs k v))
theorem A7f.t {H:Hp} {a b:Addr} {kvs:List (List Key×V)} {k:List Key} (e:H a=some (.dT kvs)) (eb:H b=some (.tup (k.map kV))):A7f H a (.ref b) (Z9 kvs k):=.inr ⟨kvs,k,b,.inl e,rfl,eb,rfl⟩
theorem A7g.t {H:Hp} {a b:Addr} {kvs:List (List Key×V)} {k:List Key} {v:V} (e:H a=some (.dT kvs)) (eb:H b=some (.tup (k.map kV))) (hl:kvs.length < sizeLine) :
  A7g H a (.ref b) v (upd H a (.dT (X4 kvs k v))):=.inr ⟨kvs,k,b,e,rfl,eb,hl,rfl⟩
section
variable {X:Cx} {pins:List (Addr×Obj)} {σ:St} {H:Hp} {s:Shared} {a:Addr} {y v:V} {u r:Value} {o:Option V} {A:Around} {E:Value->Shared->Prop}
theorem Inv.big (I:Inv X pins σ H s):sysModules < s.heap.objs.size:=by
 have h:mainGlobals < s.heap.objs.size:=(I.mod.glob.keeps I.bk).lt
 exact Nat.lt_trans (by decide) h
theorem C55 {Q:Value->Shared->Prop} (hu:A.units + 1 < cLine) (I:Inv X pins σ H s) (g:A7f H a y o) (ry:D8 y u) (h:∀s',Inv X pins σ H s'->Q (.bool (!o.isSome)) s') :
  wpAny (model X.prog X.w) A (compareOp .NotIn u (.ref a)) Q E s:=by
 rcases g with ⟨kvs,k,e,ey,l⟩ | ⟨kvs,k,b,e,ey,eb,l⟩
 ·subst ey
  obtain⟨z,hd,vs,rel,dd⟩:=B8s I.hok e
  refine wpAny_notIn_of (B2l ry) hd dd.mapOf ?_
  rw[<-(rel.val k).isSome_eq,<-l]
  exact h _ (I.tok _)
 ·subst ey
  cases (show u=Value.ref b from ry)
  obtain⟨z,hd,xs,rel,dd⟩:=B8t I.hok e
  refine wpAny_notIn_heap (tupleKind_room_in1 hu) (B2m I.hok eb) hd dd ?_
  have q:=(rel.val k).isSome_eq
  rw[Option.isSome_map] at q
  rw[<-q,<-l]
  exact h _ (I.tok _)
theorem B8u {h':Heap} {t':Nat} {ob:HO} (I:Inv X pins σ H s) (mu:Mut (H a)) (hs:Heap.SameBut a s.heap h') (he:∃q,h'.get? a=some q) (new:J1 X.prog X.w (upd H a ob) h' a ob) :
  Inv X pins σ (upd H a ob) { s with heap:=h',toks:=t' }:=
 I.write (x:=a) (e:=a) mu (.inl rfl) (fun b q hb z=>(hs.2 b hb).trans z) he new
theorem C56 {P:Program} {w:World} {H':Hp} {h':Heap} {kvs:List (Key×V)} {vs:List (Key×Value)} (z:kvs.length<=sizeLine) (hd:(a == sysModules)=false) (rel:KV kvs vs) (dd:h'.DictOf (U7 P w) a vs) :
  J1 P w H' h' a (.dK kvs):=⟨z,hd,vs,rel,dd⟩
theorem C57 {H':Hp} {Q:Unit->Shared->Prop} (hu:A.units + 1 < cLine) (I:Inv X pins σ H s) (g:A7g H a y v H') (ry:D8 y u) (rv:D8 v r) (h:∀s',Inv X pins σ H' s'->Q () s') :
  wpAny (model X.prog X.w) A (setItem (.ref a) u r) Q E s:=by
 rcases g with ⟨kvs,k,e,ey,l,eH⟩ | ⟨kvs,k,b,e,ey,eb,l,eH⟩
 ·subst ey eH
  obtain⟨z,hd,vs,rel,dd⟩:=C53 I.hok e
  have hz:vs.length<=sizeLine:=by rw[<-rel.length];exact z
  have hl:(X4 kvs k v).length<=sizeLine:=by have:=B8p kvs k v;omega
  refine wpAny_setItem_pairs (hsz:=hz) (B2l ry) dd fun h' dd' hs=>h _ ?_
  have he:∃q,h'.get? a=some q:=let ⟨q,_,_,hq,_⟩:=dd';⟨q,hq⟩
  exact B8u I (by rw[e];exact True.intro) hs he (C56 hl hd (rel.put k rv) dd')
 ·subst ey eH
  cases (show u=Value.ref b from ry)
  obtain⟨z,hd,xs,rel,dd⟩:=C54 I.hok e
  have hz:xs.length<=sizeLine:=by rw[<-Paired.length rel];exact z
  have hl:(X4 kvs k v).length<=sizeLine:=by have:=B8p kvs k v;omega
  refine wpAny_setItem_heap (hsz:=hz) (tupleKind_room_in1 hu) (B2m I.hok eb) dd fun h' dd' hs=>h _ ?_
  obtain⟨q,es,ep,hq,h2,h3,h4,_,h5⟩:=dd'
  refine B8u I (by rw[e];exact True.intro) hs ⟨q,hq⟩ ⟨hl,hd,_,(rel.put k eb rv).keeps fun c ys ec=>?_,q,es,ep,hq,h2,h3,h4,h5⟩
  rw[B6 (A8d ec e (fun z=>nomatch z))]
  exact ec
end
section
variable {X:Cx} {pins:List (Addr×Obj)} {σ:St} {H:Hp} {s:Shared} {a:Addr} {kvs:List (Key×V)} {k:Key} {u:Value} {A:Around} {E:Value->Shared->Prop}
end
def B8v (ty td:TE):TE:=fun σ H Q=>ty σ H fun y H1=>td σ H1 fun x H2=>∃a o,x=.ref a/\A7f H2 a y o/\Q (.bl (!o.isSome)) H2
def B8w (td ty tv:TE):TS:=fun D σ H=>tv σ H fun v H1=>td σ H1 fun x H2=>ty σ H2 fun y H3=>∃a H4,x=.ref a/\A7g H3 a y v H4/\D.nx σ H4
section
variable {X:Cx} {o i e value:Expr} {pos pos' tpos:Pos} {td ty tv:TE}
theorem C58 (hu:X.A.units + 1 < cLine) (hi:PE X i ty) (ho:PE X o td):PC X .NotIn i o (B8v ty td):=by
 intro pins s σ H Q I h
 refine thn (hi pins s σ H _ I h) fun iv s1 ⟨y,H1,I1,ry,q1⟩=>thn (ho pins s1 σ H1 _ I1 q1) fun u s2 ⟨x,H2,I2,rx,a,ov,ex,g,q2⟩=>?_
 subst ex
 obtain rfl:u=Value.ref a:=rx
 exact C55 hu I2 g ry fun s3 I3=>⟨.bl (!ov.isSome),H2,I3,rfl,q2⟩
theorem C59 (hu:X.A.units + 1 < cLine) (ho:PE X o td) (hi:PE X i ty) (hv:PE X value tv) (hs:swapsWith value (some (.Subscript o i pos')) pos.line X.env=pure false) :
  PS X (.Assign [.Subscript o i pos'] value pos) (B8w td ty tv):=by
 intro pins s σ H D I h
 refine wpAny_Assign_Subscript (thn (hv pins s σ H _ I h) fun r s1 ⟨v,H1,I1,rv,q1⟩=>thn (ho pins s1 σ H1 _ I1 q1) fun u s2 ⟨x,H2,I2,rx,q2⟩=>thn (hi pins s2 σ H2 _ I2 q2) fun iv s3 ⟨y,H3,I3,ry,a,H4,ex,g,q3⟩=>?_) hs
 subst ex
 obtain rfl:u=Value.ref a:=rx
 exact C57 hu I3 g ry rv fun s4 I4=>⟨σ,H4,I4,q3⟩
end
theorem C6a {P:Program} {w:World} {H:Hp} (h:Heap) (hb:sysModules < h.objs.size):J1 P w H (h.push { cls:=.type "dict",data:=.dict #[] }) h.objs.size (.dT []):=
 ⟨L4 _,beq_eq_false_iff_ne.mpr (Ne.symm (P4 hb)),[],.nil,_,#[],0,T2 _ rfl,⟨rfl,rfl,rfl⟩,rfl,rfl,A74⟩
def B8x:TE:=fun _ H Q=>∀p,H p=none->Q (.ref p) (upd H p (.dT []))
section
variable {X:Cx} {pos:Pos}
theorem C6b:PE X (.Dict [] [] pos) B8x:=fun pins s σ H Q I h=>
 wpAny_Dict_empty ⟨.ref s.heap.objs.size,_,I.laid (a:=s.heap.objs.size) (o:=.dT []) (t':=s.toks) (fun _ _ q=>U3 _ q) (D2 _) (C6a s.heap I.big),rfl,h _ (I.hok.fresh (D2 _))⟩
end
structure M2 (X:Cx) (o:Expr) (m:Str) (apos:Pos) (e f:Expr) (cpos:Pos):Prop where
 base:attributeBase o m X.env (eval o X.env)=eval o X.env
 few:((backTo cpos (starEach [e,f] X.env)).all (fun x=>!x.1)&&(backToKw cpos (keywordEach [] X.env)).all (fun x=>x.1.isSome)
  &&decide (([e,f]:List Expr).length + ([]:List Keyword).length + (if ([]:List Keyword).isEmpty then 0 else 1) < 30))=true
 line:(apos.endLine == cpos.line)=true
 trees:backTo cpos (starEach [e,f] X.env)=[(false,eval e X.env),(false,eval f X.env)]
section
variable {X:Cx} {pins:List (Addr×Obj)} {σ:St} {H:Hp} {s:Shared} {a:Addr} {y d:V} {u r:Value} {o:Option V} {A:Around} {E:Value->Shared->Prop}
end
section
variable {X:Cx} {o e f:Expr} {apos cpos:Pos} {td ty tx:TE}
end
section
variable {X:Cx} {pins:List (Addr×Obj)} {σ:St} {H:Hp} {s:Shared} {a:Addr} {kvs:List (Key×V)} {A:Around} {E:Value->Shared->Prop}
end
section
variable {X:Cx} {pins:List (Addr×Obj)} {σ:St} {H:Hp} {s:Shared} {a:Addr} {y:V} {u:Value} {A:Around} {E:Value->Shared->Prop}
end
section
variable {prog:Program} {w:World} {A:Around} {E:Value->Shared->Prop} {s:Shared}
theorem C6c {d:Addr} {o:Obj} {es:Array DictEntry} {ep:Nat} {Q:Value->Shared->Prop} (hd:(d == sysModules)=false) (ho:s.heap.get? d=some o) (hc:o.ExactDict) (hdat:o.data=.dict es ep)
  (hQ:Q (.ref s.heap.objs.size) { s with heap:=s.heap.push { cls:=.type "dict_keyiterator",data:=.fields #[.ref d,.int 0 0,.int es.size 0,.int ep 0] } }):wpAny (model prog w) A (pyIter (.ref d)) Q E s:=by
 have hT:s.TypeIs (.ref d) "dict" :=⟨o,ho,hc.1⟩
 refine wpAny_pyIter_slot hT F.slot_dict_iter (wpAny_call_entry F.slot_dict_iter hT F.entry_dict_iter ?_ (F.args_dict_iter_1 _))
 unfold Builtin.«dict.__iter__»
 refine wpAny_bind ?_
 unfold Builtin.Dict.dictSlotNone
 refine wpAny_bind (wpAny_notOrdered_dict hT ?_)
 show wpAny _ _ (pure (Value.ref d)) _ _ s
 refine wpAny_pure ?_
 show wpAny _ _ (Builtin.Dict.showsAll d >>= _) _ _ s
 unfold Builtin.Dict.showsAll
 rw[if_neg (by rw[hd];exact G6)]
 refine wpAny_bind (wpAny_pure ?_)
 refine wpAny_bind (wpAny_dictEntries ho hdat ?_)
 refine wpAny_bind (wpAny_dictEpoch ho hdat ?_)
 refine wpAny_bind (wpAny_newObj_type (wpAny_pure ⟨_,rfl, "dict_keyiterator",_,⟨_,T2 _ rfl,rfl⟩,F.slot_dict_keyiterator_next.lookup,?_⟩))
 simpa [rawInt] using hQ
theorem C6d {it d:Addr} {i ep:Nat} {od:Obj} {es:Array DictEntry} {Q:Option Value->Shared->Prop} (hit:s.heap.IsKeyIter it d i es.size ep) (hod:s.heap.get? d=some od) (hdd:od.data=.dict es ep) (hlt':i < es.size)
  (hQ:∀h',h'.IsKeyIter it d (i + 1) es.size ep->Heap.SameBut it s.heap h'->Q (some es[i].key) { s with heap:=h' }):wpAny (model prog w) A (pyNext (.ref it)) Q E s:=by
 obtain⟨o,ho,hc,hd⟩:=id hit
 unfold pyNext
 refine wpAny_bind (wpAny_attempt (wpAny_callSpecial?_slot (name:=Str.ofString "__next__") hit.typeIs F.slot_dict_keyiterator_next
  (wpAny_call_entry F.slot_dict_keyiterator_next hit.typeIs F.entry_dict_keyiterator_next ?_ (F.args_dict_keyiterator_next_1 _))))
 refine wpAny_bind (wpAny_pure ?_)
 refine wpAny_bind ?_
 refine wpAny_bind ?_
 first | refine wpAny_bind (wpAny_typeNameOfWhole_keyiter hit.typeIs (wpAny_pure ?_)) | refine wpAny_bind (wpAny_typeNameOf_keyiter hit.typeIs (wpAny_pure ?_))
 refine wpAny_bind (wpAny_fieldsOf ho hd ?_)
 have hown:Builtin.Dict_items.ownsTuple "dict_keyiterator" = false:=by decide
 simp only[hown,M7,if_false]
 show wpAny _ _ (if (Value.ref d == Value.none)=true then _ else _) _ _ s
 rw[if_neg (show ¬ ((Value.ref d == Value.none)=true) from G6)]
 refine wpAny_bind (wpAny_pure ?_)
 refine wpAny_bind (wpAny_dictEntries hod hdd ?_)
 rw[if_neg (by simp)]
 refine wpAny_bind (wpAny_pure ?_)
 refine wpAny_bind (wpAny_dictEpoch hod hdd ?_)
 rw[if_neg (by simp)]
 refine wpAny_pure ?_
 simp only[show ¬ ((i:Int) < 0) from by omega,if_false,k7,C1j hlt']
 refine wpAny_bind ?_
 first | refine wpAny_bind (wpAny_typeNameOfWhole_keyiter hit.typeIs (wpAny_pure ?_)) | refine wpAny_bind (wpAny_typeNameOf_keyiter hit.typeIs (wpAny_pure ?_))
 refine wpAny_bind (wpAny_isOneOf_keyiter hit.typeIs ?_)
 show wpAny _ _ (setField (.ref it) 1 (rawInt ((i:Int) + 1)) >>= _) _ _ s
 refine wpAny_bind (wpAny_setField ho hd (by simp) ?_)
 have hit':(s.heap.update it (Obj.mapFields (·.setIfInBounds 1 (rawInt ((i:Int) + 1))))).IsKeyIter it d (i + 1) es.size ep:=
  ⟨_,C1f _ ho (Obj.isFreed_of_fields (Obj.data_mapFields hd _)),(Obj.cls_mapFields ..).trans hc,by rw[Obj.data_mapFields hd];simp [rawInt]⟩
 refine wpAny_bind (wpAny_holding ?_)
 refine wpAny_bind (wpAny_isOneOf_keyiter (s:={ s with heap:=s.heap.update it (Obj.mapFields (·.setIfInBounds 1 (rawInt ((i:Int) + 1)))) }) hit'.typeIs ?_)
 show wpAny _ _ (pure es[i].key) _ _ _
 exact wpAny_pure (wpAny_pure ⟨_,rfl,wpAny_pure (hQ _ hit' (Heap.SameBut.update ..))⟩)
theorem C6e {it d:Addr} {i ep:Nat} {od:Obj} {es:Array DictEntry} {Q:Option Value->Shared->Prop} (hh:A.handled=none) (hit:s.heap.IsKeyIter it d i es.size ep) (hod:s.heap.get? d=some od) (hdd:od.data=.dict es ep) (hge:es.size<=i)
  (hQ:∀h',Heap.ExtBut it s.heap h'->Q none { s with heap:=h' }):wpAny (model prog w) A (pyNext (.ref it)) Q E s:=by
 obtain⟨o,ho,hc,hd⟩:=id hit
 unfold pyNext
 refine wpAny_bind (wpAny_attempt (wpAny_callSpecial?_slot (name:=Str.ofString "__next__") hit.typeIs F.slot_dict_keyiterator_next
  (wpAny_call_entry F.slot_dict_keyiterator_next hit.typeIs F.entry_dict_keyiterator_next ?_ (F.args_dict_keyiterator_next_1 _))))
 refine wpAny_bind (wpAny_pure ?_)
 refine wpAny_bind ?_
 refine wpAny_bind ?_
 first | refine wpAny_bind (wpAny_typeNameOfWhole_keyiter hit.typeIs (wpAny_pure ?_)) | refine wpAny_bind (wpAny_typeNameOf_keyiter hit.typeIs (wpAny_pure ?_))
 refine wpAny_bind (wpAny_fieldsOf ho hd ?_)
 have hown:Builtin.Dict_items.ownsTuple "dict_keyiterator" = false:=by decide
 simp only[hown,M7,if_false]
 show wpAny _ _ (if (Value.ref d == Value.none)=true then _ else _) _ _ s
 rw[if_neg (show ¬ ((Value.ref d == Value.none)=true) from G6)]
 refine wpAny_bind (wpAny_pure ?_)
 refine wpAny_bind (wpAny_dictEntries hod hdd ?_)
 rw[if_neg (by simp)]
 refine wpAny_bind (wpAny_pure ?_)
 refine wpAny_bind (wpAny_dictEpoch hod hdd ?_)
 rw[if_neg (by simp)]
 refine wpAny_pure ?_
 simp only[show ¬ ((i:Int) < 0) from by omega,if_false,k7,C1m hge]
 refine wpAny_bind ?_
 first | refine wpAny_bind (wpAny_typeNameOfWhole_keyiter hit.typeIs (wpAny_pure ?_)) | refine wpAny_bind (wpAny_typeNameOf_keyiter hit.typeIs (wpAny_pure ?_))
 show wpAny _ _ (setField (.ref it) 0 .none >>= _) _ _ s
 refine wpAny_bind (wpAny_setField ho hd (by simp) ?_)
 show wpAny _ _ (newExc (.type "StopIteration") [] >>= _) _ _ _
 refine wpAny_bind ?_
 simp only[newExc,newTuple]
 refine wpAny_bind (wpAny_newObj_type ?_ (by size_fits))
 refine wpAny_bind (m:=firstArgMember _ _) (wpAny_of_eq (a:=Value.none) (by first | rfl | (simp only[firstArgMember];rfl)) ?_)
 refine wpAny_newObj_type ?_ (by size_fits)
 simp only[raiseNew]
 refine wpAny_bind (wpAny_handled ?_)
 rw[show A.in1.handled=none from hh]
 refine wpAny_bind (wpAny_pure (wpAny_throw ?_))
 refine wpAny_bind (wpAny_isInstance (T:= "StopIteration") (b:=true) ⟨_,T2 _ rfl,rfl⟩ isSubtype_stop ?_)
 exact wpAny_pure (hQ _ (((Heap.SameBut.update ..).extBut.push _).push _))
end
def A7h (a:Addr) (o:Obj) (kvs:List (List Key×V)):It:=
 ⟨fun i H=>H a=some (.frz o (.dT kvs))/\i < kvs.length,fun i H x H'=>H'=H/\∃k v b,kvs[i]?=some (k,v)/\x=.ref b/\H b=some (.tup (k.map kV)),fun i H=>H a=some (.frz o (.dT kvs))/\kvs.length<=i⟩
def DIt (o:Obj) (a it:Addr) (i:Nat) (h:Heap):Prop:=∃es ep,o.data=.dict es ep/\h.IsKeyIter it a i es.size ep
theorem Paired.getP {α β:Type} {F:α->β->Prop} {l₁:List α} {l₂:List β} (h:Paired F l₁ l₂):∀{i:Nat} {x:α},l₁[i]?=some x->∃y,l₂[i]?=some y/\F x y:=by
 induction h with
 | nil=>intro i x e;cases e
 | @cons a b as bs f t ih=>
  intro i x e
  cases i with
  | zero=>cases e;exact⟨b,rfl,f⟩
  | succ i=>exact ih e
theorem C6f {P:Program} {w:World} {K:A7} {tg:Expr} (a it:Addr) (o:Obj) (kvs:List (List Key×V)):A1f P w K tg (A7h a o kvs) [it] it (DIt o a it) where
 mem:=by simp
 obj:=fun i h st b hb=>by
  have e:b=it:=by simpa using hb
  subst e
  obtain⟨_,_,_,o,e,c,d⟩:=st
  exact⟨o,e,fun v z=>by rw[d] at z;cases z⟩
 keep:=fun i h h' st k=>by
  obtain⟨es,ep,e0,o,e,c,d⟩:=st
  exact⟨es,ep,e0,o,k it (by simp) o e,c,d⟩
 item:=by
  intro X hP hw hK hc i pins s σ H E I hf st hg
  subst hP hw hK
  obtain⟨hq,hx⟩:=hg
  obtain⟨es,ep,hdd,st⟩:=st
  obtain⟨hod,_,_,xs,rel,o',es',ep',ho',hex,hdd',hes,_⟩:=(show J1 X.prog X.w H s.heap a (.frz o (.dT kvs)) from I.hok a _ hq)
  rw[hod] at ho'
  cases ho'
  rw[hdd] at hdd'
  cases hdd'
  obtain⟨f0,f1,f2,f3,f4,f5⟩:=hf it (by simp)
  have hl:es.size=kvs.length:=by rw[Paired.length rel,<-C7 (f:=entryOfKey (tupleKind (U7 X.prog X.w))),<-hes,P5]
  have hi:i < es.size:=by omega
  obtain⟨q,eq,e1,e2,e3⟩:=Paired.getP rel (J6 hx)
  have hk:es[i].key=.ref q.2.1:=by
   have:es.toList[i]?=some es[i]:=by simp [hi]
   rw[hes,O7,eq] at this
   have:=Option.some.inj this
   rw[<-this];rfl
  refine C6d st hod hdd hi fun h' st' sb=>?_
  have I1:Inv X pins σ H { s with heap:=h' }:=I.turned (t':=s.toks) (fun b o hb e=>(sb.2 b hb).trans e) f0 f1 f3 f4 f5
  obtain⟨oi,e,c,d⟩:=id st'
  refine⟨_,rfl,A8i (s:={ s with heap:=h' }) e c d (by decide) ⟨.ref q.2.1,H,I1,hk,⟨rfl,kvs[i].1,kvs[i].2,q.2.1,J6 hx,rfl,e2⟩,⟨es,ep,hdd,st'⟩,fun b hb=>(hf b hb).1⟩⟩
 done:=by
  intro X hP hw hK hc i pins s σ H E I hf st hg
  subst hP hw hK
  obtain⟨hq,hx⟩:=hg
  obtain⟨es,ep,hdd,st⟩:=st
  obtain⟨hod,_,_,xs,rel,o',es',ep',ho',hex,hdd',hes,_⟩:=(show J1 X.prog X.w H s.heap a (.frz o (.dT kvs)) from I.hok a _ hq)
  rw[hod] at ho'
  cases ho'
  rw[hdd] at hdd'
  cases hdd'
  obtain⟨f0,f1,f2,f3,f4,f5⟩:=hf it (by simp)
  have hl:es.size=kvs.length:=by rw[Paired.length rel,<-C7 (f:=entryOfKey (tupleKind (U7 X.prog X.w))),<-hes,P5]
  exact C6e (I.ok.hd hc) st hod hdd (by omega) fun h' eb=>⟨rfl,I.turned (t':=s.toks) (fun b o hb e=>eb b o hb e) f0 f1 f3 f4 f5⟩
 self:=fun _ i s _ _ st h=>by
  obtain⟨es,ep,_,st⟩:=st
  exact wpAny_pyIter_keyiter st h
def C6g (td:TE):TI:=fun σ H R=>td σ H fun x H1=>∃a kvs,x=.ref a/\((H1 a=some (.dT kvs)/\∀o,R (A7h a o kvs) (upd H1 a (.frz o (.dT kvs))))\/∃o,H1 a=some (.frz o (.dT kvs))/\R (A7h a o kvs) H1)
theorem C6h {X:Cx} {tg l:Expr} {td:TE} (hl:PE X l td):PI X tg l (C6g td):=by
 intro pins s σ H R I h
 refine thn (hl pins s σ H _ I h) fun v s1 ⟨x,H1,I1,r1,a,kvs,e,q⟩=>?_
 subst e
 cases r1
 have fin:∀(o:Obj) (H2:Hp),Inv X pins σ H2 s1->H2 a=some (.frz o (.dT kvs))->R (A7h a o kvs) H2->wpAny (model X.prog X.w) X.A (pyIter (.ref a)) (PIE X pins σ tg R) X.xe s1:=fun o H2 I2 e2 q2=>by
  obtain⟨hod,_,hd,xs,rel,o',es,ep,ho',hex,hdd,hes,_⟩:=(show J1 X.prog X.w H2 s1.heap a (.frz o (.dT kvs)) from I2.hok a _ e2)
  rw[hod] at ho'
  cases ho'
  refine C6c hd hod hex hdd ?_
  refine⟨s1.heap.objs.size,[s1.heap.objs.size],_,_,H2,rfl,I2.kept (t':=s1.toks) fun b o e=>U3 _ e,C6f a _ o kvs,⟨es,ep,hdd,_,T2 _ rfl,rfl,rfl⟩,fun b hb=>?_,q2⟩
  have e:b=s1.heap.objs.size:=by simpa using hb
  subst e
  exact I2.fpOk (D2 _) (I2.hok.fresh (D2 _))
 rcases q with ⟨e1,q⟩ | ⟨o,e1,q⟩
 ·obtain⟨z,hd,xs,rel,o,es,ep,ho,r⟩:=(show J1 X.prog X.w H1 s1.heap a (.dT kvs) from I1.hok a _ e1)
  refine fin o _ ?_ E7 (q o)
  exact I1.write (t':=s1.toks) (x:=a) (e:=a) (by rw[e1];exact True.intro) (.inl rfl) (fun _ _ _ z=>z) ⟨o,ho⟩ ⟨ho,z,hd,xs,KT.keeps rel fun c ys ec=>(by rw[B6 (A8d ec e1 (fun z=>nomatch z))];exact ec),o,es,ep,ho,r⟩
 ·exact fin o H1 I1 e1 q
end L2
namespace My
open PySem L2
theorem u1 {n:Nat} (h:n + 64 < cLine):n + 1 < cLine:=by omega
def A9j:PyData->Option (List Int)
 | .tuple xs=>o7 xs
 | _=>none
def A41 (ks:List (List Int)) (k:List Int):List (List Int):=if ks.contains k=true then ks else ks++[k]
theorem C6i {a b:List Int} (h:a.map (Sum.inl:Int->Key)=b.map Sum.inl):a=b:=C1n (fun _ _ e=>Sum.inl.inj e) |>.mp h
theorem B8y (k:List Int):(k.map (Sum.inl:Int->Key)).map kV=k.map V.int:=by rw[g7];rfl
theorem B2n (k:List Int):∀ks:List (List Int),((dEn ks).any fun kv=>decide (kv.1=k.map Sum.inl))=ks.contains k
 | []=>rfl
 | x::ks=>by
  have ih:=B2n k ks
  show (decide (x.map Sum.inl=k.map Sum.inl)||(dEn ks).any fun kv=>decide (kv.1=k.map Sum.inl))=_
  rw[ih,List.contains_cons]
  congr 1
  by_cases e:x=k
  ·subst e;simp
  ·rw[decide_eq_false (fun z=>e (C6i z)),show (k == x)=false from beq_eq_false_iff_ne.mpr (fun z=>e z.symm)]
theorem B8z (k:List Int):∀ks:List (List Int),(dEn ks).map (fun kv=>if kv.1=k.map Sum.inl then (kv.1,V.bl true) else kv)=dEn ks
 | []=>rfl
 | x::ks=>by
  show (if x.map Sum.inl=k.map Sum.inl then (x.map Sum.inl,V.bl true) else (x.map Sum.inl,V.bl true))::(dEn ks).map (fun kv=>if kv.1=k.map Sum.inl then (kv.1,V.bl true) else kv)=(x.map Sum.inl,V.bl true)::dEn ks
  rw[B8z k ks,ite_self]
theorem C6j (ks:List (List Int)) (k:List Int):X4 (dEn ks) (k.map Sum.inl) (.bl true)=dEn (A41 ks k):=by
 unfold X4 A41
 rw[B2n,B8z]
 by_cases h:ks.contains k=true
 ·rw[if_pos h,if_pos h]
 ·rw[if_neg h,if_neg h]
  unfold dEn
  rw[P6];rfl
theorem C6k (ks:List (List Int)) (k:List Int):(Z9 (dEn ks) (k.map Sum.inl)).isSome=ks.contains k:=by rw[<-B2k,B2n]
theorem B2o (ks:List (List Int)):(dEn ks).length=ks.length:=C7 _
theorem B80 {F:Addr->Prop} {H:Hp} {v:V} {d:PyData} {k:List Int} (t:ThV F H v d) (h:A9j d=some k):∃b,v=.ref b/\H b=some (.tup ((k.map (Sum.inl:Int->Key)).map kV)):=by
 cases d with
 | tuple xs=>
  obtain⟨b,vs,rfl,_,e,t⟩:=C4x t
  have z:=B16 t h
  subst z
  exact⟨b,rfl,by rw[B8y];exact e⟩
 | _=>cases h
theorem B81 {F:Addr->Prop} {H:Hp}:∀k:List Int,A6 F H (k.map V.int) (k.map PyData.int)
 | []=>.nil
 | i::k=>.cons (.int i) (B81 k)
section
variable {C:DC} {col:Addr->Nat} {ρ:List Sl} {σ:St} {P:List Pe} {H H':Hp} {p:Addr}
theorem B9.ownX {i:Nat} {o:HO} {s:Sl} (r:B9 C col ρ σ P H) (hp:H p=none) (k:Kq C.hand H H') (q:Hq C.hand H') (ep:H' p=some o)
  (new:i < ρ.length->∀col':Addr->Nat,col' p=2 * i + 3->(∀b,b≠p->col' b=col b)->C.H0 p=none->SlR C col' H' i (some (.ref p)) s) :
  ∃col':Addr->Nat,B9 C col' (ρ.set i s) (σ.set i (some (.ref p))) P H'/\col' p=2 * i + 3/\∀b,b≠p->col' b=col b:=by
 let col':Addr->Nat:=fun b=>if b=p then 2 * i + 3 else col b
 have ca:col' p=2 * i + 3:=if_pos rfl
 have cn:∀b,b≠p->col' b=col b:=fun b hb=>if_neg hb
 have ni:∀b o,H b=some o->b≠p:=fun b o e z=>by rw[z,hp] at e;cases e
 have up:∀b o,col b≠1->H b=some o->H' b=some o:=fun b o h e=>k b o e (r.notH h)
 have r1:=r.mv k q
 have h0:C.H0 p=none:=r.kq.fr r.hq hp
 refine⟨col',B9.chg r i _ (by rw[O8];exact r.len) (fun b hb=>?_) (fun b hb=>?_) (fun x hx=>?_) (fun b o c e=>⟨?_,up b o (by lia) e⟩) (fun b o c n e=>⟨?_,k b o e n⟩) (fun _ _ _ _ b o c e=>⟨?_,up b o (by lia) e⟩) (fun b o j hj c e=>⟨?_,up b o (by lia) e⟩) (r.kq.trans k) q (fun j hj=>by rw[U2 (Ne.symm hj)]) fun hl=>?_,ca,cn⟩
 ·have z:b≠p:=fun z=>by rw[z,ep] at hb;cases hb
  rw[cn b z];exact r1.fresh b hb
 ·have z:b≠p:=fun z=>by rw[z,ca] at hb;cases hb
  rw[cn b z] at hb;exact r.inF b hb
 ·obtain⟨o',e'⟩:=(r.hq x hx).at1
  rw[cn _ (ni _ _ e')];exact r.hnd x hx
 ·rw[cn b (ni b o e)];exact c
 ·rw[cn b (ni b o e)];exact c
 ·rw[cn b (ni b o e)];exact c
 ·rw[cn b (ni b o e)];exact c
 ·have:(σ.set i (some (V.ref p)))[i]?.join=some (.ref p):=by rw[g5,if_pos rfl,if_pos (by rw[<-r.len];exact hl)];rfl
  rw[this]
  exact new hl col' ca cn h0
theorem B9.ownO {i:Nat} {o:HO} {s:Sl} (r:B9 C col ρ σ P H) (hp:H p=none) (k:Kq C.hand H H') (q:Hq C.hand H') (ep:H' p=some o)
  (new:∀col':Addr->Nat,col' p=2 * i + 3->(∀b,b≠p->col' b=col b)->C.H0 p=none->SlR C col' H' i (some (.ref p)) s):Rel C (ρ.set i s) (σ.set i (some (.ref p))) P H':=by
 obtain⟨col',r',_⟩:=r.ownX hp k q ep fun _=>new
 exact⟨col',r'⟩
theorem B9.writeD {i:Nat} {a:Addr} {ks es:List (List Int)} (r:B9 C col ρ σ P H) (e:ρ[i]?=some (.di false ks)) (ea:(σ[i]?).join=some (.ref a)):B9 C col (ρ.set i (.di false es)) σ P (upd H a (.dT (dEn es))):=by
 obtain⟨a',e1,c,n,e2⟩:=r.sl i _ e
 rw[e1] at ea
 cases ea
 have ne:∀x,col x≠2 * i + 3->x≠a:=fun x hx q=>hx (q▸c)
 have up:∀x o,col x≠2 * i + 3->H x=some o->upd H a (.dT (dEn es)) x=some o:=fun x o h e=>by rw[B6 (ne x h)];exact e
 refine B9.chg r i _ r.len (fun x hx=>?_) r.inF r.hnd (fun x o c e=>⟨c,up x o (by lia) e⟩) (fun x o c _ e=>⟨c,up x o (by lia) e⟩) (fun _ _ _ _ x o c e=>⟨c,up x o (by lia) e⟩) (fun x o j hj c e=>⟨c,up x o (by lia) e⟩) (fun x o e q=>?_) (fun q hq=>?_) (fun _ _=>rfl) fun _=>?_
 ·by_cases q:x=a
  ·rw[q,E7] at hx;cases hx
  ·rw[B6 q] at hx;exact r.fresh x hx
 ·have z:=r.kq x o e q
  have q':x≠a:=fun q'=>by rw[q',n] at e;cases e
  rw[B6 q'];exact z
 ·obtain⟨ns,p,b,c',u,v,hl,hp,ha⟩:=r.hq q hq
  have e1:q.1≠a:=fun z=>by rw[z,show H a=_ from e2] at ha;cases ha
  have e3:q.2≠a:=fun z=>by rw[z,show H a=_ from e2] at hl;cases hl
  exact⟨ns,p,b,c',u,v,by rw[B6 e3];exact hl,hp,by rw[B6 e1];exact ha⟩
 ·exact⟨a,e1,c,n,E7⟩
theorem B9.key {b:Addr} {k:List Int} (r:B9 C col ρ σ P H) (e:H b=some (.tup ((k.map (Sum.inl:Int->Key)).map kV))):Rel C ρ σ (.v (.ref b) (m5 k)::P) H:=by
 obtain⟨col',r',tp⟩:=r.norm
 rw[B8y] at e
 exact⟨col',r'.push (.tup (tp b _ e) e (B81 k))⟩
theorem C6l {a:Addr} {o:Obj} {ks:List (List Int)} {P:List Pe}:A37 C (A7h a o (dEn ks)) (ks.map m5) (.n a (.frz o (.dT (dEn ks)))::P) where
 go:=fun {i ρ σ P' H} s R hi=>by
  obtain⟨col,r⟩:=R
  have h1:=r.pd _ (s _ B2)
  exact⟨h1.2.2,by rw[B2o];rw[C7] at hi;exact hi⟩
 yld:=fun {i ρ σ P' H H' x d} s R hi y=>by
  obtain⟨e,k,v,b,ek,rfl,eb⟩:=y
  subst e
  obtain⟨col,r⟩:=R
  unfold dEn at ek
  rw[O7] at ek hi
  cases q:ks[i]? with
  | none=>rw[q] at hi;cases hi
  | some k'=>
   rw[q] at ek hi
   cases hi
   cases ek
   exact r.key eb
 stop:=fun {ρ σ P' H} s R=>by
  obtain⟨col,r⟩:=R
  have h1:=r.pd _ (s _ B2)
  exact⟨h1.2.2,by rw[B2o,C7];exact D2 _⟩
theorem B9.walked {o:Obj} {kvs:List (List Key×V)} (r:B9 C col ρ σ P H) (hp:H p=none) (k:Kq C.hand H H') (q:Hq C.hand H') (ep:H' p=some (.dT kvs)):B9 C col ρ σ (.n p (.frz o (.dT kvs))::P) (upd H' p (.frz o (.dT kvs))):=by
 let G:Hp:=fun b=>if b=p then none else H' b
 have gn:∀b,b≠p->G b=H' b:=fun b hb=>if_neg hb
 have gp:G p=none:=if_pos rfl
 have ni:∀b o,H b=some o->b≠p:=fun b o e z=>by rw[z,hp] at e;cases e
 have e:upd H' p (.frz o (.dT kvs))=upd G p (.frz o (.dT kvs)):=by
  funext b
  by_cases z:b=p
  ·rw[z,E7,E7]
  ·rw[B6 z,B6 z,gn b z]
 have qG:Hq C.hand G:=fun z hz=>by
  obtain⟨ns,p',b,c',u,v,hl,hp',ha⟩:=q z hz
  exact⟨ns,p',b,c',u,v,by rw[gn _ (fun z=>by rw[z,ep] at hl;cases hl)];exact hl,hp',by rw[gn _ (fun z=>by rw[z,ep] at ha;cases ha)];exact ha⟩
 have r1:=(r.mv (H':=G) (fun b o e n=>by rw[gn b (ni b o e)];exact k b o e n) qG).lay (o:=.frz o (.dT kvs)) gp
 rw[e]
 have c0:=r.fresh p hp
 exact r1.add (x:=.n p (.frz o (.dT kvs))) ⟨by lia,r.notH (by lia),E7⟩
end
def B82 (F:Addr->Prop) (H H':Hp) (v:V):Sl->Prop
 | .ow ds=>∃a vs,v=.ref a/\H a=none/\H' a=some (.lst vs)/\A6 (fun b=>F b/\b≠a) H' vs ds
 | .di false ks=>∃a,v=.ref a/\H a=none/\H' a=some (.dT (dEn ks))
 | _=>False
abbrev p6:=List PyData->(Sl->Prop)->Prop
def A7i (ms:List Md) (sp:p6):Sp:=fun vs H Q _=>∃F hand ds Qd,((∀b,H b=none->F b)/\∀b xs,H b=some (.tup xs)->F b)/\(∀q,hand=some q->¬ F q.1)/\Hq hand H/\V1 F hand H ms vs ds/\sp ds Qd/\
 ∀s v H',Qd s->B82 F H H' v s->Kq hand H H'->Hq hand H'->Q v H'
open PySem.Spec PyProof.Rows
section
variable {P:Program} {w:World} {K:A7} {mg:Str->Option Value} {base:Heap}
def roN (Q:Sl->Prop):Sl->Prop
 | .ow ds=>Q (.ow ds)
 | .di false ks=>Q (.di false ks)
 | _=>False
open Classical in
theorem B83 {x qual:Str} {st:Stmt} {f:Addr} {fd:FuncData} {N ps:List Str} {k:Nat} {sp:p6} {ms:List Md} (F:Fun K x qual st f fd) (S:E3 N ps (C2 st)) (hm:ms.length=ps.length)
  (hb:∀(C:DC) (cdv:Value) (A:Around) (outer:List Env) (s:Shared) (H:Hp) (E:XK),P8 k (A.deeper (envOfC qual (C2 st) s.heap.objs.size f cdv))->
   ∃t,PSs (i9 CX0 P w K mg base N qual (C2 st) f cdv A outer s H E).nox (j1 st) (sOf C t)/\∀ds Q,ds.length=ms.length->sp ds Q->t { nx:=fun _=>False,rt:=fun _=>False,ro:=roN Q } (X2 N ms ds)) :
  C9 P w K mg base CX0 (k + 1) f fd ps (A7i ms sp):=by
 refine F.ok S (fun vs H Q E h=>?_) (fun cdv A outer s H vs Q E hr h=>?_)
 ·obtain⟨_,_,_,_,_,_,_,a,_⟩:=h
  rw[a.len.1,hm]
 ·obtain⟨G,hand,ds,Qd,h1,h2,h3,a,h4,h5⟩:=h
  obtain⟨t,ht,q⟩:=hb ⟨G,hand,H⟩ cdv A outer s H E hr
  have hN:ps.length<=N.length:=by have:=congrArg A6b S.pre;rw[T3] at this;lia
  let col:Addr->Nat:=fun b=>if G b then 0 else 1
  have c0:∀b,G b->col b=0:=fun b hb=>if_pos hb
  have c1:∀b,¬ G b->col b=1:=fun b hb=>if_neg hb
  have lo:∀b,col b<=1:=fun b=>by
   by_cases z:G b
   ·rw[c0 b z];lia
   ·rw[c1 b z];lia
  refine⟨_,ht,o0 N.length ms ds,[],⟨fun _=>False,fun _=>False,fun _=>False,fun _=>False,roN Qd⟩,⟨col,fun b hb=>c0 b (h1.1 b hb),fun b hb=>?_,fun q hq=>c1 _ (h2 q hq),fun i s e=>B7z (C:=⟨G,hand,H⟩) rfl rfl c0 lo a i s e i,fun p hp=>(nomatch hp),Kq.refl,h3,h3,h1,?_⟩,by rw[<-B15 (by lia) a.len.2];exact q ds Qd a.len.2 h4,⟨fun _ _ _ _ h=>h.elim,fun _ _ _ _ _ _ h=>h.elim,fun _ _ _ _ h=>h.elim,fun _ _ _ _ h=>h.elim,fun v s ρ σ H' col' r nw h=>?_⟩⟩
  ·by_cases z:G b
   ·exact z
   ·rw[c1 b z] at hb;cases hb
  ·rw[B70 a (by lia)]
   unfold L2.start
   rw[F5,C7,k6,a.len.1]
   lia
  ·cases s with
   | ow es=>
    obtain⟨a,vs,rfl,n,c,e2,t⟩:=nw
    exact h5 _ _ _ h ⟨a,vs,rfl,n,e2,t.mv fun b o z e=>⟨⟨r.inF b z,fun q=>c (q▸z)⟩,e⟩⟩ r.kq r.hq
   | di f ks=>
    cases f with
    | true=>exact h.elim
    | false=>
     obtain⟨a,rfl,n,e2⟩:=nw
     exact h5 _ _ _ h ⟨a,rfl,n,e2⟩ r.kq r.hq
   | _=>exact h.elim
end
section
variable {X:Cx} {C:DC} {st:Stmt} {e a b:Expr} {te tk:DE} {u:DA} {pos:Pos}
def A27 (i:Nat) (D:J5) (ρ:List Sl):Prop:=D.nx (ρ.set i (.di false []))
theorem C6m {i:Nat} (hp:PS X st (A1e B8x (Y7 i))):PS X st (sOf C (A27 i)):=PS.wk hp fun D σ H z=>el3 z fun ρ P Dd R ht E=>R.elim fun col r=>fun p hp=>E.nx _ _ _ (r.ownO (s:=.di false []) hp (Kq.lay hp) (r.hq.lay hp) E7 fun col' ca _ h0=>⟨p,rfl,ca,h0,E7⟩) ht
def A0s (i:Nat) (tk:DE) (D:J5) (ρ:List Sl):Prop:=match ρ[i]? with
 | some (.di false _)=>tk ρ fun d ρ1=>match ρ1[i]?,A9j d with
  | some (.di false ks),some k=>ks.length < 100000/\D.nx (ρ1.set i (.di false (A41 ks k)))
  | _,_=>False
 | _=>False
theorem C6n {i:Nat} (hp:PS X st (B8w (Q2 i) (eOf C tk) (tC (.bl true)))):PS X st (sOf C (A0s i tk)):=PS.wk hp fun D σ H z=>el3 z fun ρ P Dd R ht E=>R.elim fun col r=>by
 unfold A0s at ht
 split at ht
 ·rename_i ks0 e0
  obtain⟨a,e1,c,n,e2⟩:=r.sl i _ e0
  refine⟨.ref a,G7 e1,ρ,P,_,⟨col,r⟩,ht,fun v d ρ1 H1 R1 q=>R1.elim fun col1 r1=>?_⟩
  split at q
  ·rename_i ks k e3 e4
   obtain⟨a',e1',c',n',e2'⟩:=r1.sl i _ e3
   have e5:=e1'
   rw[e1] at e1'
   cases e1'
   obtain⟨b,rfl,eb⟩:=B80 (r1.pd (.v v d) B2) e4
   have w:=(r1.writeD (es:=A41 ks k) e3 e5).sub fun _ h=>A9 _ h
   rw[<-C6j] at w
   exact⟨a,_,rfl,A7g.t e2' eb (by rw[B2o,sizeLine_eq];lia),E.nx _ _ _ ⟨col1,w⟩ q.2⟩
  ·exact q.elim
 ·exact ht.elim
def A0t (neg:Bool) (te:DE) (i:Nat) (ρ:List Sl) (Q:PyData->List Sl->Prop):Prop:=te ρ fun d ρ1=>match ρ1[i]?,A9j d with
 | some (.di false ks),some k=>Q (.bool (if neg then !(ks.contains k) else ks.contains k)) ρ1
 | _,_=>False
theorem C6o {i:Nat} {σ:L2.St} {H:Hp} {Q:VK} (h:eOf C (A0t true te i) σ H Q):B8v (eOf C te) (Q2 i) σ H Q:=el3 h fun ρ P Qd R ht k=>⟨ρ,P,_,R,ht,fun v d ρ1 H1 R1 q=>R1.elim fun col1 r1=>by
 split at q
 ·rename_i ks k' e3 e4
  obtain⟨a,e1,c,n,e2⟩:=r1.sl i _ e3
  obtain⟨b,rfl,eb⟩:=B80 (r1.pd (.v v d) B2) e4
  refine⟨.ref a,G7 e1,a,_,rfl,A7f.t e2 eb,?_⟩
  rw[C6k]
  exact k _ _ _ _ ⟨col1,(r1.sub fun _ h=>A9 _ h).push (.bl _)⟩ q
 ·exact q.elim⟩
theorem C6p {i:Nat} (hu:X.A.units + 1 < cLine) (ha:PE X a (eOf C te)) (hb:PE X b (Q2 i)) (hm:behindInMarks .NotIn b=false):PT X (.Compare a [.NotIn] [b] pos) (cOf C (dT (A0t true te i))):=PT.wk (C18 (C58 hu ha hb) hm) fun _ _ _ h=>C6o (A84 h)
def A42 (i:Nat) (ms:List Md) (sp:p6) (u:DA)  (D:J5) (ρ:List Sl):Prop:=u ρ fun as ρ'=>bnd (N6 ρ' ms as) fun ds=>sp ds fun s=>D.nx (ρ'.set i s)
def A43 (ms:List Md) (sp:p6) (u:DA)  (ρ:List Sl) (Q:List PyData->List Sl->Prop):Prop:=u ρ fun as ρ'=>bnd (N6 ρ' ms as) fun ds=>sp ds fun s=>match s with
 | .di false ks=>Q (ks.map m5) ρ'
 | _=>False
def A0u (i:Nat) (ρ:List Sl) (Q:PyData->List Sl->Prop):Prop:=match ρ[i]? with
 | some (.ow ds)=>bnd (ds[ds.length - 1]?) fun d=>Q d (ρ.set i (.ow ds.dropLast))
 | _=>False
theorem A6.dropL {F:Addr->Prop} {H:Hp}:∀{vs:List V} {ds:List PyData},A6 F H vs ds->A6 F H vs.dropLast ds.dropLast
 | _,_,.nil=>.nil
 | _,_,.cons x .nil=>.nil
 | _,_,.cons x (.cons y t)=>.cons x (A6.dropL (.cons y t))
theorem C6q {i:Nat} {K:A7} (h:PE X e (B6k K "list" B6m (Q2 i))):PE X e (eOf C (A0u i)):=PE.wk h fun σ H Q z=>el3 z fun ρ P Qd R ht k=>R.elim fun col r=>by
 unfold A0u at ht
 split at ht
 ·rename_i ds e0
  obtain⟨d,hd,q⟩:=J2 ht
  obtain⟨a,vs,e1,c,n,e2,t⟩:=r.sl i _ e0
  obtain⟨y,hy,ty⟩:=t.at hd
  refine⟨.ref a,G7 e1,.inl ⟨rfl,vs,SqL.of e2⟩,a,vs,y,rfl,rfl,e2,by rw[t.len];exact hy,k _ _ _ _ ⟨col,(r.push ty).write e0 e1 t.dropL⟩ q⟩
 ·exact ht.elim
def A44 (i:Nat) (D:J5) (ρ:List Sl):Prop:=match ρ[i]? with
 | some (.ow _)=>D.nx (ρ.set i (.ow []))
 | _=>False
end
end My
namespace My
open PySem L2
mutual
def C6r:PyData->List (List PyData)
 | .list ds=>ds::B2p ds
 | .tuple ds=>B2p ds
 | _=>[]
def B2p:List PyData->List (List PyData)
 | []=>[]
 | d::ds=>C6r d++B2p ds
end
mutual
def szD:PyData->Nat
 | .list ds=>szL ds + 1
 | .tuple ds=>szL ds + 1
 | _=>1
def szL:List PyData->Nat
 | []=>0
 | d::ds=>szD d + szL ds
end
section
variable {X:Cx} {C:DC} {st:Stmt} {u:DA}
theorem C6s {i n j:Nat} {it:DF} {tt:DT} {te:DE} (hp:PS X st (fun D σ H=>x9 (iOf C it) n j (fun _=>cOf C tt) (fun _=>eOf C te) σ H fun v H1=>D.nx (σ.set i (some v)) H1)):PS X st (sOf C (n9 i (A23 n j it tt te))):=
 PS.wk hp fun _ _ _ ⟨ρ,P,_,R,ht,E⟩=>C52 ⟨_,P,_,R.forget,ht,fun p vs ds ρ' H1 ⟨col,r,t⟩ hp q=>E.nx _ _ _ (r.own t hp) q⟩
variable {a b:Expr} {tb:DE} {pos:Pos}
def D2p (neg:Bool) (i:Nat) (tb:DE)  (ρ:List Sl) (Q:PyData->List Sl->Prop):Prop:=bnd (N4 ρ i) fun _=>tb ρ fun b ρ1=>bnd (N4 ρ1 i) fun a=>gEq neg a b fun d=>Q d ρ1
variable {a b:Expr} {tb:DE} {pos:Pos}
end
end My
namespace L2
open PySem PySem.Spec PyProof.Rows
def C6t (t:TE):TE:=fun σ H Q=>t σ H fun x H1=>∃a kvs,x=.ref a/\H1 a=some (.dT kvs)/\∀o,Q x (upd H1 a (.frz o (.dT kvs)))
theorem C6u {X:Cx} {e:Expr} {t:TE} (h:PE X e t):PE X e (C6t t):=by
 intro pins s σ H Q I h'
 refine thn (h pins s σ H _ I h') fun v s1 ⟨x,H1,I1,r1,a,kvs,e,e1,q⟩=>?_
 obtain⟨z,hd,xs,rel,o,es,ep,ho,r⟩:=(show J1 X.prog X.w H1 s1.heap a (.dT kvs) from I1.hok a _ e1)
 refine⟨x,_,I1.write (t':=s1.toks) (x:=a) (e:=a) (o:=.frz o (.dT kvs)) (by rw[e1];exact True.intro) (.inl rfl) (fun _ _ _ z=>z) ⟨o,ho⟩ ⟨ho,z,hd,xs,KT.keeps rel fun c ys ec=>(by rw[B6 (A8d ec e1 (fun z=>nomatch z))];exact ec),o,es,ep,ho,r⟩,r1,q o⟩
end L2
namespace My
open PySem L2
open PySem.Spec PyProof.Rows
def fdD (ks:List (List Int)):PyData:=.dict ((.none,.none)::ks.map fun k=>(m5 k,.bool true))
section
variable {C:DC} {col:Addr->Nat} {ρ:List Sl} {σ:L2.St} {P:List Pe} {H H':Hp} {p:Addr}
theorem B9.frzN {o:Obj} {ks:List (List Int)} (r:B9 C col ρ σ P H) (hp:H p=none) (k:Kq C.hand H H') (q:Hq C.hand H') (ep:H' p=some (.dT (dEn ks))):B9 C col ρ σ (.v (.ref p) (fdD ks)::P) (upd H' p (.frz o (.dT (dEn ks)))):=by
 have c0:=r.fresh p hp
 have w:=r.walked (o:=o) hp k q ep
 refine (w.sub fun _ h=>A9 _ h).push ?_
 exact .dic c0 E7 (.f o ks)
end
section
variable {X:Cx} {C:DC} {st:Stmt} {e:Expr} {te:DE} {u:DA} {pos:Pos}
def A28 (ms:List Md) (sp:p6) (u:DA)  (ρ:List Sl) (Q:PyData->List Sl->Prop):Prop:=u ρ fun as ρ'=>bnd (N6 ρ' ms as) fun ds=>sp ds fun s=>match s with
 | .di false ks=>Q (fdD ks) ρ'
 | _=>False
theorem C6v {ms:List Md} {sp:p6} {E:XK} (h:PE X e (B09 (A7i ms sp) [] E (aOf C u))):PE X e (eOf C (A28 ms sp u)):=PE.wk (C6u h) fun σ H Q z=>el3 z fun ρ P Qd R ht kk=>⟨ρ,P,_,R,ht,fun vs as ρ' P' H' R' s p q=>R'.elim fun col r=>by
 obtain⟨ds,hds,q⟩:=J2 q
 rw[Q0]
 obtain⟨col,r,tp⟩:=r.norm
 refine⟨Z col,C.hand,ds,_,⟨r.fresh,tp⟩,fun q hq z=>?_,r.hq,A68 r p hds,q,fun sl v H2 q2 nw k2 h2=>?_⟩
 ·have:=r.hnd q hq
  rw[show col q.1=0 from z] at this
  cases this
 ·split at q2
  ·rename_i ks
   obtain⟨a,rfl,ha,e2⟩:=nw
   exact⟨a,_,rfl,e2,fun o=>kk _ _ _ _ ⟨col,(r.sub s).frzN ha k2 h2 e2⟩ q2⟩
  ·exact q2.elim⟩
def C6w (te:DE) (ρ:List Sl) (Q:List PyData->List Sl->Prop):Prop:=te ρ fun d ρ'=>∃ks,d=fdD ks/\Q (ks.map m5) ρ'
theorem C6x {tg:Expr} (h:PE X e (eOf C te)):PI X tg e (iOf C (C6w te)):=PI.wk (C6h h) fun σ H R' z=>el3 z fun ρ P Qd R ht k=>⟨ρ,P,_,R,ht,fun v d ρ' H' R' q=>R'.elim fun col r=>by
 obtain⟨ks,rfl,q⟩:=q
 have t:ThV (Z col) H' v (fdD ks):=r.pd (.v v _) B2
 unfold fdD at t
 generalize hk:((PyData.none,PyData.none)::ks.map fun k=>(m5 k,PyData.bool true))=kvs at t
 cases t with
 | @dic a w _ za e1 uu=>
  cases uu with
  | t=>cases hk
  | k i j=>cases hk
  | f o ks'=>
   have e:ks=ks':=by
    injection hk with _ hk
    refine (C1n fun x y e=>?_).mp hk
    have e:=(Prod.mk.inj e).1
    unfold m5 at e
    injection e with e
    exact (C1n fun _ _ e=>PyData.int.inj e).mp e
   subst e
   have c1:col a<=1:=by rw[show col a=0 from za];decide
   have nh:∀q,C.hand=some q->a≠q.1:=r.notH (by rw[show col a=0 from za];decide)
   exact⟨a,_,rfl,.inr ⟨o,e1,k _ _ (.n a (.frz o (.dT (dEn ks)))::P) _ _ ⟨col,(r.sub fun _ h=>A9 _ h).add (x:=.n a (.frz o (.dT (dEn ks)))) ⟨c1,nh,e1⟩⟩ (fun _ h=>A9 _ h) C6l q⟩⟩⟩
def A45 (ρ:List Sl) (Q:PyData->List Sl->Prop):Prop:=Q (.dict []) ρ
def A0v (i:Nat) (te:DE)  (D:J5) (ρ:List Sl):Prop:=match ρ[i]? with
 | some (.ow _)=>te ρ fun d ρ'=>match ρ'[i]? with
  | some (.ow ds)=>ds.length<=100000/\D.nx (ρ'.set i (.ow (ds++[d])))
  | _=>False
 | _=>False
theorem B84 {i:Nat} {K:A7} (hp:PS X st (B0y (tBM K "list" B1e (Q2 i) (W9 (eOf C te) Z0)))):PS X st (sOf C (A0v i te)):=PS.wk hp fun D σ H zz36=>el3 zz36 fun ρ P Dd zz37 ht E=>zz37.elim fun col r=>by
 unfold A0v at ht
 split at ht
 ·rename_i ds0 e0
  obtain⟨a,vs,e1,c,n,e2,t⟩:=r.sl i _ e0
  refine⟨.ref a,G7 e1,.inl ⟨rfl,vs,SqL.of e2⟩,ρ,P,_,⟨col,r⟩,ht,fun v d ρ' H' zz38 q=>zz38.elim fun col' r'=>?_⟩
  split at q
  ·rename_i ds e0'
   obtain⟨a',vs',e1',c',n',e2',t'⟩:=r'.sl i _ e0'
   rw[e1] at e1'
   cases e1'
   exact⟨a,vs',v,rfl,rfl,e2',by rw[t'.len,sizeLine_eq];have:=q.1;omega,E.nx _ _ _ ⟨col',((r'.write e0' e1 (t'.snoc (r'.pd _ B2)))).sub fun _ h=>A9 _ h⟩ q.2⟩
  ·exact q.elim
 ·exact ht.elim
end
end My
namespace My
open PySem L2
section
variable {X:Cx} {C:DC} {st:Stmt} {e:Expr} {ta:DE}
end
end My
namespace My
abbrev Ct:=List (List (Option Int))
abbrev Spt:=Nat×Nat
def ca (t:Ct) (s:Spt):Option Int:=gt (t.getD s.1 []) s.2
open PySem L2
end My
namespace L2
open PySem PySem.Spec PyProof.Rows
section
variable {X:Cx}
end
end L2
namespace My
open PySem L2
section
variable {C:DC}
end
end My
namespace L2
open PySem PySem.Spec PyProof.Rows
section
variable {X:Cx} {pins:List (Addr×Obj)} {σ:St} {H:Hp} {s:Shared}
end
section
variable {X:Cx}
end
section
variable {prog:Program} {w:World} {K:Type} [DecidableEq K] {knd:HeapKind prog w K} {A:Around} {E:Value->Shared->Prop} {s:Shared}
end
section
variable {X:Cx} {pins:List (Addr×Obj)} {σ:St} {H:Hp} {s:Shared} {a b:Addr} {kvs:List (List Key×V)} {k:List Key} {A:Around} {E:Value->Shared->Prop}
end
section
variable {prog:Program} {w:World} {A:Around} {E:Value->Shared->Prop} {s:Shared}
end
section
variable {prog:Program} {w:World} {A:Around} {R:Result->Shared->Prop} {I:Addr} {fp wr:List Addr} {n:Nat} {P:Nat->Value->Prop} {St:Nat->Heap->Prop}
end
section
variable {X:Cx}
end
structure TB (a₀:Array Keyed) (st:SortSt):Prop where
 perm:(arrOf st).Perm a₀
 kind:kindOf st=oneType'
 ok:failedOf st=none
section
variable {a₀:Array Keyed} {st:SortSt}
theorem TB.base (h:TB a₀ st):SBase a₀ (setPending st #[]):=⟨h.perm,h.kind,h.ok,rfl⟩
theorem TB.size (h:TB a₀ st):(arrOf st).size=a₀.size:=h.perm.size_eq
theorem TB.put (h:TB a₀ st) {xs:Array Keyed} (hp:xs.Perm (arrOf st)):TB a₀ (setArr st xs):=⟨hp.trans h.perm,h.kind,h.ok⟩
theorem TB.pend (h:TB a₀ st) (p:Array (Nat×Nat×Nat)):TB a₀ (setPending st p):=⟨h.perm,h.kind,h.ok⟩
end
def Srt (xs:Array Keyed) (i j:Nat):Prop:=∀p q,i<=p->p<=q->q < j->K xs p<=K xs q
def Dsc (xs:Array Keyed) (i j:Nat):Prop:=∀p q,i<=p->p<=q->q < j->K xs q<=K xs p
theorem Srt.one (xs:Array Keyed) (i:Nat):Srt xs i (i + 1):=fun p q h1 h2 h3=>by
 have:p=q:=by lia
 subst this;exact b9 _
theorem Srt.snoc {xs:Array Keyed} {i j:Nat} (h:Srt xs i j) (hj:i < j->K xs (j - 1)<=K xs j):Srt xs i (j + 1):=fun p q h1 h2 h3=>by
 by_cases c:q < j
 ·exact h p q h1 h2 c
 ·have:q=j:=by lia
  subst this
  by_cases c:p=q
  ·subst c;exact b9 _
  ·exact T4 (h p (q - 1) h1 (by lia) (by lia)) (hj (by lia))
theorem Dsc.snoc {xs:Array Keyed} {i j:Nat} (h:Dsc xs i j) (hj:i < j->K xs j<=K xs (j - 1)):Dsc xs i (j + 1):=fun p q h1 h2 h3=>by
 by_cases c:q < j
 ·exact h p q h1 h2 c
 ·have:q=j:=by lia
  subst this
  by_cases c:p=q
  ·subst c;exact b9 _
  ·exact T4 (hj (by lia)) (h p (q - 1) h1 (by lia) (by lia))
theorem Dsc.congr {xs ys:Array Keyed} {i j:Nat} (h:Dsc xs i j) (e:∀k,K ys k=K xs k):Dsc ys i j:=fun p q h1 h2 h3=>by rw[e,e];exact h p q h1 h2 h3
theorem Srt.congr {xs ys:Array Keyed} {i j:Nat} (h:Srt xs i j) (e:∀k,i<=k->k < j->K ys k=K xs k):Srt ys i j:=fun p q h1 h2 h3=>by rw[e _ h1 (by lia),e _ (by lia) h3];exact h p q h1 h2 h3
structure Bel (a₀:Array Keyed) (lo:Nat) (st st':SortSt):Prop where
 tb:TB a₀ st'
 pe:pendingOf st'=pendingOf st
 eq:∀k,k < lo->K (arrOf st') k=K (arrOf st) k
theorem Bel.rfl {a₀:Array Keyed} {lo:Nat} {st:SortSt} (h:TB a₀ st):Bel a₀ lo st st:=⟨h,Eq.refl _,fun _ _=>Eq.refl _⟩
theorem Bel.tr {a₀:Array Keyed} {lo:Nat} {s1 s2 s3:SortSt} (h:Bel a₀ lo s1 s2) (h':Bel a₀ lo s2 s3):Bel a₀ lo s1 s3:=⟨h'.tb,h'.pe.trans h.pe,fun k hk=>(h'.eq k hk).trans (h.eq k hk)⟩
theorem Bel.mir {a₀:Array Keyed} {lo i j:Nat} {st:SortSt} (h:TB a₀ st) (hi:lo<=i) (hj:j<=a₀.size):Bel a₀ lo st (setArr st (mirror (arrOf st) i j ((j - i) / 2))):=⟨h.put (mirror_perm _ _ _ _),Eq.refl _,fun k hk=>by
 show K (mirror (arrOf st) i j ((j - i) / 2)) k=_
 rw[K_mirror (by rw[h.size];exact hj),if_neg (by lia)]⟩
def cUp (o n0 r:Nat):StateT SortSt Sem (Option Nat):=do
 let mut n:=n0
 reverseSlice' o (o + n)
 for _ in [n:r] do
  let some z <-ltAt' (o + n) (o + n - 1) | return none
  if z then break
  n:=n + 1
 return some n
def B85 (o n0 r:Nat):StateT SortSt Sem (Option Nat):=do
 rule "list.sort.descending-run"
 let mut n:=n0 + 1
 let mut e:=0
 for _ in [n:r] do
  let some z <-ltAt' (o + n) (o + n - 1) | return none
  if z then
   if e > 0 then reverseSlice' (o + n - (e + 1)) (o + n)
   e:=0
  else
   let some y <-ltAt' (o + n - 1) (o + n) | return none
   if y then break
   e:=e + 1
  n:=n + 1
 if e > 0 then reverseSlice' (o + n - (e + 1)) (o + n)
 cUp o n r
section
variable {prog:Program} {w:World} {A:Around} {E:Value->Shared->Prop} {s:Shared} {a₀:Array Keyed} {lo:Nat}
theorem A46 {st:SortSt} {i j:Nat} {Q:Option Bool->SortSt->Prop} (hB:TB a₀ st) (h0:IntKeys a₀) (hi:i < a₀.size) (hj:j < a₀.size)
  (h:Q (some (decide (K (arrOf st) i < K (arrOf st) j))) st):wpS (model prog w) A E s (ltAt' i j) Q st:=by
 obtain⟨t,p,e1⟩:=hB.base.at h0 hi
 obtain⟨u,q,e2⟩:=hB.base.at h0 hj
 exact wpS_ltAt hB.kind e1 e2 h
theorem B86 {st:SortSt} {n r:Nat} {Q:Option Nat->SortSt->Prop} (h0:IntKeys a₀) (hn:lo + r<=a₀.size) (h1:1<=n) (hnn:n<=r) (hB:TB a₀ st)
  (hs:Dsc (arrOf st) lo (lo + n)) (h:∀m st',Bel a₀ lo st st'->1<=m->m<=r->Srt (arrOf st') lo (lo + m)->Q (some m) st'):wpS (model prog w) A E s (cUp lo n r) Q st:=by
 unfold cUp
 have b1:Bel a₀ lo st (setArr st (mirror (arrOf st) lo (lo + n) ((lo + n - lo) / 2))):=Bel.mir hB (D2 _) (by lia)
 refine wpS_bind (wpS_reverse ?_)
 obtain⟨st1,e1⟩:∃st1,st1=setArr st (mirror (arrOf st) lo (lo + n) ((lo + n - lo) / 2)):=⟨_,rfl⟩
 have s1:Srt (arrOf st1) lo (lo + n):=fun p q a b c=>by
  rw[e1]
  show K (mirror (arrOf st) lo (lo + n) ((lo + n - lo) / 2)) p<=K (mirror (arrOf st) lo (lo + n) ((lo + n - lo) / 2)) q
  rw[K_mirror (by rw[hB.size];lia),K_mirror (by rw[hB.size];lia),if_pos (by lia),if_pos (by lia)]
  exact hs _ _ (by lia) (by lia) (by lia)
 rw[<-e1] at b1 ⊢
 clear e1
 refine wpS_bind (wpS_mono (wpS_forRange (I:=fun x c st'=>st'=st1/\c=(none,x)/\Srt (arrOf st1) lo (lo + x)) (Q:=fun c st'=>st'=st1/\∃m,c=(none,m)/\1<=m/\m<=r/\Srt (arrOf st1) lo (lo + m)) ?step ?fin ⟨rfl,rfl,s1⟩) ?post)
 case fin=>
  rintro c st' ⟨rfl,rfl,hs'⟩
  rw[show max n r=r by lia] at hs' ⊢
  exact⟨rfl,r,rfl,by lia,D2 _,hs'⟩
 case step=>
  rintro x c st' hax hxn ⟨rfl,rfl,hs'⟩
  dsimp only
  refine wpS_bind (A46 b1.tb h0 (by lia) (by lia) ?_)
  by_cases hl:K (arrOf st') (lo + x) < K (arrOf st') (lo + x - 1)
  ·simp only[hl,decide_true,if_true]
   exact wpS_pure ⟨rfl,x,rfl,by lia,by lia,hs'⟩
  ·simp only[hl,decide_false,M7,if_false]
   exact wpS_pure ⟨rfl,rfl,hs'.snoc fun _=>Int.not_lt.mp hl⟩
 case post=>
  rintro c st' ⟨rfl,m,rfl,m1,m2,hs'⟩
  exact wpS_pure (h m _ b1 m1 m2 hs')
theorem B87 {st:SortSt} {n r:Nat} {Q:Option Nat->SortSt->Prop} (h0:IntKeys a₀) (hn:lo + r<=a₀.size) (hnn:n + 1<=r) (hB:TB a₀ st)
  (hs:Dsc (arrOf st) lo (lo + (n + 1))) (h:∀m st',Bel a₀ lo st st'->1<=m->m<=r->Srt (arrOf st') lo (lo + m)->Q (some m) st'):wpS (model prog w) A E s (B85 lo n r) Q st:=by
 unfold B85
 refine wpS_bind (wpS_lift (wpAny_rule ⟨rfl,?_⟩))
 refine wpS_bind (wpS_mono (wpS_forRange (I:=fun x c st'=>∃e,c=(none,x,e)/\Bel a₀ lo st st'/\Dsc (arrOf st') lo (lo + x)/\e + 1<=x/\∀i,lo + x - (e + 1)<=i->i < lo + x->K (arrOf st') i=K (arrOf st') (lo + x - 1))
  (Q:=fun c st'=>∃m e,c=(none,m,e)/\Bel a₀ lo st st'/\n + 1<=m/\m<=r/\Dsc (arrOf st') lo (lo + m)/\e + 1<=m/\∀i,lo + m - (e + 1)<=i->i < lo + m->K (arrOf st') i=K (arrOf st') (lo + m - 1)) ?step ?fin ⟨0,rfl,Bel.rfl hB,hs,by lia,fun i a b=>by congr 1;lia⟩) ?post)
 case fin=>
  rintro c st' ⟨e,rfl,b,d,he,eq⟩
  rw[show max (n + 1) r=r by lia] at d he eq ⊢
  exact⟨r,e,rfl,b,hnn,D2 _,d,he,eq⟩
 case step=>
  rintro x c st' hax hxn ⟨e,rfl,b,d,he,eq⟩
  dsimp only
  refine wpS_bind (A46 b.tb h0 (by lia) (by lia) ?_)
  by_cases hl:K (arrOf st') (lo + x) < K (arrOf st') (lo + x - 1)
  ·simp only[hl,decide_true,if_true]
   by_cases he0:e > 0
   ·rw[if_pos he0]
    have sz:lo + x<=(arrOf st').size:=by rw[b.tb.size];lia
    have eqk:∀k,K (mirror (arrOf st') (lo + x - (e + 1)) (lo + x) ((lo + x - (lo + x - (e + 1))) / 2)) k=K (arrOf st') k:=K_mirror_equal sz eq
    refine wpS_bind (wpS_reverse (wpS_pure ⟨0,rfl,b.tr (Bel.mir b.tb (by lia) (by lia)),(d.snoc fun _=>b8 hl).congr eqk,by lia,fun i h1 h2=>by congr 1;lia⟩))
   ·rw[if_neg he0]
    exact wpS_pure ⟨0,rfl,b,d.snoc fun _=>b8 hl,by lia,fun i h1 h2=>by congr 1;lia⟩
  ·simp only[hl,decide_false,M7,if_false]
   refine wpS_bind (A46 b.tb h0 (by lia) (by lia) ?_)
   by_cases hg:K (arrOf st') (lo + x - 1) < K (arrOf st') (lo + x)
   ·simp only[hg,decide_true,if_true]
    exact wpS_pure ⟨x,e,rfl,b,hax,by lia,d,he,eq⟩
   ·simp only[hg,decide_false,M7,if_false]
    have ex:K (arrOf st') (lo + x)=K (arrOf st') (lo + x - 1):=by lia
    refine wpS_pure ⟨e + 1,rfl,b,d.snoc fun _=>Int.le_of_eq ex,by lia,fun i h1 h2=>?_⟩
    rw[show lo + (x + 1) - 1=lo + x by lia]
    by_cases hix:i=lo + x
    ·rw[hix]
    ·rw[ex];exact eq i (by lia) (by lia)
 case post=>
  rintro c st' ⟨m,e,rfl,b,m1,m2,d,he,eq⟩
  dsimp only
  by_cases he0:e > 0
  ·rw[if_pos he0]
   have sz:lo + m<=(arrOf st').size:=by rw[b.tb.size];lia
   have eqk:∀k,K (mirror (arrOf st') (lo + m - (e + 1)) (lo + m) ((lo + m - (lo + m - (e + 1))) / 2)) k=K (arrOf st') k:=K_mirror_equal sz eq
   have b':=b.tr (Bel.mir b.tb (lo:=lo) (i:=lo + m - (e + 1)) (j:=lo + m) (by lia) (by lia))
   exact wpS_bind (wpS_reverse (B86 h0 hn (by lia) m2 b'.tb (d.congr eqk) fun q st2 b2=>h q st2 (b'.tr b2)))
  ·rw[if_neg he0]
   exact B86 h0 hn (by lia) m2 b.tb d fun q st2 b2=>h q st2 (b.tr b2)
theorem C6y {st:SortSt} {r:Nat} {Q:Option Nat->SortSt->Prop} (h0:IntKeys a₀) (hn:lo + r<=a₀.size) (h1:1<=r) (hB:TB a₀ st)
  (h:∀m st',Bel a₀ lo st st'->1<=m->m<=r->Srt (arrOf st') lo (lo + m)->Q (some m) st'):wpS (model prog w) A E s (countRun' lo r) Q st:=by
 rw[countRun'_eq]
 refine wpS_bind (wpS_mono (wpS_forRange (I:=fun x c st'=>st'=st/\c=(none,x)/\Srt (arrOf st) lo (lo + x)) (Q:=fun c st'=>st'=st/\∃m,c=(none,m)/\1<=m/\m<=r/\Srt (arrOf st) lo (lo + m)/\(m=r\/K (arrOf st) (lo + m) < K (arrOf st) (lo + m - 1))) ?step ?fin ⟨rfl,rfl,Srt.one _ _⟩) ?post)
 case fin=>
  rintro c st' ⟨rfl,rfl,hs'⟩
  rw[show max 1 r=r by lia] at hs' ⊢
  exact⟨rfl,r,rfl,by lia,D2 _,hs',.inl rfl⟩
 case step=>
  rintro x c st' hax hxn ⟨rfl,rfl,hs'⟩
  dsimp only
  refine wpS_bind (A46 hB h0 (by lia) (by lia) ?_)
  by_cases hl:K (arrOf st') (lo + x) < K (arrOf st') (lo + x - 1)
  ·simp only[hl,decide_true,if_true]
   exact wpS_pure ⟨rfl,x,rfl,by lia,by lia,hs',.inr hl⟩
  ·simp only[hl,decide_false,M7,if_false]
   exact wpS_pure ⟨rfl,rfl,hs'.snoc fun _=>Int.not_lt.mp hl⟩
 case post=>
  rintro c st' ⟨rfl,m,rfl,m1,m2,hs',hor⟩
  dsimp only
  by_cases hm:m=r
  ·rw[if_pos (by simpa using hm)]
   exact wpS_pure (h m _ (Bel.rfl hB) m1 m2 hs')
  ·rw[if_neg (by simpa using hm)]
   have hlt:=hor.resolve_left hm
   by_cases hg:m > 1
   ·rw[if_pos hg]
    refine wpS_bind (A46 hB h0 (by lia) (by lia) ?_)
    by_cases hr:K (arrOf st') lo < K (arrOf st') (lo + m - 1)
    ·simp only[hr,decide_true,if_true]
     exact wpS_pure (h m _ (Bel.rfl hB) m1 m2 hs')
    ·simp only[hr,decide_false,M7,if_false]
     have sz:lo + m<=(arrOf st').size:=by rw[hB.size];lia
     have all:∀k,lo<=k->k < lo + m->K (arrOf st') k=K (arrOf st') (lo + m - 1):=fun k a b=>by
      have a1:=hs' lo k (by lia) a b
      have a2:=hs' k (lo + m - 1) a (by lia) (by lia)
      lia
     have eqk:∀k,K (mirror (arrOf st') lo (lo + m) ((lo + m - lo) / 2)) k=K (arrOf st') k:=K_mirror_equal sz all
     have b':Bel a₀ lo st' _:=Bel.mir hB (i:=lo) (j:=lo + m) (D2 _) (by lia)
     have dd:Dsc (arrOf st') lo (lo + m):=fun p q a b c=>by rw[all p a (by lia),all q (by lia) c];exact b9 _
     refine wpS_bind (wpS_reverse ?_)
     exact B87 h0 hn (by lia) b'.tb ((dd.snoc fun _=>b8 hlt).congr eqk) fun q st2 b2=>h q st2 (b'.tr b2)
   ·rw[if_neg hg]
    have:m=1:=by lia
    subst this
    exact B87 h0 hn (by lia) hB ((show Dsc (arrOf st') lo (lo + 1) from fun p q a b c=>by
     have:p=q:=by lia
     subst this;exact b9 _).snoc fun _=>b8 hlt) h
theorem C6z {st:SortSt} {n ok:Nat} {Q:Bool->SortSt->Prop} (h0:IntKeys a₀) (hn:lo + n<=a₀.size) (hok:ok<=n) (hB:TB a₀ st) (hs:Srt (arrOf st) lo (lo + ok))
  (h:∀st',Bel a₀ lo st st'->Srt (arrOf st') lo (lo + n)->Q true st'):wpS (model prog w) A E s (binarySort' lo n ok) Q st:=by
 rw[binarySort'_eq]
 refine wpS_bind (wpS_mono (wpS_forRange (I:=fun k c st'=>c=(none,())/\Bel a₀ lo st st'/\Srt (arrOf st') lo (lo + min k n))
  (Q:=fun c st'=>c=(none,())/\Bel a₀ lo st st'/\Srt (arrOf st') lo (lo + n)) ?step ?fin ?init) ?post)
 case post=>
  rintro c st' ⟨rfl,b,hs'⟩
  exact wpS_pure (h st' b hs')
 case init=>
  refine⟨rfl,Bel.rfl hB,fun p q a b c=>?_⟩
  by_cases h1:ok=0
  ·have:p=q:=by lia
   subst this;exact b9 _
  ·exact hs p q a b (by lia)
 case fin=>
  rintro c st' ⟨hc,b,hs'⟩
  refine⟨hc,b,?_⟩
  rwa [show min (max (max ok 1) n) n=n by lia] at hs'
 case step=>
  rintro k c st' hak hkn ⟨rfl,b,hs'⟩
  rw[show min k n=k by lia] at hs'
  refine wpS_bind (wpS_mono (wpS_forRange (I:=fun x c st2=>st2=st'/\∃l r,c=(none,l,r)/\l<=r/\r<=k/\r - l<=k - x/\
    (∀i,i < l->K (arrOf st') (lo + i)<=K (arrOf st') (lo + k))/\(∀i,r<=i->i < k->K (arrOf st') (lo + k) < K (arrOf st') (lo + i)))
   (Q:=fun c st2=>st2=st'/\∃l r,c=(none,l,r)/\l<=k/\
    (∀i,i < l->K (arrOf st') (lo + i)<=K (arrOf st') (lo + k))/\(∀i,l<=i->i < k->K (arrOf st') (lo + k) < K (arrOf st') (lo + i))) ?istep ?ifin ?iinit) ?ipost)
  case iinit=>exact⟨rfl,0,k,rfl,by lia,by lia,by lia,fun i hi=>by lia,fun i h1 h2=>by lia⟩
  case ifin=>
   rintro c st2 ⟨rfl,l,r,rfl,hlr,hrk,hm,hlo,hhi⟩
   have:l=r:=by lia
   subst this
   exact⟨rfl,l,l,rfl,hrk,hlo,hhi⟩
  case istep=>
   rintro x c st2 _ hxk ⟨rfl,l,r,rfl,hlr,hrk,hm,hlo,hhi⟩
   dsimp only
   by_cases hge:l ≥ r
   ·rw[if_pos hge]
    have:l=r:=by lia
    subst this
    exact wpS_pure ⟨rfl,l,l,rfl,hrk,hlo,hhi⟩
   ·rw[if_neg hge]
    refine wpS_bind (A46 b.tb h0 (by lia) (by lia) ?_)
    by_cases hl:K (arrOf st2) (lo + k) < K (arrOf st2) (lo + (l + r) / 2)
    ·simp only[hl,decide_true,if_true]
     refine wpS_pure ⟨rfl,l,(l + r) / 2,rfl,by lia,by lia,by lia,hlo,fun i h1 h2=>?_⟩
     exact Int.lt_of_lt_of_le hl (hs' _ _ (by lia) (by lia) (by lia))
    ·simp only[hl,decide_false,M7,if_false]
     refine wpS_pure ⟨rfl,(l + r) / 2 + 1,r,rfl,by lia,by lia,by lia,fun i h1=>?_,hhi⟩
     exact T4 (hs' (lo + i) (lo + (l + r) / 2) (by lia) (by lia) (by lia)) (Int.not_lt.mp hl)
  case ipost=>
   rintro c st2 ⟨rfl,l,r,rfl,hlk,hlo,hhi⟩
   have kb:∀q,K (bubble (arrOf st2) (lo + k) (lo + k - (lo + l))) q=if q=lo + l then K (arrOf st2) (lo + k) else if lo + l < q/\q<=lo + k then K (arrOf st2) (q - 1) else K (arrOf st2) q:=fun q=>by
    rw[K_bubble (by rw[b.tb.size];lia) (by lia),show lo + k - (lo + k - (lo + l))=lo + l by lia]
   have hlo':∀i,lo<=i->i < lo + l->K (arrOf st2) i<=K (arrOf st2) (lo + k):=fun i h1 h2=>by
    have:=hlo (i - lo) (by lia)
    rwa [show lo + (i - lo)=i by lia] at this
   have hhi':∀i,lo + l<=i->i < lo + k->K (arrOf st2) (lo + k) < K (arrOf st2) i:=fun i h1 h2=>by
    have:=hhi (i - lo) (by lia) (by lia)
    rwa [show lo + (i - lo)=i by lia] at this
   show wpS _ _ _ _ (do moveDown' (lo + k) (lo + l);pure (ForInStep.yield (none,()))) _ _
   rw[moveDown'_eq]
   refine wpS_bind (wpS_modify (wpS_pure ⟨rfl,b.tr ⟨b.tb.put (bubble_perm _ _ _),rfl,fun q hq=>?_⟩,?_⟩))
   ·show K (bubble (arrOf st2) (lo + k) (lo + k - (lo + l))) q=_
    rw[kb,if_neg (by lia),if_neg (by lia)]
   rw[show min (k + 1) n=k + 1 by lia]
   intro i j hi hij hj
   show K (bubble (arrOf st2) (lo + k) (lo + k - (lo + l))) i<=K (bubble (arrOf st2) (lo + k) (lo + k - (lo + l))) j
   rw[kb,kb]
   repeat' split
   all_goals first
    | (exfalso;lia)
    | exact b9 _
    | exact hlo' _ (by lia) (by lia)
    | exact b8 (hhi' _ (by lia) (by lia))
    | exact hs' _ _ (by lia) (by lia) (by lia)
def nm (p:Keyed):Int:=numOf p.1
def isI (p:Keyed):Prop:=∃n t,p.1=Value.int n t
theorem A9k {x y:Keyed} {st:SortSt} {Q:Option Bool->SortSt->Prop} (hk:kindOf st=oneType') (hx:isI x) (hy:isI y) (h:Q (some (decide (nm x < nm y))) st):wpS (model prog w) A E s (lt' x y) Q st:=by
 obtain⟨n,t,ex⟩:=hx
 obtain⟨m,u,ey⟩:=hy
 rw[lt'_eq]
 refine wpS_bind (wpS_get ?_)
 rw[hk,keyLt'_oneType,ex,ey]
 refine wpS_bind (wpS_lift (wpAny_attempt (oneLt_int ⟨rfl,?_⟩)))
 unfold nm at h
 rw[ex,ey] at h
 exact wpS_pure h
def gal:Bool->Keyed->Array Keyed->Nat->Nat->Nat->StateT SortSt Sem (Option Nat):=sortPriv% PySem.Builtin.gallop
def byd (left:Bool) (key:Keyed) (arr:Array Keyed) (base i:Nat):StateT SortSt Sem (Option Bool):=do
 let x <-elem' arr (base + i)
 if left then lt' x key else return (<-lt' key x).map (!·)
def B88 (bd:Nat->StateT SortSt Sem (Option Bool)) (l0 h0 n:Nat):StateT SortSt Sem (Option Nat):=do
 let mut lo:=l0
 let mut hi:=h0
 for _ in [0:n] do
  if lo ≥ hi then break
  let m:=lo + (hi - lo) / 2
  let some z <-bd m | return none
  if z then lo:=m + 1 else hi:=m
 return some hi
theorem C60 (left:Bool) (key:Keyed) (arr:Array Keyed) (base n hint:Nat):gal left key arr base n hint=(do
 let mut lastofs:=0
 let mut ofs:=1
 let mut lo:=0
 let mut hi:=0
 let some z <-byd left key arr base hint | return none
 if z then
  let mx:=n - hint
  for _ in [0:n] do
   if ofs ≥ mx then break
   let some y <-byd left key arr base (hint + ofs) | return none
   if !y then break
   lastofs:=ofs
   ofs:=2 * ofs + 1
  lo:=hint + lastofs + 1
  hi:=hint + min ofs mx
 else
  let mx:=hint + 1
  for _ in [0:n] do
   if ofs ≥ mx then break
   let some y <-byd left key arr base (hint - ofs) | return none
   if y then break
   lastofs:=ofs
   ofs:=2 * ofs + 1
  lo:=hint + 1 - min ofs mx
  hi:=hint - lastofs
 for _ in [0:n] do
  if lo ≥ hi then break
  let m:=lo + (hi - lo) / 2
  let some z <-byd left key arr base m | return none
  if z then lo:=m + 1 else hi:=m
 return some hi):=rfl
section
variable {bd:Nat->StateT SortSt Sem (Option Bool)} {B:Nat->Bool} {n:Nat} {st:SortSt}
theorem B89 {l h:Nat} {Q:Option Nat->SortSt->Prop} (hb:∀i (R:Option Bool->SortSt->Prop),i < n->R (some (B i)) st->wpS (model prog w) A E s (bd i) R st) (mono:∀i j,i<=j->j < n->B j=true->B i=true)
  (lh:l<=h) (hn:h<=n) (b1:∀i,i < l->B i=true) (b2:∀i,h<=i->i < n->B i=false) (q:∀k,k<=n->(∀i,i < k->B i=true)->(∀i,k<=i->i < n->B i=false)->Q (some k) st):wpS (model prog w) A E s (B88 bd l h n) Q st:=by
 unfold B88
 refine wpS_bind (wpS_mono (wpS_forRange (I:=fun x c st'=>st'=st/\∃l h,c=(none,l,h)/\l<=h/\h<=n/\h - l<=n - x/\(∀i,i < l->B i=true)/\∀i,h<=i->i < n->B i=false)
  (Q:=fun c st'=>st'=st/\∃l h,c=(none,l,h)/\h<=n/\(∀i,i < h->B i=true)/\∀i,h<=i->i < n->B i=false) ?step ?fin ⟨rfl,l,h,rfl,lh,hn,by lia,b1,b2⟩) ?post)
 case post=>
  rintro c st' ⟨rfl,l,h,rfl,hn,b1,b2⟩
  exact wpS_pure (q h hn b1 b2)
 case fin=>
  rintro c st' ⟨rfl,l,h,rfl,lh,hn,hm,b1,b2⟩
  exact⟨rfl,l,h,rfl,hn,fun i hi=>b1 i (by lia),b2⟩
 case step=>
  rintro x c st' _ hx ⟨rfl,l,h,rfl,lh,hn,hm,b1,b2⟩
  dsimp only
  by_cases c:l ≥ h
  ·rw[if_pos c]
   exact wpS_pure ⟨rfl,l,h,rfl,hn,fun i hi=>b1 i (by lia),b2⟩
  ·rw[if_neg c]
   refine wpS_bind (hb _ _ (by lia) ?_)
   cases e:B (l + (h - l) / 2) with
   | true=>
    simp only[if_true]
    exact wpS_pure ⟨rfl,_,h,rfl,by lia,hn,by lia,fun i hi=>mono i _ (show i<=l + (h - l) / 2 by lia) (by lia) e,b2⟩
   | false=>
    simp only[M7,if_false]
    refine wpS_pure ⟨rfl,l,_,rfl,by lia,by lia,by lia,b1,fun i h1 h2=>?_⟩
    cases e':B i with
    | false=>rfl
    | true=>rw[mono _ i h1 h2 e'] at e;cases e
end
theorem B9a {left:Bool} {key:Keyed} {arr:Array Keyed} {base n hint:Nat} {B:Nat->Bool} {st:SortSt} {Q:Option Nat->SortSt->Prop} (hh:hint < n) (hb:∀i (R:Option Bool->SortSt->Prop),i < n->R (some (B i)) st->wpS (model prog w) A E s (byd left key arr base i) R st) (mono:∀i j,i<=j->j < n->B j=true->B i=true)
  (q:∀k,k<=n->(∀i,i < k->B i=true)->(∀i,k<=i->i < n->B i=false)->Q (some k) st):wpS (model prog w) A E s (gal left key arr base n hint) Q st:=by
 have mono':∀i j,i<=j->j < n->B i=false->B j=false:=fun i j h1 h2 e=>by
  cases e':B j with
  | false=>rfl
  | true=>rw[mono i j h1 h2 e'] at e;cases e
 rw[C60]
 refine wpS_bind (hb _ _ hh ?_)
 cases e:B hint with
 | true=>
  simp only[if_true]
  refine wpS_bind (wpS_mono (wpS_forRange (I:=fun x c st'=>st'=st/\∃a o,c=(none,a,o)/\a < o/\x + 1<=o/\hint + a < n/\B (hint + a)=true)
   (Q:=fun c st'=>st'=st/\∃a o,c=(none,a,o)/\a < o/\hint + a < n/\B (hint + a)=true/\(n - hint<=o\/B (hint + o)=false)) ?step ?fin ⟨rfl,0,1,rfl,by lia,by lia,hh,e⟩) ?post)
  case fin=>
   rintro c st' ⟨rfl,a,o,rfl,h1,h2,h3,h4⟩
   exact⟨rfl,a,o,rfl,h1,h3,h4,.inl (by lia)⟩
  case step=>
   rintro x c st' _ hx ⟨rfl,a,o,rfl,h1,h2,h3,h4⟩
   dsimp only
   by_cases c:o ≥ n - hint
   ·rw[if_pos c]
    exact wpS_pure ⟨rfl,a,o,rfl,h1,h3,h4,.inl c⟩
   ·rw[if_neg c]
    refine wpS_bind (hb _ _ (by lia) ?_)
    cases e2:B (hint + o) with
    | true=>
     simp only[v8,M7,if_false]
     exact wpS_pure ⟨rfl,o,_,rfl,by lia,by lia,by lia,e2⟩
    | false=>
     simp only[A6i,if_true]
     exact wpS_pure ⟨rfl,a,o,rfl,h1,h3,h4,.inr e2⟩
  case post=>
   rintro c st' ⟨rfl,a,o,rfl,h1,h3,h4,h5⟩
   dsimp only
   refine B89 (bd:=byd left key arr base) hb mono (by lia) (by lia) (fun i hi=>mono i _ (show i<=hint + a by lia) h3 h4) (fun i g1 g2=>?_) q
   rcases h5 with h5 | h5
   ·lia
   ·by_cases c:n - hint<=o
    ·lia
    ·exact mono' (hint + o) i (by lia) g2 h5
 | false=>
  simp only[M7,if_false]
  refine wpS_bind (wpS_mono (wpS_forRange (I:=fun x c st'=>st'=st/\∃a o,c=(none,a,o)/\a < o/\x + 1<=o/\a<=hint/\B (hint - a)=false)
   (Q:=fun c st'=>st'=st/\∃a o,c=(none,a,o)/\a < o/\a<=hint/\B (hint - a)=false/\(hint + 1<=o\/B (hint - o)=true)) ?step ?fin ⟨rfl,0,1,rfl,by lia,by lia,by lia,e⟩) ?post)
  case fin=>
   rintro c st' ⟨rfl,a,o,rfl,h1,h2,h3,h4⟩
   exact⟨rfl,a,o,rfl,h1,h3,h4,.inl (by lia)⟩
  case step=>
   rintro x c st' _ hx ⟨rfl,a,o,rfl,h1,h2,h3,h4⟩
   dsimp only
   by_cases c:o ≥ hint + 1
   ·rw[if_pos c]
    exact wpS_pure ⟨rfl,a,o,rfl,h1,h3,h4,.inl c⟩
   ·rw[if_neg c]
    refine wpS_bind (hb _ _ (by lia) ?_)
    cases e2:B (hint - o) with
    | true=>
     simp only[if_true]
     exact wpS_pure ⟨rfl,a,o,rfl,h1,h3,h4,.inr e2⟩
    | false=>
     simp only[M7,if_false]
     exact wpS_pure ⟨rfl,o,_,rfl,by lia,by lia,by lia,e2⟩
  case post=>
   rintro c st' ⟨rfl,a,o,rfl,h1,h3,h4,h5⟩
   dsimp only
   refine B89 (bd:=byd left key arr base) hb mono (by lia) (by lia) (fun i hi=>?_) (fun i g1 g2=>mono' (hint - a) i g1 g2 h4) q
   rcases h5 with h5 | h5
   ·lia
   ·by_cases c:hint + 1<=o
    ·lia
    ·exact mono i (hint - o) (by lia) (by lia) h5
end
section
variable {prog:Program} {w:World} {A:Around} {E:Value->Shared->Prop} {s:Shared}
theorem A29 {xs:Array Keyed} {i:Nat} {p:Keyed} (e:xs[i]?=some p):K xs i=nm p:=by unfold K nm;rw[e]
theorem N0 {xs:Array Keyed} {i:Nat} (h:i < xs.size):∃p,xs[i]?=some p/\p∈xs.toList/\K xs i=nm p:=⟨xs[i],getElem?_pos xs i h,by simp,A29 (getElem?_pos xs i h)⟩
theorem P2 {xs:Array Keyed} {i:Nat} {p:Keyed} {st:SortSt} {Q:Keyed->SortSt->Prop} (e:xs[i]?=some p) (h:Q p st):wpS (model prog w) A E s (elem' xs i) Q st:=by
 rw[elem'_eq,e]
 exact wpS_pure h
def p7 (left:Bool) (key:Keyed) (arr:Array Keyed) (base i:Nat):Bool:=if left then decide (K arr (base + i) < nm key) else !decide (nm key < K arr (base + i))
theorem B9b {left:Bool} {key:Keyed} {arr:Array Keyed} {base i:Nat} {st:SortSt} {R:Option Bool->SortSt->Prop} (hk:kindOf st=oneType') (ik:isI key) (ia:∀p∈arr.toList,isI p) (hi:base + i < arr.size) (h:R (some (p7 left key arr base i)) st):wpS (model prog w) A E s (byd left key arr base i) R st:=by
 obtain⟨p,e,hp,ek⟩:=N0 hi
 unfold byd
 refine wpS_bind (P2 e ?_)
 unfold p7 at h
 rw[ek] at h
 cases left with
 | true=>
  simp only[if_true] at h ⊢
  exact A9k hk (ia _ hp) ik h
 | false=>
  simp only[M7,if_false] at h ⊢
  exact wpS_bind (A9k hk ik (ia _ hp) (wpS_pure h))
theorem B9c {left:Bool} {key:Keyed} {arr:Array Keyed} {base n:Nat} (hs:Srt arr base (base + n)):∀i j,i<=j->j < n->p7 left key arr base j=true->p7 left key arr base i=true:=fun i j h1 h2 h3=>by
 have:=hs (base + i) (base + j) (by lia) (by lia) (by lia)
 unfold p7 at h3 ⊢
 cases left with
 | true=>
  simp only[if_true,decide_eq_true_eq] at h3 ⊢
  lia
 | false=>
  simp only[M7,if_false,B48,decide_eq_false_iff_not] at h3 ⊢
  lia
theorem B2q {key:Keyed} {arr:Array Keyed} {base n hint:Nat} {st:SortSt} {Q:Option Nat->SortSt->Prop} (hk:kindOf st=oneType') (ik:isI key) (ia:∀p∈arr.toList,isI p) (hh:hint < n) (hn:base + n<=arr.size) (hs:Srt arr base (base + n))
  (q:∀k,k<=n->(∀i,i < k->K arr (base + i)<=nm key)->(∀i,k<=i->i < n->nm key < K arr (base + i))->Q (some k) st):wpS (model prog w) A E s (gal false key arr base n hint) Q st:=
 B9a hh (fun i R hi=>B9b hk ik ia (by lia)) (B9c hs) fun k h1 h2 h3=>q k h1 (fun i hi=>by
  have:=h2 i hi
  unfold p7 at this
  simp only[M7,if_false,B48,decide_eq_false_iff_not] at this
  lia) fun i a b=>by
  have:=h3 i a b
  unfold p7 at this
  simp only[M7,if_false,Bool.not_eq_false',decide_eq_true_eq] at this
  exact this
theorem B2r {key:Keyed} {arr:Array Keyed} {base n hint:Nat} {st:SortSt} {Q:Option Nat->SortSt->Prop} (hk:kindOf st=oneType') (ik:isI key) (ia:∀p∈arr.toList,isI p) (hh:hint < n) (hn:base + n<=arr.size) (hs:Srt arr base (base + n))
  (q:∀k,k<=n->(∀i,i < k->K arr (base + i) < nm key)->(∀i,k<=i->i < n->nm key<=K arr (base + i))->Q (some k) st):wpS (model prog w) A E s (gal true key arr base n hint) Q st:=
 B9a hh (fun i R hi=>B9b hk ik ia (by lia)) (B9c hs) fun k h1 h2 h3=>q k h1 (fun i hi=>by
  have:=h2 i hi
  unfold p7 at this
  simp only[if_true,decide_eq_true_eq] at this
  exact this) fun i a b=>by
  have:=h3 i a b
  unfold p7 at this
  simp only[if_true,decide_eq_false_iff_not] at this
  lia
end
def LeP (p q:Keyed):Prop:=nm p<=nm q
structure Mg (x y o:Array Keyed) (i j:Nat):Prop where
 perm:o.toList.Perm (x.toList.take i++y.toList.take j)
 srt:o.toList.Pairwise LeP
 lx:i < x.size->∀p∈o.toList,nm p<=K x i
 ly:j < y.size->∀p∈o.toList,nm p<=K y j
def O6 (x y r:Array Keyed):Prop:=r.toList.Perm (x.toList++y.toList)/\r.toList.Pairwise LeP
theorem B2s {x:Array Keyed} {i:Nat} {p:Keyed} (e:x[i]?=some p):x.toList.take (i + 1)=x.toList.take i++[p]:=by
 rw[A72,Y1,e];rfl
section
variable {x y o:Array Keyed} {i j k:Nat} {p:Keyed}
theorem Mg.pushX (h:Mg x y o i j) (sx:Srt x 0 x.size) (hi:i < x.size) (e:x[i]?=some p) (le:j < y.size->nm p<=K y j):Mg x y (o.push p) (i + 1) j:=by
 have kx:=A29 e
 refine⟨?_,?_,fun hi' q hq=>?_,fun hj q hq=>?_⟩
 ·rw[B2s e,T5]
  refine (h.perm.append_right [p]).trans ?_
  rw[L1,L1]
  exact Y3.append_left _ A3n
 ·rw[T5,A09]
  exact⟨h.srt,B0n _ _,fun a ha b hb=>by rw[L9.mp hb];show nm a<=nm p;rw[<-kx];exact h.lx hi a ha⟩
 ·have:=sx i (i + 1) (by lia) (by lia) hi'
  rw[T5] at hq
  rcases K7.mp hq with z | z
  ·exact T4 (h.lx hi q z) this
  ·rw[L9.mp z,<-kx];exact this
 ·rw[T5] at hq
  rcases K7.mp hq with z | z
  ·exact h.ly hj q z
  ·rw[L9.mp z];exact le hj
theorem Mg.pushY (h:Mg x y o i j) (sy:Srt y 0 y.size) (hj:j < y.size) (e:y[j]?=some p) (le:i < x.size->nm p<=K x i):Mg x y (o.push p) i (j + 1):=by
 have ky:=A29 e
 refine⟨?_,?_,fun hi q hq=>?_,fun hj' q hq=>?_⟩
 ·rw[B2s e,T5,<-L1]
  exact h.perm.append_right [p]
 ·rw[T5,A09]
  exact⟨h.srt,B0n _ _,fun a ha b hb=>by rw[L9.mp hb];show nm a<=nm p;rw[<-ky];exact h.ly hj a ha⟩
 ·rw[T5] at hq
  rcases K7.mp hq with z | z
  ·exact h.lx hi q z
  ·rw[L9.mp z];exact le hi
 ·have:=sy j (j + 1) (by lia) (by lia) hj'
  rw[T5] at hq
  rcases K7.mp hq with z | z
  ·exact T4 (h.ly hj q z) this
  ·rw[L9.mp z,<-ky];exact this
theorem A0w (x:Array Keyed) (i k:Nat):(x.extract i (i + k)).toList=(x.toList.drop i).take k:=by
 rw[B0o,B0p,show i + k - i=k by lia]
theorem A9l (x:Array Keyed) (i:Nat):(x.extract i x.size).toList=x.toList.drop i:=by
 rw[B0o,B0p,v5 (by simp)]
theorem B9d (o x:Array Keyed) (i k:Nat) (e:x[i + k]?=some p):o++x.extract i (i + (k + 1))=(o++x.extract i (i + k)).push p:=by
 apply Array.ext'
 rw[W3,T5,W3,A0w,A0w,A72,B5c,Y1,e,L1]
 rfl
theorem Mg.extX (h:Mg x y o i j) (sx:Srt x 0 x.size) (hj:j < y.size):∀k,i + k<=x.size->(∀q,q < k->K x (i + q)<=K y j)->Mg x y (o++x.extract i (i + k)) (i + k) j
 | 0,_,_=>by
  have:o++x.extract i (i + 0)=o:=by apply Array.ext';rw[W3,A0w,B5d,Q0]
  rw[this];exact h
 | k + 1,hk,hl=>by
  obtain⟨p,e,_,kp⟩:=N0 (xs:=x) (i:=i + k) (by lia)
  rw[B9d o x i k e]
  exact (Mg.extX h sx hj k (by lia) fun q hq=>hl q (by lia)).pushX sx (by lia) e fun _=>by rw[<-kp];exact hl k (by lia)
theorem Mg.extY (h:Mg x y o i j) (sy:Srt y 0 y.size) (hi:i < x.size):∀k,j + k<=y.size->(∀q,q < k->K y (j + q)<=K x i)->Mg x y (o++y.extract j (j + k)) i (j + k)
 | 0,_,_=>by
  have:o++y.extract j (j + 0)=o:=by apply Array.ext';rw[W3,A0w,B5d,Q0]
  rw[this];exact h
 | k + 1,hk,hl=>by
  obtain⟨p,e,_,kp⟩:=N0 (xs:=y) (i:=j + k) (by lia)
  rw[B9d o y j k e]
  exact (Mg.extY h sy hi k (by lia) fun q hq=>hl q (by lia)).pushY sy (by lia) e fun _=>by rw[<-kp];exact hl k (by lia)
theorem A7j {x:Array Keyed} {p:Keyed} (h:p∈x.toList.drop i):∃q,i<=q/\q < x.size/\K x q=nm p:=by
 obtain⟨n,hn,e⟩:=A6e.mp h
 rw[List.getElem_drop] at e
 have hl:i + n < x.size:=by rw[A70] at hn;simp at hn;lia
 exact⟨i + n,by lia,hl,A29 (by rw[getElem?_pos x _ hl,<-e];simp)⟩
theorem B2t {x:Array Keyed} {a b:Nat} (sx:Srt x a b) (hb:b<=x.size):((x.toList.take b).drop a).Pairwise LeP:=by
 rw[List.pairwise_iff_getElem]
 intro p q hp hq hpq
 rw[List.getElem_drop,List.getElem_drop,List.getElem_take,List.getElem_take]
 rw[A70,T3] at hp hq
 have:=sx (a + p) (a + q) (by lia) (by lia) (by lia)
 rw[K_eq (by lia),K_eq (by lia)] at this
 simpa [LeP,nm] using this
theorem Mg.end1 (h:Mg x y o i j) (sx:Srt x 0 x.size) (hj:j=y.size):O6 x y (o++x.extract i x.size++y.extract j y.size):=by
 subst hj
 have e:(o++x.extract i x.size++y.extract y.size y.size).toList=o.toList++x.toList.drop i:=by
  rw[W3,W3,A9l,A9l,show List.drop y.size y.toList=[] from A1a (by simp),Q0]
 unfold O6
 rw[e]
 refine⟨?_,?_⟩
 ·refine (h.perm.append_right _).trans ?_
  rw[show List.take y.size y.toList=y.toList from v5 (by simp),L1]
  refine (Y3.append_left _ A3n).trans ?_
  rw[<-L1,g8]
 ·rw[A09]
  refine⟨h.srt,?_,fun p hp q hq=>?_⟩
  ·have:=B2t (a:=i) (b:=x.size) (fun p q a b c=>sx p q (by lia) b c) (D2 _)
   rwa [v5 (by simp)] at this
  ·obtain⟨n,h1,h2,h3⟩:=A7j hq
   show nm p<=nm q
   rw[<-h3]
   exact T4 (h.lx (by lia) p hp) (sx i n (by lia) h1 h2)
theorem Mg.end2 (h:Mg x y o i j) (sy:Srt y 0 y.size) (hi:i + 1=x.size) (big:∀n,n < y.size->K y n<=K x i):O6 x y (o++y.extract j y.size++x.extract i x.size):=by
 obtain⟨z,ez,_,kz⟩:=N0 (xs:=x) (i:=i) (by lia)
 have ex:x.toList.drop i=[z]:=by
  have:x.toList.drop i=x.toList[i]'(by simp;lia)::x.toList.drop (i + 1):=g6 (by simp;lia)
  rw[this,A1a (by simp;lia)]
  rw[getElem?_pos x i (by lia)] at ez
  rw[<-Option.some.inj ez]
  simp
 have e:(o++y.extract j y.size++x.extract i x.size).toList=o.toList++y.toList.drop j++[z]:=by
  rw[W3,W3,A9l,A9l,ex]
 unfold O6
 rw[e]
 refine⟨?_,?_⟩
 ·refine ((h.perm.append_right _).append_right _).trans ?_
  rw[L1 (List.take i x.toList),g8,L1]
  refine (Y3.append_left _ A3n).trans ?_
  rw[<-L1,<-ex,g8]
 ·rw[A09,A09]
  refine⟨⟨h.srt,?_,fun p hp q hq=>?_⟩,B0n _ _,fun p hp q hq=>?_⟩
  ·have:=B2t (a:=j) (b:=y.size) (fun p q a b c=>sy p q (by lia) b c) (D2 _)
   rwa [v5 (by simp)] at this
  ·obtain⟨n,h1,h2,h3⟩:=A7j hq
   show nm p<=nm q
   rw[<-h3]
   exact T4 (h.ly (by lia) p hp) (sy j n (by lia) h1 h2)
  ·rw[L9.mp hq]
   show nm p<=nm z
   rw[<-kz]
   rcases K7.mp hp with u | u
   ·exact h.lx (by lia) p u
   ·obtain⟨n,h1,h2,h3⟩:=A7j u
    rw[<-h3];exact big n h2
end
def mLo:Array Keyed->Array Keyed->StateT SortSt Sem (Array Keyed):=sortPriv% PySem.Builtin.mergeLo
def A7k:Nat->StateT SortSt Sem Unit:=sortPriv% PySem.Builtin.setMinGallop
abbrev B9e (st:SortSt) (g:Nat):SortSt:=SortSt.mk' (kindOf st) (arrOf st) (pendingOf st) g (failedOf st)
theorem A9m (g:Nat):A7k g=modify fun st=>B9e st g:=rfl
def e1 (x y o:Array Keyed) (i j:Nat):Array Keyed:=o++x.extract i x.size++y.extract j y.size
def e2 (x y o:Array Keyed) (i j:Nat):Array Keyed:=o++y.extract j y.size++x.extract i x.size
theorem C61 (x y:Array Keyed):mLo x y=(do
 rule "list.sort.merge-lo"
 let t:=x.size + y.size
 let mut o:Array Keyed:=#[<-elem' y 0]
 let mut i:=0
 let mut j:=1
 if j == y.size then return e1 x y o i j
 if i + 1 == x.size then return e2 x y o i j
 let mut g:=gallopOf (<-get)
 for _ in [0:t] do
  let mut u:=0
  let mut v:=0
  for _ in [0:t] do
   let some z <-lt' (<-elem' y j) (<-elem' x i) | return e1 x y o i j
   if z then
    o:=o.push (<-elem' y j);j:=j + 1;v:=v + 1;u:=0
    if j == y.size then return e1 x y o i j
    if v ≥ g then break
   else
    o:=o.push (<-elem' x i);i:=i + 1;u:=u + 1;v:=0
    if i + 1 == x.size then return e2 x y o i j
    if u ≥ g then break
  rule "list.sort.gallop"
  g:=g + 1
  for _ in [0:t] do
   if g > 1 then g:=g - 1
   A7k g
   let some k <-gal false (<-elem' y j) x i (x.size - i) 0 | return e1 x y o i j
   u:=k
   if k > 0 then
    o:=o++x.extract i (i + k);i:=i + k
    if i + 1 == x.size then return e2 x y o i j
    if i == x.size then return e1 x y o i j
   o:=o.push (<-elem' y j);j:=j + 1
   if j == y.size then return e1 x y o i j
   let some k <-gal true (<-elem' x i) y j (y.size - j) 0 | return e1 x y o i j
   v:=k
   if k > 0 then
    o:=o++y.extract j (j + k);j:=j + k
    if j == y.size then return e1 x y o i j
   o:=o.push (<-elem' x i);i:=i + 1
   if i + 1 == x.size then return e2 x y o i j
   if u < 7&&v < 7 then break
  g:=g + 1
  A7k g
 unsupported "internal:list.sort.merge-bound"):=rfl
abbrev LoC:=Option (Array Keyed)×Array Keyed×Nat×Nat×Nat×Nat×Nat
def g3 (x y o:Array Keyed) (i j g u v:Nat):StateT SortSt Sem (ForInStep LoC):=do
 let z <-elem' x i
 if (i + 1 + 1 == x.size)=true then pure (.done (some (e2 x y (o.push z) (i + 1) j),o.push z,i + 1,j,g,u,v))
 else if (decide (u < 7)&&decide (v < 7))=true then pure (.done (none,o.push z,i + 1,j,g,u,v))
 else pure (.yield (none,o.push z,i + 1,j,g,u,v))
def g2 (x y o:Array Keyed) (i j g u v:Nat):StateT SortSt Sem (ForInStep LoC):=do
 let z <-elem' y j
 if (j + 1 == y.size)=true then pure (.done (some (e1 x y (o.push z) i (j + 1)),o.push z,i,j + 1,g,u,v))
 else do
  let p <-elem' x i
  let r <-gal true p y (j + 1) (y.size - (j + 1)) 0
  match r with
  | some k=>
   if k > 0 then
    if (j + 1 + k == y.size)=true then pure (.done (some (e1 x y (o.push z++y.extract (j + 1) (j + 1 + k)) i (j + 1 + k)),o.push z++y.extract (j + 1) (j + 1 + k),i,j + 1 + k,g,u,k))
    else g3 x y (o.push z++y.extract (j + 1) (j + 1 + k)) i (j + 1 + k) g u k
   else g3 x y (o.push z) i (j + 1) g u k
  | _=>pure (.done (some (e1 x y (o.push z) i (j + 1)),o.push z,i,j + 1,g,u,v))
structure Gs (st st':SortSt):Prop where
 k:kindOf st'=kindOf st
 a:arrOf st'=arrOf st
 p:pendingOf st'=pendingOf st
 f:failedOf st'=failedOf st
theorem Gs.rfl {st:SortSt}:Gs st st:=⟨Eq.refl _,Eq.refl _,Eq.refl _,Eq.refl _⟩
theorem Gs.set {st st':SortSt} (h:Gs st st') (g:Nat):Gs st (B9e st' g):=⟨h.k,h.a,h.p,h.f⟩
section
variable {prog:Program} {w:World} {A:Around} {E:Value->Shared->Prop} {s:Shared} {x y o:Array Keyed} {i j g u v:Nat} {st:SortSt} {R:ForInStep LoC->SortSt->Prop}
theorem A9n {α:Type} {c:Prop} [Decidable c] {a b:StateT SortSt Sem α} {Q:α->SortSt->Prop} (h1:c->wpS (model prog w) A E s a Q st) (h2:¬c->wpS (model prog w) A E s b Q st):wpS (model prog w) A E s (if c then a else b) Q st:=by
 by_cases h:c
 ·rw[if_pos h];exact h1 h
 ·rw[if_neg h];exact h2 h
theorem B9f (sx:Srt x 0 x.size) (sy:Srt y 0 y.size) (b2:∀n,n < y.size->K y n < K x (x.size - 1)) (M:Mg x y o i j) (hi:i + 1 < x.size) (le:j < y.size->K x i<=K y j)
  (q1:∀r c,O6 x y r->R (.done (some r,c)) st) (q2:∀o',Mg x y o' (i + 1) j->i + 1 + 1 < x.size->R (.done (none,o',i + 1,j,g,u,v)) st/\R (.yield (none,o',i + 1,j,g,u,v)) st):wpS (model prog w) A E s (g3 x y o i j g u v) R st:=by
 obtain⟨p,e,_,kp⟩:=N0 (xs:=x) (i:=i) (by lia)
 unfold g3
 refine wpS_bind (P2 e ?_)
 have M':=M.pushX sx (by lia) e fun h=>by rw[<-kp];exact le h
 by_cases c:i + 1 + 1=x.size
 ·rw[if_pos (by simpa using c)]
  exact wpS_pure (q1 _ _ (M'.end2 sy c fun n hn=>by
   have:=b2 n hn
   rw[show x.size - 1=i + 1 by lia] at this
   lia))
 ·rw[if_neg (by simpa using c)]
  have:=q2 _ M' (by lia)
  split
  ·exact wpS_pure this.1
  ·exact wpS_pure this.2
theorem B9g (hk:kindOf st=oneType') (ix:∀p∈x.toList,isI p) (iy:∀p∈y.toList,isI p) (sx:Srt x 0 x.size) (sy:Srt y 0 y.size) (b2:∀n,n < y.size->K y n < K x (x.size - 1)) (M:Mg x y o i j) (hi:i + 1 < x.size) (hj:j < y.size) (le:K y j<=K x i)
  (q1:∀r c,O6 x y r->R (.done (some r,c)) st) (q2:∀o' i' j' u' v',Mg x y o' i' j'->i' + 1 < x.size->j' < y.size->i + j + 1<=i' + j'->R (.done (none,o',i',j',g,u',v')) st/\R (.yield (none,o',i',j',g,u',v')) st):wpS (model prog w) A E s (g2 x y o i j g u v) R st:=by
 obtain⟨p,e,hp,kp⟩:=N0 (xs:=y) (i:=j) hj
 obtain⟨px,ex,hx,kx⟩:=N0 (xs:=x) (i:=i) (by lia)
 unfold g2
 refine wpS_bind (P2 e ?_)
 have M':=M.pushY sy hj e fun h=>by rw[<-kp];exact le
 by_cases c:j + 1=y.size
 ·rw[if_pos (by simpa using c)]
  exact wpS_pure (q1 _ _ (M'.end1 sx c))
 ·rw[if_neg (by simpa using c)]
  refine wpS_bind (P2 ex ?_)
  refine wpS_bind (B2r hk (ix _ hx) iy (by lia) (by lia) (fun p q a b c=>sy p q (by lia) b (by lia)) fun k k1 k2 k3=>?_)
  dsimp only
  by_cases c0:k > 0
  ·rw[if_pos c0]
   have M2:=M'.extY sy (by lia) k (by lia) fun q hq=>by have:=k2 q hq;rw[kx];lia
   by_cases c1:j + 1 + k=y.size
   ·rw[if_pos (by simpa using c1)]
    exact wpS_pure (q1 _ _ (M2.end1 sx c1))
   ·rw[if_neg (by simpa using c1)]
    exact B9f sx sy b2 M2 hi (fun h=>by rw[kx];exact k3 k (D2 _) (by lia)) q1 fun o' Mo ho=>q2 _ _ _ _ _ Mo ho (by lia) (by lia)
  ·rw[if_neg c0]
   have:k=0:=by lia
   subst this
   exact B9f sx sy b2 M' hi (fun h=>by rw[kx];exact k3 0 (D2 _) (by lia)) q1 fun o' Mo ho=>q2 _ _ _ _ _ Mo ho (by lia) (by lia)
theorem C62 {Q:Array Keyed->SortSt->Prop} (hk:kindOf st=oneType') (ix:∀p∈x.toList,isI p) (iy:∀p∈y.toList,isI p) (sx:Srt x 0 x.size) (sy:Srt y 0 y.size) (x1:1<=x.size) (y1:1<=y.size)
  (b1:K y 0<=K x 0) (b2:∀n,n < y.size->K y n < K x (x.size - 1)) (q:∀r st',Gs st st'->O6 x y r->Q r st'):wpS (model prog w) A E s (mLo x y) Q st:=by
 rw[C61]
 obtain⟨p0,ey0,_,ky0⟩:=N0 (xs:=y) (i:=0) (by lia)
 refine wpS_bind (wpS_lift (wpAny_rule ⟨rfl,?_⟩))
 refine wpS_bind (P2 ey0 ?_)
 dsimp only
 have big:∀i,i + 1=x.size->∀n,n < y.size->K y n<=K x i:=fun i hi n hn=>by
  have:=b2 n hn
  rw[show x.size - 1=i by lia] at this
  lia
 have m0:Mg x y #[p0] 0 1:=by
  have:Mg x y #[] 0 0:=⟨Y3.refl _,.nil,(fun _ p hp=>by cases hp),(fun _ p hp=>by cases hp)⟩
  exact this.pushY sy (by lia) ey0 fun _=>by rw[<-ky0];exact b1
 by_cases c1:1=y.size
 ·rw[if_pos (by simpa using c1)]
  exact wpS_pure (q _ _ Gs.rfl (m0.end1 sx c1))
 rw[if_neg (by simpa using c1)]
 by_cases c2:0 + 1=x.size
 ·rw[if_pos (by simpa using c2)]
  exact wpS_pure (q _ _ Gs.rfl (m0.end2 sy c2 (big 0 c2)))
 rw[if_neg (by simpa using c2)]
 refine wpS_bind (wpS_get ?_)
 refine wpS_bind (wpS_mono (wpS_forRange (I:=fun n c st'=>∃o i j g,c=(none,o,i,j,g)/\Gs st st'/\Mg x y o i j/\i + 1 < x.size/\j < y.size/\n + 1<=i + j)
  (Q:=fun c st'=>∃r c',c=(some r,c')/\Gs st st'/\O6 x y r) ?step ?fin ⟨_,_,_,_,rfl,Gs.rfl,m0,by lia,by lia,by lia⟩) ?post)
 case post=>
  rintro c st' ⟨r,c',rfl,gs,fin⟩
  exact wpS_pure (q r st' gs fin)
 case fin=>
  rintro c st' ⟨o,i,j,g,rfl,gs,M,hi,hj,hn⟩
  lia
 case step=>
  rintro n c st' _ hn ⟨o,i,j,g,rfl,gs,M,hi,hj,hp⟩
  dsimp only
  refine wpS_bind (wpS_mono (wpS_forRange (I:=fun m c st2=>∃o' i' j' u v,c=(none,o',i',j',u,v)/\Gs st st2/\Mg x y o' i' j'/\i' + 1 < x.size/\j' < y.size/\m + (i + j)<=i' + j')
   (Q:=fun c st2=>(∃r c',c=(some r,c')/\Gs st st2/\O6 x y r)\/∃o' i' j' u v,c=(none,o',i',j',u,v)/\Gs st st2/\Mg x y o' i' j'/\i' + 1 < x.size/\j' < y.size/\i + j + 1<=i' + j') ?istep ?ifin ⟨_,_,_,_,_,rfl,gs,M,hi,hj,by lia⟩) ?ipost)
  case ifin=>
   rintro c st2 ⟨o',i',j',u,v,rfl,gs,M,hi,hj,hn⟩
   lia
  case istep=>
   rintro m c st2 _ hm ⟨o',i',j',u,v,rfl,gs,M,hi,hj,hn⟩
   dsimp only
   obtain⟨py,ey,hy,ky⟩:=N0 (xs:=y) (i:=j') hj
   obtain⟨px,ex,hx,kx⟩:=N0 (xs:=x) (i:=i') (by lia)
   refine wpS_bind (P2 ey (wpS_bind (P2 ex (wpS_bind (A9k (gs.k.trans hk) (iy _ hy) (ix _ hx) ?_)))))
   by_cases hl:nm py < nm px
   ·simp only[hl,decide_true,if_true]
    refine wpS_bind (P2 ey ?_)
    have M':=M.pushY sy hj ey fun _=>by rw[kx];lia
    by_cases c:j' + 1=y.size
    ·rw[if_pos (by simpa using c)]
     exact wpS_pure (.inl ⟨_,_,rfl,gs,M'.end1 sx c⟩)
    ·rw[if_neg (by simpa using c)]
     split
     ·exact wpS_pure (.inr ⟨_,_,_,_,_,rfl,gs,M',hi,by lia,by lia⟩)
     ·exact wpS_pure ⟨_,_,_,_,_,rfl,gs,M',hi,by lia,by lia⟩
   ·simp only[hl,decide_false,M7,if_false]
    refine wpS_bind (P2 ex ?_)
    have M':=M.pushX sx (by lia) ex fun _=>by rw[ky];lia
    by_cases c:i' + 1 + 1=x.size
    ·rw[if_pos (by simpa using c)]
     exact wpS_pure (.inl ⟨_,_,rfl,gs,M'.end2 sy c (big _ c)⟩)
    ·rw[if_neg (by simpa using c)]
     split
     ·exact wpS_pure (.inr ⟨_,_,_,_,_,rfl,gs,M',by lia,hj,by lia⟩)
     ·exact wpS_pure ⟨_,_,_,_,_,rfl,gs,M',by lia,hj,by lia⟩
  case ipost=>
   rintro c st2 (⟨r,c',rfl,gs,fin⟩ | ⟨o',i',j',u,v,rfl,gs,M,hi,hj,hn'⟩)
   ·exact wpS_pure ⟨_,_,rfl,gs,fin⟩
   dsimp only
   refine wpS_bind (wpS_lift (wpAny_rule ⟨rfl,?_⟩))
   refine wpS_bind (wpS_mono (wpS_forRange (I:=fun m c st2=>∃o i j g u v,c=(none,o,i,j,g,u,v)/\Gs st st2/\Mg x y o i j/\i + 1 < x.size/\j < y.size/\m + (i' + j')<=i + j)
    (Q:=fun c st2=>(∃r c',c=(some r,c')/\Gs st st2/\O6 x y r)\/∃o i j g u v,c=(none,o,i,j,g,u,v)/\Gs st st2/\Mg x y o i j/\i + 1 < x.size/\j < y.size/\i' + j'<=i + j) ?gstep ?gfin ⟨_,_,_,_,_,_,rfl,gs,M,hi,hj,by lia⟩) ?gpost)
   case gfin=>
    rintro c st2 ⟨o',i',j',g,u,v,rfl,gs,M,hi,hj,hn⟩
    lia
   case gpost=>
    rintro c st2 (⟨r,c',rfl,gs,fin⟩ | ⟨o',i',j',g,u,v,rfl,gs,M,hi,hj,hn'⟩)
    ·exact wpS_pure ⟨_,_,rfl,gs,fin⟩
    dsimp only
    rw[A9m]
    exact wpS_bind (wpS_modify (wpS_pure ⟨_,_,_,_,rfl,gs.set _,M,hi,hj,by lia⟩))
   case gstep=>
    clear M hi hj gs hp
    rintro m c st2 _ hm ⟨o,i,j,g,u,v,rfl,gs,M,hi,hj,hp⟩
    dsimp only
    obtain⟨py,ey,hy,ky⟩:=N0 (xs:=y) (i:=j) hj
    refine A9n (fun _=>?_) fun _=>?_
    all_goals
     rw[A9m]
     refine wpS_bind (wpS_modify ?_)
     refine wpS_bind (P2 ey ?_)
     refine wpS_bind (B2q ((gs.set _).k.trans hk) (iy _ hy) ix (by lia) (by lia) (fun p q a b c=>sx p q (by lia) b (by lia)) fun k k1 k2 k3=>?_)
     have kl:i + k < x.size:=by
      apply B5e
      intro z
      have a1:=k2 (x.size - 1 - i) (by lia)
      have a2:=b2 j hj
      rw[show i + (x.size - 1 - i)=x.size - 1 by lia] at a1
      rw[ky] at a2
      lia
     dsimp only
     by_cases c0:k > 0
     ·rw[if_pos c0]
      have M2:=M.extX sx hj k (by lia) fun q hq=>by rw[ky];exact k2 q hq
      by_cases c1:i + k + 1=x.size
      ·rw[if_pos (by simpa using c1)]
       exact wpS_pure (.inl ⟨_,_,rfl,gs.set _,M2.end2 sy c1 (big _ c1)⟩)
      ·rw[if_neg (by simpa using c1),if_neg (by simp;lia)]
       exact B9g ((gs.set _).k.trans hk) ix iy sx sy b2 M2 (by lia) hj (by have:=k3 k (D2 _) (by lia);rw[ky];lia) (fun r c hf=>.inl ⟨r,c,rfl,gs.set _,hf⟩) fun o' i' j' u' v' Mo h1 h2 h3=>⟨.inr ⟨_,_,_,_,_,_,rfl,gs.set _,Mo,h1,h2,by lia⟩,⟨_,_,_,_,_,_,rfl,gs.set _,Mo,h1,h2,by lia⟩⟩
     ·rw[if_neg c0]
      have:k=0:=by lia
      subst this
      exact B9g ((gs.set _).k.trans hk) ix iy sx sy b2 M hi hj (by have:=k3 0 (D2 _) (by lia);rw[ky];simp at this;lia) (fun r c hf=>.inl ⟨r,c,rfl,gs.set _,hf⟩) fun o' i' j' u' v' Mo h1 h2 h3=>⟨.inr ⟨_,_,_,_,_,_,rfl,gs.set _,Mo,h1,h2,by lia⟩,⟨_,_,_,_,_,_,rfl,gs.set _,Mo,h1,h2,by lia⟩⟩
end
def mHi:Array Keyed->Array Keyed->StateT SortSt Sem (Array Keyed):=sortPriv% PySem.Builtin.mergeHi
def f1 (x y o:Array Keyed) (i j:Nat):Array Keyed:=x.extract 0 i++y.extract 0 j++o.reverse
def f2 (x y o:Array Keyed) (i j:Nat):Array Keyed:=y.extract 0 j++x.extract 0 i++o.reverse
theorem C63 (x y:Array Keyed):mHi x y=(do
 rule "list.sort.merge-hi"
 let t:=x.size + y.size
 let mut i:=x.size - 1
 let mut j:=y.size
 let mut o:Array Keyed:=#[<-elem' x i]
 if i == 0 then return f1 x y o i j
 if j == 1 then return f2 x y o i j
 let mut g:=gallopOf (<-get)
 for _ in [0:t] do
  let mut u:=0
  let mut v:=0
  for _ in [0:t] do
   let some z <-lt' (<-elem' y (j - 1)) (<-elem' x (i - 1)) | return f1 x y o i j
   if z then
    i:=i - 1;o:=o.push (<-elem' x i);u:=u + 1;v:=0
    if i == 0 then return f1 x y o i j
    if u ≥ g then break
   else
    j:=j - 1;o:=o.push (<-elem' y j);v:=v + 1;u:=0
    if j == 1 then return f2 x y o i j
    if v ≥ g then break
  rule "list.sort.gallop"
  g:=g + 1
  for _ in [0:t] do
   if g > 1 then g:=g - 1
   A7k g
   let some c <-gal false (<-elem' y (j - 1)) x 0 i (i - 1) | return f1 x y o i j
   let k:=i - c
   u:=k
   if k > 0 then
    o:=o++(x.extract c i).reverse;i:=c
    if i == 0 then return f1 x y o i j
   j:=j - 1;o:=o.push (<-elem' y j)
   if j == 1 then return f2 x y o i j
   let some c <-gal true (<-elem' x (i - 1)) y 0 j (j - 1) | return f1 x y o i j
   let k:=j - c
   v:=k
   if k > 0 then
    o:=o++(y.extract c j).reverse;j:=c
    if j == 1 then return f2 x y o i j
    if j == 0 then return f1 x y o i j
   i:=i - 1;o:=o.push (<-elem' x i)
   if i == 0 then return f1 x y o i j
   if u < 7&&v < 7 then break
  g:=g + 1
  A7k g
 unsupported "internal:list.sort.merge-bound"):=rfl
abbrev HiC:=Option (Array Keyed)×Nat×Nat×Array Keyed×Nat×Nat×Nat
def k3 (x y o:Array Keyed) (i j g u v:Nat):StateT SortSt Sem (ForInStep HiC):=do
 let z <-elem' x (i - 1)
 if (i - 1 == 0)=true then pure (.done (some (f1 x y (o.push z) (i - 1) j),i - 1,j,o.push z,g,u,v))
 else if (decide (u < 7)&&decide (v < 7))=true then pure (.done (none,i - 1,j,o.push z,g,u,v))
 else pure (.yield (none,i - 1,j,o.push z,g,u,v))
def k2 (x y o:Array Keyed) (i j g u v:Nat):StateT SortSt Sem (ForInStep HiC):=do
 let z <-elem' y (j - 1)
 if (j - 1 == 1)=true then pure (.done (some (f2 x y (o.push z) i (j - 1)),i,j - 1,o.push z,g,u,v))
 else do
  let p <-elem' x (i - 1)
  let r <-gal true p y 0 (j - 1) (j - 1 - 1)
  match r with
  | some c=>
   if j - 1 - c > 0 then
    if (c == 1)=true then pure (.done (some (f2 x y (o.push z++(y.extract c (j - 1)).reverse) i c),i,c,o.push z++(y.extract c (j - 1)).reverse,g,u,j - 1 - c))
    else if (c == 0)=true then pure (.done (some (f1 x y (o.push z++(y.extract c (j - 1)).reverse) i c),i,c,o.push z++(y.extract c (j - 1)).reverse,g,u,j - 1 - c))
    else k3 x y (o.push z++(y.extract c (j - 1)).reverse) i c g u (j - 1 - c)
   else k3 x y (o.push z) i (j - 1) g u (j - 1 - c)
  | _=>pure (.done (some (f1 x y (o.push z) i (j - 1)),i,j - 1,o.push z,g,u,v))
structure Mh (x y o:Array Keyed) (i j:Nat):Prop where
 perm:o.toList.Perm (x.toList.drop i++y.toList.drop j)
 srt:o.toList.reverse.Pairwise LeP
 lx:0 < i->∀p∈o.toList,K x (i - 1)<=nm p
 ly:0 < j->∀p∈o.toList,K y (j - 1)<=nm p
theorem B9h {x:Array Keyed} {i:Nat} {p:Keyed} (e:x[i]?=some p):x.toList.drop i=p::x.toList.drop (i + 1):=by
 have h:i < x.size:=by
  apply B5e
  intro z
  rw[C1m (by lia)] at e;cases e
 rw[getElem?_pos x i h] at e
 rw[<-Option.some.inj e]
 have:x.toList.drop i=x.toList[i]'(by simp;lia)::x.toList.drop (i + 1):=g6 (by simp;lia)
 rw[this];simp
section
variable {x y o:Array Keyed} {i j k:Nat} {p:Keyed}
theorem B9i (o:Array Keyed) (p:Keyed):(o.push p).toList.reverse=p::o.toList.reverse:=by rw[T5,List.reverse_append];rfl
theorem Mh.pushX (h:Mh x y o i j) (sx:Srt x 0 x.size) (h0:0 < i) (hi:i<=x.size) (e:x[i - 1]?=some p) (le:0 < j->K y (j - 1)<=nm p):Mh x y (o.push p) (i - 1) j:=by
 have kx:=A29 e
 refine⟨?_,?_,fun hi' q hq=>?_,fun hj q hq=>?_⟩
 ·rw[B9h e,show i - 1 + 1=i by lia,T5]
  exact (A3n).trans (Y3.cons p h.perm)
 ·rw[B9i,C1o]
  exact⟨fun q hq=>by show nm p<=nm q;rw[<-kx];exact h.lx h0 q (A6j.mp hq),h.srt⟩
 ·have:=sx (i - 1 - 1) (i - 1) (by lia) (by lia) (by lia)
  rw[T5] at hq
  rcases K7.mp hq with z | z
  ·exact T4 this (h.lx h0 q z)
  ·rw[L9.mp z,<-kx];exact this
 ·rw[T5] at hq
  rcases K7.mp hq with z | z
  ·exact h.ly hj q z
  ·rw[L9.mp z];exact le hj
theorem Mh.pushY (h:Mh x y o i j) (sy:Srt y 0 y.size) (h0:0 < j) (hj:j<=y.size) (e:y[j - 1]?=some p) (le:0 < i->K x (i - 1)<=nm p):Mh x y (o.push p) i (j - 1):=by
 have ky:=A29 e
 refine⟨?_,?_,fun hi q hq=>?_,fun hj' q hq=>?_⟩
 ·rw[B9h e,show j - 1 + 1=j by lia,T5]
  refine (A3n).trans ?_
  exact (Y3.cons p h.perm).trans List.perm_middle.symm
 ·rw[B9i,C1o]
  exact⟨fun q hq=>by show nm p<=nm q;rw[<-ky];exact h.ly h0 q (A6j.mp hq),h.srt⟩
 ·rw[T5] at hq
  rcases K7.mp hq with z | z
  ·exact h.lx hi q z
  ·rw[L9.mp z];exact le hi
 ·have:=sy (j - 1 - 1) (j - 1) (by lia) (by lia) (by lia)
  rw[T5] at hq
  rcases K7.mp hq with z | z
  ·exact T4 this (h.ly h0 q z)
  ·rw[L9.mp z,<-ky];exact this
theorem B9j (o x:Array Keyed) (k n:Nat) (e:x[k + n]?=some p):o++(x.extract k (k + (n + 1))).reverse=o.push p++(x.extract k (k + n)).reverse:=by
 apply Array.ext'
 rw[W3,W3,T5,B0q,B0q,A0w,A0w,A72,B5c,Y1,e,List.reverse_append,L1]
 rfl
theorem B9k (o x:Array Keyed) (k:Nat):o++(x.extract k (k + 0)).reverse=o:=by
 apply Array.ext'
 rw[W3,B0q,A0w,B5d,List.reverse_nil,Q0]
theorem Mh.extX (sx:Srt x 0 x.size) (hj:0 < j):∀n {o:Array Keyed},Mh x y o (k + n) j->k + n<=x.size->(∀q,k<=q->q < k + n->K y (j - 1)<=K x q)->Mh x y (o++(x.extract k (k + n)).reverse) k j
 | 0,o,h,_,_=>by rw[B9k];exact h
 | n + 1,o,h,hk,hl=>by
  obtain⟨p,e,_,kp⟩:=N0 (xs:=x) (i:=k + n) (by lia)
  rw[B9j o x k n e]
  refine Mh.extX sx hj n ?_ (by lia) fun q a b=>hl q a (by lia)
  exact h.pushX sx (by lia) hk e fun _=>by rw[<-kp];exact hl _ (by lia) (by lia)
theorem Mh.extY (sy:Srt y 0 y.size) (hi:0 < i):∀n {o:Array Keyed},Mh x y o i (k + n)->k + n<=y.size->(∀q,k<=q->q < k + n->K x (i - 1)<=K y q)->Mh x y (o++(y.extract k (k + n)).reverse) i k
 | 0,o,h,_,_=>by rw[B9k];exact h
 | n + 1,o,h,hk,hl=>by
  obtain⟨p,e,_,kp⟩:=N0 (xs:=y) (i:=k + n) (by lia)
  rw[B9j o y k n e]
  refine Mh.extY sy hi n ?_ (by lia) fun q a b=>hl q a (by lia)
  exact h.pushY sy (by lia) hk e fun _=>by rw[<-kp];exact hl _ (by lia) (by lia)
theorem A9o (x:Array Keyed) (i:Nat):(x.extract 0 i).toList=x.toList.take i:=by
 have:=A0w x 0 i
 rwa [A3i,A3m] at this
theorem B2u {x:Array Keyed} {p:Keyed} (h:p∈x.toList.take i):∃q,q < i/\q < x.size/\K x q=nm p:=by
 obtain⟨n,hn,e⟩:=A6e.mp h
 rw[List.getElem_take] at e
 rw[T3] at hn
 have hl:n < x.size:=by simp at hn;lia
 exact⟨n,by lia,hl,A29 (by rw[getElem?_pos x _ hl,<-e];simp)⟩
theorem B9l {x:Array Keyed} (sx:Srt x 0 x.size) (hi:i<=x.size):(x.toList.take i).Pairwise LeP:=by
 have:=B2t (a:=0) (b:=i) (fun p q a b c=>sx p q a b (by lia)) hi
 rwa [A3m] at this
theorem Mh.end1 (h:Mh x y o i j) (sy:Srt y 0 y.size) (hj:j<=y.size) (hi:i=0):O6 x y (f1 x y o i j):=by
 subst hi
 have e:(f1 x y o 0 j).toList=y.toList.take j++o.toList.reverse:=by
  unfold f1
  rw[W3,W3,A9o,A9o,B5d,Q1,B0q]
 unfold O6
 rw[e]
 refine⟨?_,?_⟩
 ·refine (Y3.append_left _ ((List.reverse_perm _).trans h.perm)).trans ?_
  rw[A3m,<-L1]
  refine (Y3.append_right _ A3n).trans ?_
  rw[L1,g8]
 ·rw[A09]
  refine⟨B9l sy hj,h.srt,fun p hp q hq=>?_⟩
  obtain⟨n,h1,h2,h3⟩:=B2u hp
  show nm p<=nm q
  rw[<-h3]
  exact T4 (sy n (j - 1) (by lia) (by lia) (by lia)) (h.ly (by lia) q (A6j.mp hq))
theorem Mh.end2 (h:Mh x y o i j) (sx:Srt x 0 x.size) (hi:i<=x.size) (hy:1<=y.size) (hj:j=1) (sm:∀n,n < x.size->K y 0<=K x n):O6 x y (f2 x y o i j):=by
 subst hj
 obtain⟨z,ez,_,kz⟩:=N0 (xs:=y) (i:=0) (by lia)
 have ey:y.toList.take 1=[z]:=by rw[B2s ez];rfl
 have e:(f2 x y o i 1).toList=[z]++x.toList.take i++o.toList.reverse:=by
  unfold f2
  rw[W3,W3,A9o,A9o,B0q,ey]
 unfold O6
 rw[e]
 refine⟨?_,?_⟩
 ·refine (Y3.append_left _ ((List.reverse_perm _).trans h.perm)).trans ?_
  rw[L1,<-L1 (List.take i x.toList),g8,<-ey]
  refine A3n.trans ?_
  rw[L1]
  refine Y3.append_left _ (A3n.trans ?_)
  rw[g8]
 ·rw[A09,A09]
  refine⟨⟨B0n _ _,B9l sx hi,fun p hp q hq=>?_⟩,h.srt,fun p hp q hq=>?_⟩
  ·rw[L9.mp hp]
   obtain⟨n,h1,h2,h3⟩:=B2u hq
   show nm z<=nm q
   rw[<-h3,<-kz];exact sm n h2
  ·rcases K7.mp hp with u | u
   ·rw[L9.mp u]
    show nm z<=nm q
    rw[<-kz];exact h.ly (by lia) q (A6j.mp hq)
   ·obtain⟨n,h1,h2,h3⟩:=B2u u
    show nm p<=nm q
    rw[<-h3]
    exact T4 (sx n (i - 1) (by lia) (by lia) (by lia)) (h.lx (by lia) q (A6j.mp hq))
end
section
variable {prog:Program} {w:World} {A:Around} {E:Value->Shared->Prop} {s:Shared} {x y o:Array Keyed} {i j g u v:Nat} {st:SortSt} {R:ForInStep HiC->SortSt->Prop}
theorem B9m (sx:Srt x 0 x.size) (sy:Srt y 0 y.size) (M:Mh x y o i j) (h0:0 < i) (hi:i<=x.size) (hj:j<=y.size) (le:0 < j->K y (j - 1)<=K x (i - 1))
  (q1:∀r c,O6 x y r->R (.done (some r,c)) st) (q2:∀o',Mh x y o' (i - 1) j->0 < i - 1->R (.done (none,i - 1,j,o',g,u,v)) st/\R (.yield (none,i - 1,j,o',g,u,v)) st):wpS (model prog w) A E s (k3 x y o i j g u v) R st:=by
 obtain⟨p,e,_,kp⟩:=N0 (xs:=x) (i:=i - 1) (by lia)
 unfold k3
 refine wpS_bind (P2 e ?_)
 have M':=M.pushX sx h0 hi e fun h=>by rw[<-kp];exact le h
 by_cases c:i - 1=0
 ·rw[if_pos (by simpa using c)]
  exact wpS_pure (q1 _ _ (M'.end1 sy hj c))
 ·rw[if_neg (by simpa using c)]
  have:=q2 _ M' (by lia)
  split
  ·exact wpS_pure this.1
  ·exact wpS_pure this.2
theorem B9n (hk:kindOf st=oneType') (ix:∀p∈x.toList,isI p) (iy:∀p∈y.toList,isI p) (sx:Srt x 0 x.size) (sy:Srt y 0 y.size) (b1:∀n,n < x.size->K y 0 < K x n) (M:Mh x y o i j) (h0:0 < i) (hi:i<=x.size) (h1:1 < j) (hj:j<=y.size) (le:K x (i - 1)<=K y (j - 1))
  (q1:∀r c,O6 x y r->R (.done (some r,c)) st) (q2:∀o' i' j' u' v',Mh x y o' i' j'->0 < i'->1 < j'->i' + j' + 1<=i + j->i'<=i->j'<=j->R (.done (none,i',j',o',g,u',v')) st/\R (.yield (none,i',j',o',g,u',v')) st):wpS (model prog w) A E s (k2 x y o i j g u v) R st:=by
 have sm:∀n,n < x.size->K y 0<=K x n:=fun n hn=>b8 (b1 n hn)
 obtain⟨p,e,hp,kp⟩:=N0 (xs:=y) (i:=j - 1) (by lia)
 obtain⟨px,ex,hx,kx⟩:=N0 (xs:=x) (i:=i - 1) (by lia)
 unfold k2
 refine wpS_bind (P2 e ?_)
 have M':=M.pushY sy (by lia) hj e fun h=>by rw[<-kp];exact le
 by_cases c:j - 1=1
 ·rw[if_pos (by simpa using c)]
  exact wpS_pure (q1 _ _ (M'.end2 sx hi (by lia) c sm))
 ·rw[if_neg (by simpa using c)]
  refine wpS_bind (P2 ex ?_)
  refine wpS_bind (B2r hk (ix _ hx) iy (by lia) (by lia) (fun p q a b c=>sy p q (by lia) b (by lia)) fun k e1 e2 e3=>?_)
  have k1:1<=k:=by
   apply B5e
   intro z
   have a1:=e3 0 (by lia) (by lia)
   have a2:=b1 (i - 1) (by lia)
   rw[kx] at a2
   simp at a1
   lia
  dsimp only
  by_cases c0:j - 1 - k > 0
  ·rw[if_pos c0]
   have M2:=Mh.extY (k:=k) sy h0 (j - 1 - k) (o:=o.push p) (by rw[show k + (j - 1 - k)=j - 1 by lia];exact M') (by lia) fun q a b=>by
    have:=e3 q a (by lia)
    rw[kx]
    rwa [A3i] at this
   rw[show k + (j - 1 - k)=j - 1 by lia] at M2
   by_cases c1:k=1
   ·rw[if_pos (by simpa using c1)]
    exact wpS_pure (q1 _ _ (M2.end2 sx hi (by lia) c1 sm))
   ·rw[if_neg (by simpa using c1),if_neg (by simp;lia)]
    exact B9m sx sy M2 h0 hi (by lia) (fun h=>by have:=e2 (k - 1) (by lia);rw[A3i] at this;rw[kx];lia) q1 fun o' Mo ho=>q2 _ _ _ _ _ Mo ho (by lia) (by lia) (by lia) (by lia)
  ·rw[if_neg c0]
   have:k=j - 1:=by lia
   subst this
   exact B9m sx sy M' h0 hi (by lia) (fun h=>by have:=e2 (j - 1 - 1) (by lia);rw[A3i] at this;rw[kx];lia) q1 fun o' Mo ho=>q2 _ _ _ _ _ Mo ho (by lia) (by lia) (by lia) (by lia)
theorem C64 {Q:Array Keyed->SortSt->Prop} (hk:kindOf st=oneType') (ix:∀p∈x.toList,isI p) (iy:∀p∈y.toList,isI p) (sx:Srt x 0 x.size) (sy:Srt y 0 y.size) (x1:1<=x.size) (y1:1<=y.size)
  (b1:∀n,n < x.size->K y 0 < K x n) (b2:∀n,n < y.size->K y n<=K x (x.size - 1)) (q:∀r st',Gs st st'->O6 x y r->Q r st'):wpS (model prog w) A E s (mHi x y) Q st:=by
 rw[C63]
 have sm:∀n,n < x.size->K y 0<=K x n:=fun n hn=>b8 (b1 n hn)
 obtain⟨p0,ex0,_,kx0⟩:=N0 (xs:=x) (i:=x.size - 1) (by lia)
 refine wpS_bind (wpS_lift (wpAny_rule ⟨rfl,?_⟩))
 refine wpS_bind (P2 ex0 ?_)
 dsimp only
 have m0:Mh x y #[p0] (x.size - 1) y.size:=by
  have:Mh x y #[] x.size y.size:=⟨by rw[A1a (by simp),A1a (by simp)];exact Y3.refl _,.nil,(fun _ p hp=>by cases hp),(fun _ p hp=>by cases hp)⟩
  exact this.pushX sx (by lia) (by lia) ex0 fun _=>by rw[<-kx0];exact b2 _ (by lia)
 by_cases c1:x.size - 1=0
 ·rw[if_pos (by simpa using c1)]
  exact wpS_pure (q _ _ Gs.rfl (m0.end1 sy (by lia) c1))
 rw[if_neg (by simpa using c1)]
 by_cases c2:y.size=1
 ·rw[if_pos (by simpa using c2)]
  exact wpS_pure (q _ _ Gs.rfl (m0.end2 sx (by lia) y1 c2 sm))
 rw[if_neg (by simpa using c2)]
 refine wpS_bind (wpS_get ?_)
 refine wpS_bind (wpS_mono (wpS_forRange (I:=fun n c st'=>∃o i j g,c=(none,i,j,o,g)/\Gs st st'/\Mh x y o i j/\0 < i/\i<=x.size/\1 < j/\j<=y.size/\n + (i + j) + 1<=x.size + y.size)
  (Q:=fun c st'=>∃r c',c=(some r,c')/\Gs st st'/\O6 x y r) ?step ?fin ⟨_,_,_,_,rfl,Gs.rfl,m0,by lia,by lia,by lia,by lia,by lia⟩) ?post)
 case post=>
  rintro c st' ⟨r,c',rfl,gs,fin⟩
  exact wpS_pure (q r st' gs fin)
 case fin=>
  rintro c st' ⟨o,i,j,g,rfl,gs,M,h0,hi,h1,hj,hn⟩
  lia
 case step=>
  rintro n c st' _ hn ⟨o,i,j,g,rfl,gs,M,h0,hi,h1,hj,hp⟩
  dsimp only
  refine wpS_bind (wpS_mono (wpS_forRange (I:=fun m c st2=>∃o' i' j' u v,c=(none,i',j',o',u,v)/\Gs st st2/\Mh x y o' i' j'/\0 < i'/\i'<=x.size/\1 < j'/\j'<=y.size/\m + (i' + j')<=i + j)
   (Q:=fun c st2=>(∃r c',c=(some r,c')/\Gs st st2/\O6 x y r)\/∃o' i' j' u v,c=(none,i',j',o',u,v)/\Gs st st2/\Mh x y o' i' j'/\0 < i'/\i'<=x.size/\1 < j'/\j'<=y.size/\i' + j' + 1<=i + j) ?istep ?ifin ⟨_,_,_,_,_,rfl,gs,M,h0,hi,h1,hj,by lia⟩) ?ipost)
  case ifin=>
   rintro c st2 ⟨o',i',j',u,v,rfl,gs,M,h0,hi,h1,hj,hn⟩
   lia
  case istep=>
   rintro m c st2 _ hm ⟨o',i',j',u,v,rfl,gs,M,h0,hi,h1,hj,hn⟩
   dsimp only
   obtain⟨py,ey,hy,ky⟩:=N0 (xs:=y) (i:=j' - 1) (by lia)
   obtain⟨px,ex,hx,kx⟩:=N0 (xs:=x) (i:=i' - 1) (by lia)
   refine wpS_bind (P2 ey (wpS_bind (P2 ex (wpS_bind (A9k (gs.k.trans hk) (iy _ hy) (ix _ hx) ?_)))))
   by_cases hl:nm py < nm px
   ·simp only[hl,decide_true,if_true]
    refine wpS_bind (P2 ex ?_)
    have M':=M.pushX sx h0 hi ex fun _=>by rw[ky];lia
    by_cases c:i' - 1=0
    ·rw[if_pos (by simpa using c)]
     exact wpS_pure (.inl ⟨_,_,rfl,gs,M'.end1 sy hj c⟩)
    ·rw[if_neg (by simpa using c)]
     split
     ·exact wpS_pure (.inr ⟨_,_,_,_,_,rfl,gs,M',by lia,by lia,h1,hj,by lia⟩)
     ·exact wpS_pure ⟨_,_,_,_,_,rfl,gs,M',by lia,by lia,h1,hj,by lia⟩
   ·simp only[hl,decide_false,M7,if_false]
    refine wpS_bind (P2 ey ?_)
    have M':=M.pushY sy (by lia) hj ey fun _=>by rw[kx];lia
    by_cases c:j' - 1=1
    ·rw[if_pos (by simpa using c)]
     exact wpS_pure (.inl ⟨_,_,rfl,gs,M'.end2 sx hi y1 c sm⟩)
    ·rw[if_neg (by simpa using c)]
     split
     ·exact wpS_pure (.inr ⟨_,_,_,_,_,rfl,gs,M',h0,hi,by lia,by lia,by lia⟩)
     ·exact wpS_pure ⟨_,_,_,_,_,rfl,gs,M',h0,hi,by lia,by lia,by lia⟩
  case ipost=>
   rintro c st2 (⟨r,c',rfl,gs,fin⟩ | ⟨o',i',j',u,v,rfl,gs,M,h0,hi,h1,hj,hn'⟩)
   ·exact wpS_pure ⟨_,_,rfl,gs,fin⟩
   dsimp only
   refine wpS_bind (wpS_lift (wpAny_rule ⟨rfl,?_⟩))
   refine wpS_bind (wpS_mono (wpS_forRange (I:=fun m c st2=>∃o i j g u v,c=(none,i,j,o,g,u,v)/\Gs st st2/\Mh x y o i j/\0 < i/\i<=x.size/\1 < j/\j<=y.size/\m + (i + j)<=i' + j')
    (Q:=fun c st2=>(∃r c',c=(some r,c')/\Gs st st2/\O6 x y r)\/∃o i j g u v,c=(none,i,j,o,g,u,v)/\Gs st st2/\Mh x y o i j/\0 < i/\i<=x.size/\1 < j/\j<=y.size/\i + j<=i' + j') ?gstep ?gfin ⟨_,_,_,_,_,_,rfl,gs,M,h0,hi,h1,hj,by lia⟩) ?gpost)
   case gfin=>
    rintro c st2 ⟨o',i',j',g,u,v,rfl,gs,M,h0,hi,h1,hj,hn⟩
    lia
   case gpost=>
    rintro c st2 (⟨r,c',rfl,gs,fin⟩ | ⟨o',i',j',g,u,v,rfl,gs,M,h0,hi,h1,hj,hn'⟩)
    ·exact wpS_pure ⟨_,_,rfl,gs,fin⟩
    dsimp only
    rw[A9m]
    exact wpS_bind (wpS_modify (wpS_pure ⟨_,_,_,_,rfl,gs.set _,M,h0,hi,h1,hj,by lia⟩))
   case gstep=>
    clear M h0 hi h1 hj gs hp
    rintro m c st2 _ hm ⟨o,i,j,g,u,v,rfl,gs,M,h0,hi,h1,hj,hp⟩
    dsimp only
    obtain⟨py,ey,hy,ky⟩:=N0 (xs:=y) (i:=j - 1) (by lia)
    refine A9n (fun _=>?_) fun _=>?_
    all_goals
     rw[A9m]
     refine wpS_bind (wpS_modify ?_)
     refine wpS_bind (P2 ey ?_)
     refine wpS_bind (B2q ((gs.set _).k.trans hk) (iy _ hy) ix (by lia) (by lia) (fun p q a b c=>sx p q (by lia) b (by lia)) fun k e1 e2 e3=>?_)
     dsimp only
     by_cases c0:i - k > 0
     ·rw[if_pos c0]
      have M2:=Mh.extX (k:=k) (j:=j) sx (by lia) (i - k) (o:=o) (by rw[show k + (i - k)=i by lia];exact M) (by lia) fun q a b=>by
       have:=e3 q a (by lia)
       rw[A3i] at this
       rw[ky];lia
      rw[show k + (i - k)=i by lia] at M2
      by_cases c1:k=0
      ·rw[if_pos (by simpa using c1)]
       exact wpS_pure (.inl ⟨_,_,rfl,gs.set _,M2.end1 sy hj c1⟩)
      ·rw[if_neg (by simpa using c1)]
       exact B9n ((gs.set _).k.trans hk) ix iy sx sy b1 M2 (by lia) (by lia) h1 hj (by have:=e2 (k - 1) (by lia);rw[A3i] at this;rw[ky];exact this) (fun r c hf=>.inl ⟨r,c,rfl,gs.set _,hf⟩) fun o' i' j' u' v' Mo a1 a2 a3 a4 a5=>⟨.inr ⟨_,_,_,_,_,_,rfl,gs.set _,Mo,a1,by lia,a2,by lia,by lia⟩,⟨_,_,_,_,_,_,rfl,gs.set _,Mo,a1,by lia,a2,by lia,by lia⟩⟩
     ·rw[if_neg c0]
      have:k=i:=by lia
      subst this
      exact B9n ((gs.set _).k.trans hk) ix iy sx sy b1 M h0 hi h1 hj (by have:=e2 (k - 1) (by lia);rw[A3i] at this;rw[ky];exact this) (fun r c hf=>.inl ⟨r,c,rfl,gs.set _,hf⟩) fun o' i' j' u' v' Mo a1 a2 a3 a4 a5=>⟨.inr ⟨_,_,_,_,_,_,rfl,gs.set _,Mo,a1,by lia,a2,by lia,by lia⟩,⟨_,_,_,_,_,_,rfl,gs.set _,Mo,a1,by lia,a2,by lia,by lia⟩⟩
end
abbrev Rn:=Nat×Nat×Nat
def wrA (a:Array Keyed) (s:Nat) (l:List (Keyed×Nat)):Array Keyed:=l.foldl (fun a (p,j)=>a.setIfInBounds (s + j) p) a
theorem C65 (i:Nat):mergeAt' i=(do
 let c <-get
 let (some (sa,na,pw),some (sb,nb,_)):=((pendingOf c)[i]?,(pendingOf c)[i + 1]?) | unsupported "internal:list.sort.pending"
 set (setPending c (((pendingOf c).setIfInBounds i (sa,na + nb,pw)).eraseIdxIfInBounds (i + 1)))
 let some k <-gal false (<-elem' (arrOf c) sb) (arrOf c) sa na 0 | return false
 let (sa,na):=(sa + k,na - k)
 if na == 0 then return true
 let some m <-gal true (<-elem' (arrOf c) (sa + na - 1)) (arrOf c) sb nb (nb - 1) | return false
 if m == 0 then return true
 let x:=(arrOf c).extract sa sb
 let y:=(arrOf c).extract sb (sb + m)
 let r <-if na<=m then mLo x y else mHi x y
 modify fun z=>setArr z (wrA (arrOf z) sa r.toList.zipIdx)
 return (failedOf (<-get)).isNone):=rfl
def L7 (xs:Array Keyed):List Rn->Nat->Nat->Prop
 | [],i,j=>i=j
 | (s,n,_)::r,i,j=>s=i/\1<=n/\Srt xs i (i + n)/\L7 xs r (i + n) j
theorem L7.le {xs:Array Keyed}:∀{l:List Rn} {i j:Nat},L7 xs l i j->i + l.length<=j
 | [],i,j,h=>Nat.le_of_eq h
 | (s,n,_)::r,i,j,⟨_,h1,_,h2⟩=>by have:=L7.le h2;rw[F3];lia
theorem L7.app {xs:Array Keyed}:∀{l r:List Rn} {i j:Nat},L7 xs (l++r) i j↔∃m,L7 xs l i m/\L7 xs r m j
 | [],r,i,j=>⟨fun h=>⟨i,rfl,h⟩,fun ⟨m,h1,h2⟩=>by cases (show i=m from h1);exact h2⟩
 | (s,n,_)::l,r,i,j=>by
  constructor
  ·rintro ⟨a,b,c,d⟩
   obtain⟨m,h1,h2⟩:=L7.app.mp d
   exact⟨m,⟨a,b,c,h1⟩,h2⟩
  ·rintro ⟨m,⟨a,b,c,h1⟩,h2⟩
   exact⟨a,b,c,L7.app.mpr ⟨m,h1,h2⟩⟩
theorem L7.congr {xs ys:Array Keyed}:∀{l:List Rn} {i j:Nat},L7 xs l i j->(∀k,i<=k->k < j->K ys k=K xs k)->L7 ys l i j
 | [],_,_,h,_=>h
 | (s,n,_)::r,i,j,⟨a,b,c,d⟩,e=>by
  have:=L7.le d
  exact⟨a,b,c.congr fun k h1 h2=>e k h1 (by lia),L7.congr d fun k h1 h2=>e k (by lia) h2⟩
theorem A0x {xs:Array Keyed} {i j q:Nat} (hj:j<=xs.size) (hq:i + q < j):K (xs.extract i j) q=K xs (i + q):=by
 apply K_congr
 rw[Array.getElem?_extract,if_pos (by lia)]
theorem A3a {xs:Array Keyed} {i j:Nat} (hj:j<=xs.size):(xs.extract i j).size=j - i:=by
 rw[Array.size_extract];lia
theorem Srt.ext {xs:Array Keyed} {i j:Nat} (h:Srt xs i j) (hj:j<=xs.size):Srt (xs.extract i j) 0 (xs.extract i j).size:=fun p q _ b c=>by
 rw[A3a hj] at c
 rw[A0x hj (by lia),A0x hj (by lia)]
 exact h _ _ (by lia) (by lia) (by lia)
theorem A9p {xs:Array Keyed} {i j:Nat} {p:Keyed} (h:p∈(xs.extract i j).toList):p∈xs.toList:=by
 rw[B0o,B0p] at h
 exact List.mem_of_mem_drop (List.mem_of_mem_take h)
theorem B2v:∀(l:List Keyed) (n s:Nat) (a:Array Keyed),s + n + l.length<=a.size->(wrA a s (l.zipIdx n)).size=a.size/\∀q,(wrA a s (l.zipIdx n))[q]?=if s + n<=q/\q < s + n + l.length then l[q - (s + n)]? else a[q]?
 | [],n,s,a,_=>⟨rfl,fun q=>by rw[if_neg (by rw[c5];lia)];rfl⟩
 | p::l,n,s,a,h=>by
  rw[F3] at h
  have ih:=B2v l (n + 1) s (a.setIfInBounds (s + n) p) (by rw[C1p];lia)
  rw[List.zipIdx_cons]
  refine⟨by rw[<-C1p (xs:=a) (i:=s + n) (a:=p)];exact ih.1,fun q=>?_⟩
  refine (ih.2 q).trans ?_
  rw[F3]
  by_cases c1:s + n=q
  ·subst c1
   rw[if_neg (by lia),if_pos (by lia),A6h,Array.getElem?_setIfInBounds_self]
   rw[if_pos (by lia)];rfl
  ·rw[Array.getElem?_setIfInBounds_ne c1]
   by_cases c2:s + n<=q/\q < s + n + (l.length + 1)
   ·rw[if_pos c2,if_pos (by lia),show q - (s + n)=(q - (s + (n + 1))) + 1 by lia,A3k]
   ·rw[if_neg c2,if_neg (by lia)]
theorem C66 {l:List Keyed} {s:Nat} {a:Array Keyed} (h:s + l.length<=a.size):(wrA a s l.zipIdx).toList=a.toList.take s++l++a.toList.drop (s + l.length):=by
 obtain⟨h1,h2⟩:=B2v l 0 s a (by lia)
 apply A71
 intro q
 rw[Y1,h2]
 by_cases c1:q < s
 ·rw[if_neg (by lia),L1,b7 (by rw[T3];simp;lia),List.getElem?_take,if_pos c1,Y1]
 ·have e:(a.toList.take s).length=s:=by rw[T3];simp;lia
  rw[L1,X9 (by lia),e]
  by_cases c2:q < s + l.length
  ·rw[if_pos (by lia),b7 (by lia)];rfl
  ·rw[if_neg (by lia),X9 (by lia),B5c,Y1]
   congr 1;lia
theorem C67 {r:Array Keyed} {s:Nat} {a:Array Keyed} (h:s + r.size<=a.size) (q:Nat):K (wrA a s r.toList.zipIdx) q=if s<=q/\q < s + r.size then K r (q - s) else K a q:=by
 have h2:=(B2v r.toList 0 s a (by simpa using h)).2 q
 rw[Nat.add_zero,P5] at h2
 split
 ·rename_i c
  rw[if_pos c,Y1] at h2
  exact K_congr h2
 ·rename_i c
  rw[if_neg c] at h2
  exact K_congr h2
theorem C68 (l:List Keyed) (a b c:Nat) (h1:a<=b) (h2:b<=c) (hc:c<=l.length):l=l.take a++((l.take b).drop a++(l.take c).drop b)++l.drop c:=by
 have e1:(l.take b).drop a++(l.take c).drop b=(l.take c).drop a:=by
  have:l.take c=l.take b++(l.take c).drop b:=by
   have:=(g8 b (l.take c)).symm
   rwa [List.take_take,A08 h2] at this
  conv=>rhs;rw[this]
  rw[List.drop_append_of_le_length (by rw[T3];lia)]
 rw[e1]
 have:l.take a++(l.take c).drop a=l.take c:=by
  have:=g8 a (l.take c)
  rwa [List.take_take,A08 (by lia)] at this
 rw[this,g8]
theorem B9o {p:Array Rn} {i:Nat} {a b c:Rn} (e1:p[i]?=some a) (e2:p[i + 1]?=some b):∃l1 l2,p.toList=l1++a::b::l2/\l1.length=i/\((p.setIfInBounds i c).eraseIdxIfInBounds (i + 1)).toList=l1++c::l2:=by
 have hs:i + 1 < p.size:=by
  apply B5e
  intro z
  rw[C1m (by lia)] at e2;cases e2
 rw[<-Y1] at e1 e2
 have e:p.toList=p.toList.take i++a::b::p.toList.drop (i + 2):=by
  have h1:p.toList.drop i=a::p.toList.drop (i + 1):=by
   rw[g6 (by simp;lia)]
   rw[J6 (by simp;lia)] at e1
   rw[Option.some.inj e1]
  have h2:p.toList.drop (i + 1)=b::p.toList.drop (i + 2):=by
   rw[g6 (by simp;lia)]
   rw[J6 (by simp;lia)] at e2
   rw[Option.some.inj e2]
  rw[<-h2,<-h1,g8]
 have ln:(p.toList.take i).length=i:=by rw[T3];simp;lia
 refine⟨_,_,e,ln,?_⟩
 unfold Array.eraseIdxIfInBounds
 rw[dif_pos (by rw[C1p];exact hs),Array.toList_eraseIdx,Array.toList_setIfInBounds]
 generalize p.toList.take i=l1 at e ln
 generalize p.toList.drop (i + 2)=l2 at e
 rw[e,C1k _ _ (by lia),ln,A6h,A6k,List.eraseIdx_append_of_length_le (by lia),ln,show i + 1 - i=1 by lia]
 rfl
section
variable {prog:Program} {w:World} {A:Around} {E:Value->Shared->Prop} {s:Shared} {a₀:Array Keyed} {st:SortSt}
theorem C69 {σ:Type} {M:Model} {z st:σ} {Q:PUnit->σ->Prop} (h:Q ⟨⟩ z):wpS M A E s (set z:StateT σ Sem PUnit) Q st:=by
 unfold wpS;rw[StateT.run_set];exact wpAny_pure ⟨rfl,h⟩
theorem TB.ints (h:TB a₀ st) (h0:IntKeys a₀):∀p∈(arrOf st).toList,isI p:=fun p hp=>h0 p ((Array.perm_iff_toList_perm.mp h.perm).mem_iff.mp hp)
theorem C7a {a r:Array Keyed} {sa na nb k m:Nat} (hs:sa + na + nb<=a.size) (s1:Srt a sa (sa + na)) (s2:Srt a (sa + na) (sa + na + nb)) (hk:k < na) (hm:0 < m) (mn:m<=nb)
  (k2:∀i,i < k->K a (sa + i)<=K a (sa + na)) (k3:∀i,k<=i->i < na->K a (sa + na) < K a (sa + i)) (m2:∀i,i < m->K a (sa + na + i) < K a (sa + na - 1)) (m3:∀i,m<=i->i < nb->K a (sa + na - 1)<=K a (sa + na + i))
  (f:O6 (a.extract (sa + k) (sa + na)) (a.extract (sa + na) (sa + na + m)) r) :
  r.size=na - k + m/\(wrA a (sa + k) r.toList.zipIdx).Perm a/\Srt (wrA a (sa + k) r.toList.zipIdx) sa (sa + na + nb)/\∀q,(q < sa\/sa + na + nb<=q)->K (wrA a (sa + k) r.toList.zipIdx) q=K a q:=by
 have sz:r.size=na - k + m:=by
  have:=f.1.length_eq
  rw[F5,P5,P5,P5,A3a (by lia),A3a (by lia)] at this
  lia
 have rk:∀q,K (wrA a (sa + k) r.toList.zipIdx) q=if sa + k<=q/\q < sa + k + r.size then K r (q - (sa + k)) else K a q:=C67 (by lia)
 have bd:∀q,q < r.size->K a (sa + na)<=K r q/\K r q<=K a (sa + na - 1):=fun q hq=>by
  obtain⟨p,_,hp,kp⟩:=N0 hq
  rw[kp]
  rcases K7.mp (f.1.mem_iff.mp hp) with z | z
  ·obtain⟨n,_,h2,h3⟩:=A7j (i:=0) (show p∈List.drop 0 _ from z)
   rw[A3a (by lia)] at h2
   rw[A0x (by lia) (by lia)] at h3
   rw[<-h3]
   have:=k3 (k + n) (by lia) (by lia)
   rw[<-B5f] at this
   exact⟨b8 this,s1 _ _ (by lia) (by lia) (by lia)⟩
  ·obtain⟨n,_,h2,h3⟩:=A7j (i:=0) (show p∈List.drop 0 _ from z)
   rw[A3a (by lia)] at h2
   rw[A0x (by lia) (by lia)] at h3
   rw[<-h3]
   exact⟨s2 _ _ (by lia) (by lia) (by lia),b8 (m2 n (by lia))⟩
 have rs:∀p q,p<=q->q < r.size->K r p<=K r q:=fun p q h1 h2=>by
  by_cases c:p=q
  ·subst c;exact b9 _
  ·have:=List.pairwise_iff_getElem.mp f.2 p q (by simp;lia) (by simp;lia) (by lia)
   rw[K_eq (by lia),K_eq (by lia)]
   simpa [LeP,nm] using this
 have lowk:∀q,sa<=q->q < sa + k->K a q<=K a (sa + na):=fun q h1 h2=>by
  have:=k2 (q - sa) (by lia)
  rwa [show sa + (q - sa)=q by lia] at this
 have hik:∀q,sa + na + m<=q->q < sa + na + nb->K a (sa + na - 1)<=K a q:=fun q h1 h2=>by
  have:=m3 (q - (sa + na)) (by lia) (by lia)
  rwa [show sa + na + (q - (sa + na))=q by lia] at this
 refine⟨sz,?_,fun p q h1 h2 h3=>?_,fun q hq=>?_⟩
 ·refine Array.perm_iff_toList_perm.mpr ?_
  rw[C66 (by simp;lia)]
  have hl:a.toList.length=a.size:=P5
  have e:=C68 a.toList (sa + k) (sa + na) (sa + na + m) (by lia) (by lia) (by lia)
  conv=>rhs;rw[e]
  rw[P5,show sa + k + r.size=sa + na + m by lia]
  refine Y3.append_right _ (Y3.append_left _ ?_)
  have:=f.1
  rw[B0o,B0o,B0p,B0p] at this
  rwa [List.drop_take,List.drop_take]
 ·rw[rk,rk]
  by_cases p1:p < sa + k
  ·rw[if_neg (by lia)]
   by_cases q1:q < sa + k
   ·rw[if_neg (by lia)];exact s1 _ _ h1 h2 (by lia)
   ·by_cases q2:q < sa + k + r.size
    ·rw[if_pos (by lia)]
     exact T4 (lowk p h1 p1) (bd _ (by lia)).1
    ·rw[if_neg (by lia)]
     exact T4 (lowk p h1 p1) (s2 _ _ (by lia) (by lia) (by lia))
  ·by_cases p2:p < sa + k + r.size
   ·rw[if_pos (by lia)]
    by_cases q2:q < sa + k + r.size
    ·rw[if_pos (by lia)]
     exact rs _ _ (by lia) (by lia)
    ·rw[if_neg (by lia)]
     exact T4 (bd _ (by lia)).2 (hik q (by lia) h3)
   ·rw[if_neg (by lia),if_neg (by lia)]
    exact s2 _ _ (by lia) h2 h3
 ·rw[rk,if_neg (by lia)]
theorem B9p {i lo:Nat} {l1 l2:List Rn} {sa na pw sb nb z:Nat} {Q:Bool->SortSt->Prop} (h0:IntKeys a₀) (hB:TB a₀ st) (hlo:lo<=a₀.size) (ep:(pendingOf st).toList=l1++(sa,na,pw)::(sb,nb,z)::l2) (hi:i=l1.length) (tl:L7 (arrOf st) (pendingOf st).toList 0 lo)
  (q:∀st',TB a₀ st'->(pendingOf st').toList=l1++(sa,na + nb,pw)::l2->L7 (arrOf st') (pendingOf st').toList 0 lo->(∀k,lo<=k->K (arrOf st') k=K (arrOf st) k)->Q true st'):wpS (model prog w) A E s (mergeAt' i) Q st:=by
 have g1:(pendingOf st)[i]?=some (sa,na,pw):=by rw[<-Y1,ep,hi,X9 (D2 _),A6h];rfl
 have g2:(pendingOf st)[i + 1]?=some (sb,nb,z):=by rw[<-Y1,ep,hi,X9 (by lia),show l1.length + 1 - l1.length=1 by lia];rfl
 obtain⟨l1',l2',e1,e2,e3⟩:=B9o (c:=(sa,na + nb,pw)) g1 g2
 rw[ep] at e1 tl
 obtain⟨rfl,ez⟩:=List.append_inj e1 (by lia)
 cases ez
 obtain⟨m0,t1,t2⟩:=L7.app.mp tl
 obtain⟨rfl,n1,s1,rfl,n2,s2,t3⟩:=t2
 have lo3:=L7.le t3
 have sz:=hB.size
 have is:=hB.ints h0
 obtain⟨pb,eb,hb,kb⟩:=N0 (xs:=arrOf st) (i:=sa + na) (by lia)
 have fin:∀st',TB a₀ st'->(pendingOf st').toList=l1++(sa,na + nb,pw)::l2->Srt (arrOf st') sa (sa + na + nb)->(∀k,(k < sa\/sa + na + nb<=k)->K (arrOf st') k=K (arrOf st) k)->Q true st':=fun st' hB' hp hs he=>by
  refine q st' hB' hp ?_ fun k hk=>he k (.inr (by lia))
  rw[hp]
  refine L7.app.mpr ⟨sa,t1.congr fun k _ h=>he k (.inl h),rfl,by lia,by rw[<-B5f];exact hs,?_⟩
  rw[<-B5f]
  exact t3.congr fun k h _=>he k (.inr h)
 rw[C65]
 refine wpS_bind (wpS_get ?_)
 rw[g1,g2]
 dsimp only
 refine wpS_bind (C69 ?_)
 refine wpS_bind (P2 eb ?_)
 refine wpS_bind (B2q hB.kind (is _ hb) is (by lia) (by lia) s1 fun k k1 k2 k3=>?_)
 rw[<-kb] at k2 k3
 dsimp only
 by_cases c1:na - k=0
 ·rw[if_pos (by simpa using c1)]
  refine wpS_pure (fin _ (hB.pend _) e3 (fun p q h1 h2 h3=>?_) fun _ _=>rfl)
  show K (arrOf st) p<=K (arrOf st) q
  by_cases a1:q < sa + na
  ·exact s1 p q h1 h2 a1
  ·by_cases a2:p < sa + na
   ·have:=k2 (p - sa) (by lia)
    rw[show sa + (p - sa)=p by lia] at this
    exact T4 this (s2 _ _ (by lia) (by lia) h3)
   ·exact s2 p q (by lia) h2 h3
 rw[if_neg (by simpa using c1)]
 have e9:sa + k + (na - k) - 1=sa + na - 1:=by lia
 rw[e9]
 obtain⟨px,ex,hx,kx⟩:=N0 (xs:=arrOf st) (i:=sa + na - 1) (by lia)
 refine wpS_bind (P2 ex ?_)
 refine wpS_bind (B2r hB.kind (is _ hx) is (by lia) (by lia) s2 fun m m1 m2 m3=>?_)
 rw[<-kx] at m2 m3
 dsimp only
 by_cases c2:m=0
 ·rw[if_pos (by simpa using c2)]
  refine wpS_pure (fin _ (hB.pend _) e3 (fun p q h1 h2 h3=>?_) fun _ _=>rfl)
  show K (arrOf st) p<=K (arrOf st) q
  by_cases a1:q < sa + na
  ·exact s1 p q h1 h2 a1
  ·by_cases a2:p < sa + na
   ·have:=m3 (q - (sa + na)) (by lia) (by lia)
    rw[show sa + na + (q - (sa + na))=q by lia] at this
    exact T4 (s1 p (sa + na - 1) h1 (by lia) (by lia)) this
   ·exact s2 p q (by lia) h2 h3
 rw[if_neg (by simpa using c2)]
 have xs:=A3a (xs:=arrOf st) (i:=sa + k) (j:=sa + na) (by lia)
 have ys:=A3a (xs:=arrOf st) (i:=sa + na) (j:=sa + na + m) (by lia)
 have sx:Srt ((arrOf st).extract (sa + k) (sa + na)) 0 ((arrOf st).extract (sa + k) (sa + na)).size:=Srt.ext (fun p q a b c=>s1 p q (by lia) b c) (by lia)
 have sy:Srt ((arrOf st).extract (sa + na) (sa + na + m)) 0 ((arrOf st).extract (sa + na) (sa + na + m)).size:=Srt.ext (fun p q a b c=>s2 p q (by lia) b (by lia)) (by lia)
 have b1:∀n,n < ((arrOf st).extract (sa + k) (sa + na)).size->K ((arrOf st).extract (sa + na) (sa + na + m)) 0 < K ((arrOf st).extract (sa + k) (sa + na)) n:=fun n hn=>by
  rw[xs] at hn
  rw[A0x (by lia) (by lia),A0x (by lia) (by lia),B5f sa k n]
  exact k3 _ (by lia) (by lia)
 have b2:∀n,n < ((arrOf st).extract (sa + na) (sa + na + m)).size->K ((arrOf st).extract (sa + na) (sa + na + m)) n < K ((arrOf st).extract (sa + k) (sa + na)) (((arrOf st).extract (sa + k) (sa + na)).size - 1):=fun n hn=>by
  rw[ys] at hn
  rw[xs,A0x (by lia) (by lia),A0x (by lia) (by lia),show sa + k + (sa + na - (sa + k) - 1)=sa + na - 1 by lia]
  exact m2 n (by lia)
 have last:∀r st',Gs (setPending st (((pendingOf st).setIfInBounds i (sa,na + nb,pw)).eraseIdxIfInBounds (i + 1))) st'->O6 ((arrOf st).extract (sa + k) (sa + na)) ((arrOf st).extract (sa + na) (sa + na + m)) r->
   wpS (model prog w) A E s (do
    modify fun z=>setArr z (wrA (arrOf z) (sa + k) r.toList.zipIdx)
    return (failedOf (<-get)).isNone) Q st':=fun r st' gs f=>by
  have ga:arrOf st'=arrOf st:=gs.a
  obtain⟨_,r2,r3,r4⟩:=C7a (a:=arrOf st) (by lia) s1 s2 (by lia) (by lia) m1 k2 k3 m2 m3 f
  rw[<-ga] at r2 r3 r4
  have hB':TB a₀ (setArr st' (wrA (arrOf st') (sa + k) r.toList.zipIdx)):=⟨r2.trans (ga▸hB.perm),gs.k.trans hB.kind,gs.f.trans hB.ok⟩
  refine wpS_bind (wpS_modify ?_)
  refine wpS_bind (wpS_get ?_)
  rw[hB'.ok]
  exact wpS_pure (fin _ hB' (by rw[<-e3];exact congrArg Array.toList gs.p) r3 fun q hq=>by rw[<-ga];exact r4 q hq)
 by_cases c3:na - k<=m
 ·rw[if_pos c3]
  refine wpS_bind ?_
  exact C62 hB.kind (fun p hp=>is p (A9p hp)) (fun p hp=>is p (A9p hp)) sx sy (by lia) (by lia) (b8 (b1 0 (by lia))) b2 last
 ·rw[if_neg c3]
  refine wpS_bind ?_
  exact C64 hB.kind (fun p hp=>is p (A9p hp)) (fun p hp=>is p (A9p hp)) sx sy (by lia) (by lia) b1 (fun n hn=>b8 (b2 n hn)) last
theorem C7b {l:List Rn} (h:1 < l.length):∃l1 a b,l=l1++[a,b]/\l1.length=l.length - 2:=by
 refine⟨l.take (l.length - 2),l[l.length - 2]'(by lia),l[l.length - 1]'(by lia),?_,by rw[T3];lia⟩
 have e1:l.drop (l.length - 2)=l[l.length - 2]'(by lia)::l.drop (l.length - 2 + 1):=g6 (by lia)
 have e2:l.drop (l.length - 1)=l[l.length - 1]'(by lia)::l.drop (l.length - 1 + 1):=g6 (by lia)
 rw[show l.drop (l.length - 1 + 1)=[] from A1a (by lia)] at e2
 rw[show l.length - 2 + 1=l.length - 1 by lia,e2] at e1
 rw[<-e1,g8]
theorem B9q {p:Array Rn} {a:Rn} (h:p.back?=some a):∃l,p.toList=l++[a]:=by
 rw[<-Array.getLast?_toList] at h
 obtain⟨l,e⟩:=C1q.mp h
 exact⟨l,e⟩
theorem C7c {p:Array Rn} {l:List Rn} {a:Rn} {f:Rn->Rn} (h:p.toList=l++[a]):(p.modify (p.size - 1) f).toList=l++[f a]:=by
 have hs:p.size=l.length + 1:=by rw[<-P5,h,F5];rfl
 rw[Array.toList_modify,hs,h,show l.length + 1 - 1=l.length by lia]
 apply A71
 intro i
 rw[List.getElem?_modify]
 by_cases c:i < l.length
 ·rw[b7 c,b7 c]
  have:¬ l.length=i:=by lia
  simp only[this,if_false]
  exact id_map _
 ·rw[X9 (by lia),X9 (by lia)]
  by_cases c1:l.length=i
  ·subst c1
   simp only[if_true,A6h];rfl
  ·simp only[c1,if_false]
   rw[show i - l.length=(i - l.length - 1) + 1 by lia]
   rfl
structure Rns (a₀:Array Keyed) (lo:Nat) (st:SortSt):Prop where
 tb:TB a₀ st
 hi:lo<=a₀.size
 tl:L7 (arrOf st) (pendingOf st).toList 0 lo
theorem C7d {Q:Unit->SortSt->Prop} (h0:IntKeys a₀) (hB:TB a₀ st) (hp:pendingOf st=#[]) (h:∀st',(arrOf st').Perm a₀->failedOf st'=none->SortedTo (arrOf st') a₀.size->Q () st'):wpS (model prog w) A E s sortRuns' Q st:=by
 rw[sortRuns'_eq]
 refine wpS_bind (wpS_get ?_)
 dsimp only
 generalize minRun' (arrOf st).size (arrOf st).size 0=mr
 simp only[hB.size]
 refine wpS_bind (wpS_mono (wpS_forRange (I:=fun x c st'=>∃lo,c=(none,lo)/\Rns a₀ lo st'/\min x a₀.size<=lo) (Q:=fun c st'=>c=(none,a₀.size)/\Rns a₀ a₀.size st') ?step ?fin ⟨0,rfl,⟨hB,by lia,by rw[hp];rfl⟩,by lia⟩) ?post)
 case fin=>
  rintro c st' ⟨lo,rfl,R,hx⟩
  have:=R.hi
  rw[show lo=a₀.size by lia] at R ⊢
  exact⟨rfl,R⟩
 case step=>
  rintro x c st' _ hx ⟨lo,rfl,R,hlo⟩
  dsimp only
  have hi:=R.hi
  by_cases c1:lo ≥ a₀.size
  ·rw[if_pos c1]
   rw[show lo=a₀.size by lia] at R ⊢
   exact wpS_pure ⟨rfl,R⟩
  rw[if_neg c1]
  refine wpS_bind (C6y (lo:=lo) h0 (by lia) (by lia) R.tb fun n st2 b2 n1 n2 sn=>?_)
  dsimp only
  refine A9n (fun c2=>wpS_bind (wpS_lift (wpAny_rule ⟨rfl,wpS_bind (C6z (lo:=lo) h0 (by lia) (by lia) b2.tb sn fun st3 b3 s3=>?_)⟩))) fun c2=>?_
  rotate_left
  all_goals first
   | (have q1:1<=min (a₀.size - lo) mr:=by lia
      have q2:lo + min (a₀.size - lo) mr<=a₀.size:=by lia
      have b4:=b2.tr b3
      simp only[v8,M7,if_false]
      clear c2 b2 b3 sn n1 n2
      generalize min (a₀.size - lo) mr=n' at q1 q2 s3 ⊢)
   | (have q1:=n1
      have q2:lo + n<=a₀.size:=by lia
      have b4:=b2
      have s3:=sn
      clear c2 b2 sn n1 n2
      generalize n=n' at q1 q2 s3 ⊢
      generalize st2=st3 at s3 b4 ⊢)
  all_goals
   have R2:Rns a₀ lo st3:=⟨b4.tb,hi,by rw[b4.pe];exact R.tl.congr fun k _ hk=>b4.eq k hk⟩
   have fin:∀st4,Rns a₀ lo st4->Srt (arrOf st4) lo (lo + n')->Rns a₀ (lo + n') (setPending st4 ((pendingOf st4).push (lo,n',0))):=fun st4 R3 s4=>⟨R3.tb.pend _,q2,by
    show L7 (arrOf st4) ((pendingOf st4).push (lo,n',0)).toList 0 (lo + n')
    rw[T5]
    exact L7.app.mpr ⟨lo,R3.tl,rfl,q1,s4,rfl⟩⟩
   refine wpS_bind (wpS_get ?_)
   cases e:(pendingOf st3).back? with
   | none=>
    dsimp only
    exact wpS_bind (wpS_modify (wpS_pure ⟨_,rfl,fin _ R2 s3,by lia⟩))
   | some a=>
    obtain⟨s1,l1,z1⟩:=a
    dsimp only
    generalize power' a₀.size (2 * s1 + l1) (2 * s1 + l1 + l1 + n') a₀.size=pw
    refine wpS_bind (wpS_mono (wpS_forRange (I:=fun _ c st4=>c=(none,())/\Rns a₀ lo st4/\Srt (arrOf st4) lo (lo + n')/\1<=(pendingOf st4).size) (Q:=fun c st4=>c=(none,())/\Rns a₀ lo st4/\Srt (arrOf st4) lo (lo + n')/\1<=(pendingOf st4).size) ?st ?fi ⟨rfl,R2,s3,?_⟩) ?po)
    case fi=>exact fun c st4 h=>h
    case st=>
     rintro m c st4 _ hm ⟨rfl,R3,s4,p3⟩
     try dsimp only
     refine wpS_bind (wpS_get ?_)
     by_cases c2:(pendingOf st4).size > 1
     ·rw[if_pos c2]
      obtain⟨l,a,b,el,ll⟩:=C7b (l:=(pendingOf st4).toList) (by simpa using c2)
      obtain⟨sa,na,pa⟩:=a
      obtain⟨sb,nb,pb⟩:=b
      replace ll:l.length=(pendingOf st4).size - 2:=ll.trans (by rw[P5])
      have ge:(pendingOf st4)[(pendingOf st4).size - 2]?=some (sa,na,pa):=by rw[<-Y1,el,X9 (by lia),ll,A6h];rfl
      rw[ge]
      dsimp only
      refine A9n (fun _=>wpS_pure ⟨rfl,R3,s4,p3⟩) fun _=>?_
      refine wpS_bind (B9p h0 R3.tb R3.hi el ll.symm R3.tl fun st5 hB5 hp5 ht5 hk5=>?_)
      simp only[v8,M7,if_false]
      refine wpS_pure ⟨rfl,⟨hB5,R3.hi,ht5⟩,s4.congr fun k h1 _=>hk5 k h1,?_⟩
      rw[<-P5,hp5,F5,F3];lia
     ·rw[if_neg c2]
      exact wpS_pure ⟨rfl,R3,s4,p3⟩
    case po=>
     rintro c st4 ⟨rfl,R3,s4,p3⟩
     dsimp only
     obtain⟨a,ea⟩:∃a,(pendingOf st4).back?=some a:=⟨(pendingOf st4)[(pendingOf st4).size - 1]'(by lia),by rw[Array.back?_eq_getElem?,getElem?_pos _ _ (by lia)]⟩
     obtain⟨l,el⟩:=B9q ea
     obtain⟨u,v,z⟩:=a
     have R4:Rns a₀ lo (setPending st4 ((pendingOf st4).modify ((pendingOf st4).size - 1) fun (u,v,_)=>(u,v,pw))):=⟨R3.tb.pend _,hi,by
      show L7 (arrOf st4) ((pendingOf st4).modify ((pendingOf st4).size - 1) fun (u,v,_)=>(u,v,pw)).toList 0 lo
      rw[C7c el]
      have:=R3.tl
      rw[el] at this
      obtain⟨m,t1,t2⟩:=L7.app.mp this
      exact L7.app.mpr ⟨m,t1,t2⟩⟩
     exact wpS_bind (wpS_modify (wpS_bind (wpS_modify (wpS_pure ⟨_,rfl,fin _ R4 s4,by lia⟩))))
    ·rw[<-P5]
     obtain⟨l,el⟩:=B9q e
     rw[el,F5]
     exact Nat.le_add_left _ _
 case post=>
  rintro c st' ⟨rfl,R⟩
  dsimp only
  refine wpS_bind (wpS_mono (wpS_forRange (I:=fun x c st2=>c=(none,())/\Rns a₀ a₀.size st2/\((pendingOf st2).size<=1\/(pendingOf st2).size + x<=a₀.size)) (Q:=fun c st2=>c=(none,())/\Rns a₀ a₀.size st2/\(pendingOf st2).size<=1) ?st ?fi ⟨rfl,R,.inr ?_⟩) ?po)
  case fi=>
   rintro c st2 ⟨rfl,R2,hx⟩
   refine⟨rfl,R2,?_⟩
   rcases hx with hx | hx
   ·exact hx
   ·lia
  case po=>
   rintro c st2 ⟨rfl,R2,hx⟩
   refine wpS_pure (h st2 R2.tb.perm R2.tb.ok fun i j hij hj=>?_)
   have:=R2.tl
   rw[<-P5] at hx
   match e:(pendingOf st2).toList,hx with
   | [],_=>
    rw[e] at this
    have:0=a₀.size:=this
    lia
   | [(u,v,z)],_=>
    rw[e] at this
    obtain⟨rfl,_,sv,ev⟩:=this
    exact sv i j (by lia) hij (by have:0 + v=a₀.size:=ev;lia)
   | _::_::_,hx=>rw[F3,F3] at hx;lia
  case st=>
   rintro x c st2 _ hx ⟨rfl,R2,hp⟩
   refine wpS_bind (wpS_get ?_)
   by_cases c1:(pendingOf st2).size<=1
   ·rw[if_pos c1]
    exact wpS_pure ⟨rfl,R2,c1⟩
   rw[if_neg c1]
   have hp':=hp.resolve_left c1
   generalize hb:(if (pendingOf st2).size - 2 > 0 then Option.map (fun x=>x.2.1) (pendingOf st2)[(pendingOf st2).size - 2 - 1]? else none)=bf
   obtain⟨i,hii⟩:∃i,i=(if Option.any (fun x=>decide (x < (pendingOf st2)[(pendingOf st2).size - 2 + 1]?.elim 0 fun x=>x.snd.fst)) bf=true then (pendingOf st2).size - 2 - 1 else (pendingOf st2).size - 2):=⟨_,rfl⟩
   have hi:i + 1 < (pendingOf st2).size:=by rw[hii];split <;> lia
   rw[<-hii]
   clear hii
   have gi:=getElem?_pos (pendingOf st2) i (by lia)
   have gj:=getElem?_pos (pendingOf st2) (i + 1) (by lia)
   obtain⟨l1,l2,e1,e2,_⟩:=B9o (c:=(0,0,0)) gi gj
   generalize (pendingOf st2)[i]=a at e1
   generalize (pendingOf st2)[i + 1]=b at e1
   obtain⟨sa,na,pa⟩:=a
   obtain⟨sb,nb,pb⟩:=b
   refine wpS_bind (B9p h0 R2.tb R2.hi e1 e2.symm R2.tl fun st4 hB4 hp4 ht4 hk4=>?_)
   simp only[v8,M7,if_false]
   refine wpS_pure ⟨rfl,⟨hB4,R2.hi,ht4⟩,.inr ?_⟩
   have n1:(pendingOf st2).size=l1.length + (l2.length + 2):=by rw[<-P5,e1,F5];rfl
   have n2:(pendingOf st4).size=l1.length + (l2.length + 1):=by rw[<-P5,hp4,F5];rfl
   lia
  ·have:=R.tl.le
   rw[P5] at this
   lia
end
section
variable {prog:Program} {w:World} {A:Around} {E:Value->Shared->Prop} {s:Shared}
theorem C7e {b:Addr} {us:List Value} {ks:List Int} {c:Nat} {P:Fin->Shared->Prop} (at0:s.heap.get? b=some (seqObj "list" us.toArray c)) (ii:IntsAre us ks) (two:2<=us.length) (few:us.length<=1000)
  (q:∀(o:Array Value) (ms:List Int),IntsAre o.toList ms->ms.Perm ks->ms.Pairwise (·<=·)->P (.done (.ret .none)) { s with heap:=sortedHeap s.heap b us o }):wpAny (model prog w) A (Builtin.«list.sort» ⟨[.ref b],[]⟩) P E s:=by
 obtain⟨u1,u2,r,rfl⟩:∃u1 u2 r,us=u1::u2::r:=by
  match us,two with
  | u1::u2::r,_=>exact⟨u1,u2,r,rfl⟩
  | [_],h=>exact absurd (show 2<=1 from h) (by decide)
  | [],h=>exact absurd h (by decide)
 have big:¬ (u1::u2::r).toArray.size < 2:=by simp
 have fit:(u1::u2::r).length<=sizeLine:=by rw[sizeLine_eq];lia
 have bl:=G3 at0
 rw[list_sort_plain]
 refine wpAny_bind (listItems_at at0 rfl (wpAny_bind (listUpdate_at at0 rfl ?_ (hsz:=by simpa using fit))))
 obtain⟨c1,at1⟩:∃c1,(s.heap.update b (Y0 fun _=>#[])).get? b=some (seqObj "list" #[] c1):=⟨_,get?_update_seq at0 (fun _=>#[])⟩
 refine wpAny_bind (seqEpoch_at at1 rfl (wpAny_bind (wpAny_newTuple (wpAny_bind (wpAny_newList (wpAny_holding ?_))) (by simpa using fit))))
 obtain⟨hp,ehp⟩:∃hp,hp=((s.heap.update b (Y0 fun _=>#[])).push (seqObj "tuple" (u1::u2::r).toArray 0)).push (seqObj "list" #[] 0):=⟨_,rfl⟩
 have at6:hp.get? b=some (seqObj "list" #[] c1):=by
  rw[ehp]
  refine Eq.trans (Heap.get?_push_ne _ _ _ ?_) (Eq.trans (Heap.get?_push_ne _ _ _ ?_) at1)
  ·rw[size_push',Heap.size_update];exact P4 (B49 bl)
  ·rw[Heap.size_update];exact P4 bl
 show wpAny (model prog w) A _ P E { s with heap:=((s.heap.update b (Y0 fun _=>#[])).push (seqObj "tuple" (u1::u2::r).toArray 0)).push (seqObj "list" #[] 0) }
 have eh:∀o,sortedHeap s.heap b (u1::u2::r) o=hp.update b (Y0 fun _=>o):=fun o=>by rw[ehp];rfl
 rw[<-ehp]
 dsimp only
 rw[if_neg big,if_neg big,keyKind_ints ii]
 refine wpAny_bind (wpAny_pure (wpAny_bind (wpAny_mono (C7d (a₀:=pairsOf (u1::u2::r)) (st:=SortSt.mk' oneType' ((u1::u2::r).toArray.zip (u1::u2::r).toArray) #[] 7 none)
  (Q:=fun _ z=>(arrOf z).Perm (pairsOf (u1::u2::r))/\failedOf z=none/\SortedTo (arrOf z) (pairsOf (u1::u2::r)).size) ii.intKeys ⟨Array.Perm.refl _,rfl,rfl⟩ rfl fun z a1 a2 a3=>⟨a1,a2,a3⟩) ?_ fun _ _ e=>e)))
 rintro ⟨⟨⟩,z⟩ s' ⟨rfl,zp,zf,zs⟩
 dsimp only
 refine wpAny_bind (seqEpoch_at at6 rfl (wpAny_bind (listUpdate_at at6 rfl ?_ (hsz2:=?_))))
 ·rw[zf]
  simp only[bne_self_eq_false,M7,if_false]
  obtain⟨ms,m1,m2,m3⟩:=sorted_out ii zp zs
  have:=q _ ms m1 m2 m3
  rw[eh] at this
  exact wpAny_pure this
 ·have:=zp.size_eq
  rw[pairsOf_size] at this
  rw[Array.size_map,this];lia
theorem C7f {l:Addr} {us:List Value} {ks:List Int} {Q:Value->Shared->Prop} (hl:s.heap.IsList l us.toArray) (ii:IntsAre us ks) (few:us.length<=1000)
  (q:∀(o:Array Value) (ms:List Int),IntsAre o.toList ms->ms.Perm ks->ms.Pairwise (·<=·)->Q (.ref (s.heap.objs.size + 1)) { s with heap:=sortedAll s.heap us o }):wpAny (model prog w) A (call (.builtin "sorted") [.ref l]) Q E s:=by
 by_cases c:us.length < 64
 ·exact sorted_ints hl ii c q
 have fit:us.length<=sizeLine:=by rw[sizeLine_eq];lia
 refine Calls.call_function_entry kind_sorted plain_sorted entry_sorted (args_sorted1 _) ?_
 unfold Builtin.«sorted»
 refine wpAny_bind (m:=checkCount "sorted" 1 1 _) (wpAny_pure (wpAny_bind (collect_list hl (wpAny_bind (wpAny_newList ?_ fit)) fit)))
 obtain⟨g,eg⟩:∃g,g=(s.heap.push (seqObj "list" #[] 0)).update s.heap.objs.size (Y0 (·++us.toArray)):=⟨_,rfl⟩
 have gs:g.objs.size=s.heap.objs.size + 1:=by rw[eg,Heap.size_update,size_push']
 have at0:(g.push (seqObj "list" us.toArray 0)).get? (s.heap.objs.size + 1)=some (seqObj "list" us.toArray 0):=by rw[<-gs];exact T2 _ rfl
 have es:∀o,sortedAll s.heap us o=sortedHeap (g.push (seqObj "list" us.toArray 0)) (s.heap.objs.size + 1) us o:=fun o=>by rw[eg];rfl
 show wpAny _ _ _ _ _ { s with heap:=((s.heap.push (seqObj "list" #[] 0)).update s.heap.objs.size (Y0 (·++us.toArray))).push (seqObj "list" us.toArray 0) }
 rw[<-eg,gs]
 refine wpAny_bind (wpAny_holding (wpAny_call_entry slot_list_sort ⟨_,at0,rfl⟩ entry_list_sort (C7e at0 ii (by lia) few fun o ms m1 m2 m3=>⟨_,rfl,?_⟩) (args_list_sort _)))
 have:=q o ms m1 m2 m3
 rw[es] at this
 exact wpAny_pure ⟨_,rfl,this⟩
end
section
variable {X:Cx}
theorem C7g (_:X.calm=true):W7 X (.builtin "sorted") (fun xs H Q=>∃(p:Addr) (ns:List Int),xs=[.ref p]/\SqL X.K H p (ns.map V.int)/\ns.length<=1000/\∀(l:Addr) (ms:List Int),H l=none->ms.Perm ns->ms.Pairwise (·<=·)->Q (.ref l) (upd H l (.lst (ms.map V.int)))):=by
 intro pins s σ H xs us Q I r h
 obtain⟨p,ns,rfl,hq,hn,q⟩:=h
 obtain⟨u,rfl,rx⟩:=Y9 r
 cases rx
 obtain⟨its,rv,pl,hz⟩:=I.list hq
 have hl:its.length<=1000:=by rw[<-rv.length,C7];exact hn
 refine C7f pl.isList (B6b rv) hl fun out ms a1 a2 a3=>?_
 obtain⟨e,he⟩:=sortedAll_at s.heap its out
 have hk:∀b o,s.heap.get? b=some o->(sortedAll s.heap its out).get? b=some o:=fun _ _ z=>sortedAll_old z
 have hv:C3 (ms.map V.int) out.toList:=B1f a1
 refine⟨.ref (s.heap.objs.size + 1),_,I.laid (t':=s.toks) hk (A3g _) (show J1 X.prog X.w _ _ _ (.lst (ms.map V.int)) from ⟨?_,out.toList,e,hv,by simpa [seqObj] using he⟩),rfl,q _ ms (I.hok.fresh (A3g _)) a2 a3⟩
 rw[C7,a2.length_eq,sizeLine_eq]
 lia
end
end L2
namespace My
open PySem L2
open PySem.Spec PyProof.Rows
mutual
def X5:PyData->Bool
 | .none=>true
 | .bool _=>true
 | .int _=>true
 | .str _=>true
 | .tuple xs=>A0y xs
 | .list _=>false
 | .dict _=>false
def A0y:List PyData->Bool
 | []=>true
 | d::ds=>X5 d&&A0y ds
end
open Classical in
section
variable {X:Cx} {C:DC} {e a b:Expr} {es:List Expr} {t ta tb te:DE} {u:DA} {pos:Pos} {st:Stmt} {tg:Expr}
def A47 (i:Nat) (ρ:List Sl) (Q:PyData->List Sl->Prop):Prop:=bnd (A2o ρ i) fun d=>Q d ρ
def A48 (ta tb:DE)  (ρ:List Sl) (Q:PyData->List Sl->Prop):Prop:=ta ρ fun a ρ1=>tb ρ1 fun b ρ2=>bnd (ixD a b) fun d=>Q d ρ2
def A49 (t:DE)  (ρ:List Sl) (Q:PyData->List Sl->Prop):Prop:=t ρ fun d ρ'=>X5 d=true/\Q d ρ'
def A5a (t:DE)  (ρ:List Sl) (Q:PyData->List Sl->Prop):Prop:=t ρ fun d ρ'=>bnd (lenD d) fun n=>Q (.int n) ρ'
def A5b (t:DE) (T:String)  (ρ:List Sl) (Q:PyData->List Sl->Prop):Prop:=t ρ fun a ρ'=>Q (.bool (V0 T a)) ρ'
def A5c (neg:Bool) (t:DE)  (ρ:List Sl) (Q:PyData->List Sl->Prop):Prop:=t ρ fun a ρ'=>Q (.bool (if neg then !isN a else isN a)) ρ'
def A5d (t:DE)  (ρ:List Sl) (Q:List PyData->List Sl->Prop):Prop:=t ρ fun d ρ'=>bnd (j5 d) fun ds=>A0y ds=true/\Q ds ρ'
def dIL (t:DE)  (ρ:List Sl) (Q:List PyData->List Sl->Prop):Prop:=t ρ fun d ρ'=>bnd (K8 d) fun xs=>A0y xs=true/\Q xs ρ'
def B9r (t:DE)  (ρ:List Sl) (Q:List PyData->List Sl->Prop):Prop:=t ρ fun d ρ'=>bnd (K8 d) fun xs=>A0y xs=true/\Q (Q3 xs) ρ'
def aW (t:DE) (u:DA)  (ρ:List Sl) (Q:List Ar->List Sl->Prop):Prop:=t ρ fun d ρ1=>u ρ1 fun as ρ2=>Q (.w d::as) ρ2
end
end My
namespace My
open PySem L2
def B9s (C:DC) (col:Addr->Nat) (i:Nat) (b:Addr):Prop:=col b=2 * i + 3/\C.H0 b=none
open Classical in
noncomputable def ldC (C:DC) (col:Addr->Nat) (H:Hp) (i:Nat):DC:=⟨fun b=>C.F b/\¬ B9s C col i b,C.hand,fun b=>if B9s C col i b\/(∃xs,H b=some (.tup xs)) then H b else C.H0 b⟩
def N8:List Sl->Bool
 | []=>true
 | .b2 _::_=>false
 | .no::r=>N8 r
 | .sh _::r=>N8 r
 | .ow _::r=>N8 r
 | .bo _::r=>N8 r
 | .hd::r=>N8 r
 | .o2 _::r=>N8 r
 | .di _ _::r=>N8 r
 | .dm _ _::r=>N8 r
 | .bd _::r=>N8 r
 | .ot _::r=>N8 r
 | .ob _::r=>N8 r
section
variable {C:DC} {col col2:Addr->Nat} {ρ:List Sl} {σ:L2.St} {P:List Pe} {H H2:Hp} {i:Nat} {d:PyData}
open Classical in
open Classical in
end
section
variable {X:Cx} {C:DC} {e:Expr} {st:Stmt} {t te:DE} {u:DA} {i:Nat}
def A5e (i:Nat) (t:DE)  (ρ:List Sl) (Q:PyData->List Sl->Prop):Prop:=match ρ[i]? with
 | some (.ot d)=>N8 ρ=true/\t (ρ.set i (.bd d)) fun d' ρ'=>ρ'=ρ.set i (.bd d)/\Q d' ρ
 | _=>t ρ Q
def d5:List Md->List PyData->Bool
 | [],[]=>true
 | .sh::ms,d::ds=>X5 d&&d5 ms ds
 | .bo::ms,.list es::ds=>A0y es&&d5 ms ds
 | .bd::ms,_::ds=>d5 ms ds
 | .hd::ms,_::ds=>d5 ms ds
 | _,_=>false
def A5f (i:Nat) (ms:List Md) (sp:DSp) (u:DA)  (D:J5) (ρ:List Sl):Prop:=u ρ fun as ρ'=>bnd (N6 ρ' ms as) fun ds=>d5 ms ds=true/\sp ds fun d=>D.nx (ρ'.set i (.ot d))
open Classical in
mutual
def C7h:PyData->PyData
 | .tuple xs=>.tuple (A5g xs)
 | .list _=>.list []
 | .none=>.none
 | .bool b=>.bool b
 | .int i=>.int i
 | .str s=>.str s
 | .dict d=>.dict d
def A5g:List PyData->List PyData
 | []=>[]
 | d::ds=>C7h d::A5g ds
end
def A5h (i:Nat) (c:Int) (te:DE) (D:J5) (ρ:List Sl):Prop:=match ρ[i]? with
 | some (.ot (.tuple xs))=>N8 ρ=true/\match atI xs c with
  | some (.list ds)=>(A0y ds=true/\ds.length<=100000)/\te (ρ.set i (.bd (.tuple xs))) fun d' ρ'=>ρ'=ρ.set i (.bd (.tuple xs))/\X5 d'=true/\∀xs',A5g xs'=A5g xs->D.nx (ρ.set i (.ot (.tuple xs')))
  | _=>False
 | _=>False
open Classical in
def A5i (i:Nat) (c:Int) (te:DE) (D:J5) (ρ:List Sl):Prop:=match ρ[i]? with
 | some (.ot (.tuple xs))=>N8 ρ=true/\match atI xs c with
  | some (.list ds)=>ds.length<=100000/\te (ρ.set i (.bd (.tuple xs))) fun d' ρ'=>ρ'=ρ.set i (.bd (.tuple xs))/\D.nx (ρ.set i .no)
  | _=>False
 | _=>False
open Classical in
def A5j (i:Nat) (c:Int) (D:J5) (ρ:List Sl):Prop:=match ρ[i]? with
 | some (.ot (.tuple xs))=>match atI xs c with
  | some (.list _)=>∀xs',A5g xs'=A5g xs->D.nx (ρ.set i (.ot (.tuple xs')))
  | _=>False
 | _=>False
end
end My
namespace L2
open PySem PySem.Spec PyProof.Rows
section
variable {X:Cx}
end
end L2
namespace My
open PySem L2
section
variable {X:Cx} {C:DC} {a b:Expr} {te:DE} {pos:Pos} {i:Nat}
def A5k (te:DE) (i:Nat) (ρ:List Sl) (Q:PyData->List Sl->Prop):Prop:=te ρ fun d ρ1=>bnd (N4 ρ1 i) fun a=>bnd (K8 a) fun xs=>(PyData.canLayAll0 xs=true/\d.canLay0=true/\d.depth<=60)/\Q (.bool (!(xs.any fun z=>PyData.eqv z d))) ρ1
end
section
variable {X:Cx} {C:DC} {e a b:Expr} {t:DE} {tt:DT} {i:Nat} {pos:Pos}
def A5l (i:Nat) (tt:DT)  (ρ:List Sl) (Q:Bool->List Sl->Prop):Prop:=match ρ[i]? with
 | some (.ot d)=>N8 ρ=true/\tt (ρ.set i (.bd d)) fun b ρ'=>ρ'=ρ.set i (.bd d)/\Q b ρ
 | _=>tt ρ Q
end
section
variable {X:Cx} {C:DC} {e:Expr} {u:DA} {i:Nat}
def arS (ρ:List Sl) (i:Nat) (m:Md) (a:Ar):Option PyData:=match m,a with
 | .sh,.s j=>if j=i then (match ρ[i]? with
  | some (.ot d)=>some d
  | _=>none) else none
 | m,a=>arD ρ m a
def A0z (ρ:List Sl) (i:Nat):List Md->List Ar->Option (List PyData)
 | [],[]=>some []
 | m::ms,a::as=>(arS ρ i m a).bind fun d=>(A0z ρ i ms as).map (d::·)
 | _,_=>none
def A5m (i:Nat) (ms:List Md) (sp:DSp) (u:DA)  (ρ:List Sl) (Q:PyData->List Sl->Prop):Prop:=u ρ fun as ρ'=>bnd (A0z ρ' i ms as) fun ds=>sp ds fun d=>X5 d=true/\Q d ρ'
end
section
variable {C:DC} {col:Addr->Nat} {ρ:List Sl} {σ:St} {P:List Pe} {H H':Hp} {p:Addr}
end
section
variable {X:Cx} {C:DC} {st:Stmt} {e a b:Expr} {te tk:DE} {pos:Pos}
theorem A6.lenD {F:Addr->Prop} {H:Hp}:∀{vs:List V} {ds:List PyData},A6 F H vs ds->vs.length=ds.length
 | _,_,.nil=>rfl
 | _,_,.cons _ t=>by rw[F3,F3,A6.lenD t]
end
section
variable {X:Cx} {C:DC} {st:Stmt}
end
section
variable {X:Cx} {C:DC} {st:Stmt} {i j:Nat}
end
section
variable {X:Cx} {C:DC} {e:Expr} {te tp tl:DE} {i:Nat}
open Classical in
end
open PySem.Spec
section
variable {X:Cx} {C:DC} {a st:Expr} {pos:Pos}
end
section
variable {X:Cx} {C:DC}
end
mutual
def okS:PyData->Bool
 | .none=>true
 | .bool _=>true
 | .int _=>true
 | .str _=>true
 | .tuple xs=>B2w xs
 | .list xs=>B2w xs
 | .dict ks=>ks.isEmpty
def B2w:List PyData->Bool
 | []=>true
 | d::ds=>okS d&&B2w ds
end
section
variable {X:Cx} {pins:List (Addr×Obj)} {σ:St} {H:Hp} {s:Shared} {F:Addr->Prop}
end
section
variable {C:DC}
end
open PyProof.Rows
section
variable {X:Cx} {C:DC} {st:Stmt} {i:Nat}
open Classical in
end
section
variable {X:Cx} {C:DC} {a b:Expr} {tl tb:DE} {pos:Pos}
end
mutual
inductive FpV (F:Addr->Prop) (H:Hp):V->PyData->List Addr->Prop
 | non:FpV F H .non .none []
 | bl (b):FpV F H (.bl b) (.bool b) []
 | int (i):FpV F H (.int i) (.int i) []
 | str (x):FpV F H (.str x) (.str x) []
 | lst {a xs ds fp}:F a->H a=some (.lst xs)->d6 F H xs ds fp->FpV F H (.ref a) (.list ds) (a::fp)
 | tup {a xs ds fp}:F a->H a=some (.tup xs)->d6 F H xs ds fp->FpV F H (.ref a) (.tuple ds) fp
inductive d6 (F:Addr->Prop) (H:Hp):List V->List PyData->List Addr->Prop
 | nil:d6 F H [] [] []
 | cons {x xs d ds fp fps}:FpV F H x d fp->d6 F H xs ds fps->d6 F H (x::xs) (d::ds) (fp++fps)
end
mutual
theorem FpV.mvm {F G:Addr->Prop} {H H':Hp}:∀{v:V} {d:PyData} {fp:List Addr},FpV F H v d fp->(∀b o,F b->H b=some o->(b∈fp\/∃xs,o=.tup xs)->G b/\H' b=some o)->FpV G H' v d fp
 | _,_,_,.non,_=>.non
 | _,_,_,.bl b,_=>.bl b
 | _,_,_,.int i,_=>.int i
 | _,_,_,.str x,_=>.str x
 | _,_,_,.lst n e t,f=>
  have q:=f _ _ n e (.inl B2)
  .lst q.1 q.2 (d6.mvm t fun b o z e h=>f b o z e (h.imp (A9 _) id))
 | _,_,_,.tup n e t,f=>
  have q:=f _ _ n e (.inr ⟨_,rfl⟩)
  .tup q.1 q.2 (d6.mvm t f)
theorem d6.mvm {F G:Addr->Prop} {H H':Hp}:∀{vs:List V} {ds:List PyData} {fp:List Addr},d6 F H vs ds fp->(∀b o,F b->H b=some o->(b∈fp\/∃xs,o=.tup xs)->G b/\H' b=some o)->d6 G H' vs ds fp
 | _,_,_,.nil,_=>.nil
 | _,_,_,.cons x t,f=>.cons (FpV.mvm x fun b o z e h=>f b o z e (h.imp (fun h=>K7.mpr (.inl h)) id)) (d6.mvm t fun b o z e h=>f b o z e (h.imp (fun h=>K7.mpr (.inr h)) id))
end
def trR (d:PyData):B1p where
 p:=fun W H v=>∃fp,FpV W H v d fp/\fp.Nodup
 mv:=fun f ⟨fp,t,n⟩=>⟨fp,t.mvm fun b o z e _=>f b o z e,n⟩
section
variable {C:DC} {col col2:Addr->Nat} {ρ:List Sl} {σ:L2.St} {P:List Pe} {H H2:Hp} {i:Nat} {d:PyData} {R:B1p}
open Classical in
open Classical in
end
section
variable {X:Cx} {C:DC} {e:Expr} {es:List Expr} {st:Stmt} {t te:DE} {tt:DT} {u:DA} {i:Nat}
def A5n (i:Nat) (t:DE)  (ρ:List Sl) (Q:PyData->List Sl->Prop):Prop:=match ρ[i]? with
 | some (.ob R)=>∃d,R=trR d/\N8 ρ=true/\t (ρ.set i (.bd d)) fun d' ρ'=>ρ'=ρ.set i (.bd d)/\Q d' ρ
 | _=>t ρ Q
def A5o (i:Nat) (tt:DT)  (ρ:List Sl) (Q:Bool->List Sl->Prop):Prop:=match ρ[i]? with
 | some (.ob R)=>∃d,R=trR d/\N8 ρ=true/\tt (ρ.set i (.bd d)) fun b ρ'=>ρ'=ρ.set i (.bd d)/\Q b ρ
 | _=>tt ρ Q
def arF (ρ:List Sl) (m:Md) (a:Ar):Option PyData:=match m,a with
 | .sh,.w d=>some d
 | .sh,.s i=>match ρ[i]? with
  | some (.bd d)=>some d
  | some (.sh d)=>some d
  | _=>none
 | m,a=>arD ρ m a
def A00 (ρ:List Sl):List Md->List Ar->Option (List PyData)
 | [],[]=>some []
 | m::ms,a::as=>(arF ρ m a).bind fun d=>(A00 ρ ms as).map (d::·)
 | _,_=>none
def A5p (ms:List Md) (sp:DSp) (u:DA)  (ρ:List Sl) (Q:PyData->List Sl->Prop):Prop:=u ρ fun as ρ'=>bnd (A00 ρ' ms as) fun ds=>sp ds fun d=>X5 d=true/\Q d ρ'
open Classical in
def A5q (i:Nat) (ms:List Md) (sp:DSp) (u:DA)  (D:J5) (ρ:List Sl):Prop:=u ρ fun as ρ'=>bnd (N6 ρ' ms as) fun ds=>sp ds fun d=>D.nx (ρ'.set i (.ob (trR d)))
end
section
variable {X:Cx} {C:DC} {tg e:Expr} {t:DE} {st:Stmt} {i:Nat}
def B9t (t:DE)  (ρ:List Sl) (Q:List PyData->List Sl->Prop):Prop:=t ρ fun d ρ'=>bnd (K8 d) fun xs=>Q xs.reverse ρ'
def B9u (t:DE)  (ρ:List Sl) (Q:List PyData->List Sl->Prop):Prop:=t ρ fun d ρ'=>bnd (K8 d) fun xs=>Q xs ρ'
def A5r (i:Nat) (t:DE) (D:J5) (ρ:List Sl):Prop:=t ρ fun d ρ'=>D.nx (ρ'.set i (.bd d))
def B9v (it:DF) (i:Nat) (tb:DS) (D:J5) (ρ:List Sl):Prop:=it ρ fun xs ρ1=>∃I:List PyData->List Sl->Prop,I xs ρ1/\(∀x r ρ,I (x::r) ρ->Blk tb { nx:=I r,ct:=I r,bk:=D.nx,rt:=D.rt } (ρ.set i (.bd x)))/\∀ρ,I [] ρ->D.nx ρ
end
section
variable {X:Cx} {C:DC} {st:Stmt} {i j ia ib:Nat}
def A5s (i j:Nat) (D:J5) (ρ:List Sl):Prop:=match ρ[i]?,ρ[j]? with
 | some (.ob R),some (.sh (.int z))=>∃(ds ps:List PyData) (s:PyData) (k:Nat),R=trR (.list ds)/\z=(k:Nat)/\ds[k]?=some (.tuple [s,.list ps])/\D.nx (ρ.set i (.ob (trR (.list (ds.set k (.tuple [s,.list []]))))))
 | _,_=>False
def PtA (n:Nat) (p:PyData):Prop:=∃es t,p=.tuple [.list es,t]/\A0y es=true/\X5 t=true/\es.length<=n
def A5t (i j ia ib:Nat) (D:J5) (ρ:List Sl):Prop:=match ρ[i]?,ρ[j]? with
 | some (.ob R),some (.sh (.int z))=>∃(ds ps:List PyData) (s:PyData) (k:Nat),R=trR (.list ds)/\z=(k:Nat)/\ds[k]?=some (.tuple [s,.list ps])/\(∀p∈ps,PtA 1000 p)/\ps.length<=1000/\((i≠ia/\i≠ib/\ia≠ib)/\i < ρ.length/\ia < ρ.length/\ib < ρ.length)/\
  ∀ps':List PyData,ps'.length=ps.length->D.nx (((ρ.set ia .no).set ib .no).set i (.ob (trR (.list (ds.set k (.tuple [s,.list ps']))))))
 | _,_=>False
end
end My
namespace My
open PySem L2
section
variable {X:Cx} {C:DC} {e:Expr} {ta:DE}
def A3b (ta:DE)  (ρ:List Sl) (Q:List PyData->List Sl->Prop):Prop:=ta ρ fun a ρ'=>∃ns:List Int,a=.list (ns.map PyData.int)/\ns.length<=1000/\∀ms:List Int,ms.Perm ns->ms.Pairwise (·<=·)->Q (ms.map PyData.int) ρ'
theorem C7i {K:A7} (h:PE X e (tCB (fun xs H Q=>∃(p:Addr) (ns:List Int),xs=[.ref p]/\SqL K H p (ns.map V.int)/\ns.length<=1000/\∀(l:Addr) (ms:List Int),H l=none->ms.Perm ns->ms.Pairwise (·<=·)->Q (.ref l) (upd H l (.lst (ms.map V.int)))) (W9 (eOf C ta) Z0))):PE X e (fOf C (A3b ta)):=PE.wk h fun _ _ _ ⟨ρ,P,_,R,ht,k⟩=>⟨ρ,P,_,R,ht,fun v d ρ' H' ⟨col,r⟩ q=>by
 obtain⟨ns,rfl,hn,q⟩:=q
 have t:ThV (Z col) H' v (.list (ns.map PyData.int)):=r.pd _ B2
 cases t with
 | lst _ e t=>
  cases B75 t
  exact⟨_,ns,rfl,SqL.of e,hn,fun l ms hl hp hw=>k _ _ _ _ _ ⟨col,r.sub fun _ h=>A9 _ h,B76 ms⟩ hl (q ms hp hw)⟩⟩
end
theorem G8 {us:List Value} {n:Nat} (h:us.length=n + 1):∃a r,us=a::r/\r.length=n:=by
 cases us with
 | nil=>cases h
 | cons a r=>exact⟨a,r,rfl,Nat.succ.inj h⟩
theorem D2q {us:List Value} (h:us.length=0):us=[]:=by
 cases A1b h
 exact rfl
theorem a8 {us:List Value} (h:us.length=1):∃a0,us=[a0]:=by
 obtain⟨a0,u0,rfl,h0⟩:=G8 h
 cases A1b h0
 exact⟨a0,rfl⟩
theorem T0 {us:List Value} (h:us.length=2):∃a0 a1,us=[a0,a1]:=by
 obtain⟨a0,u0,rfl,h0⟩:=G8 h
 obtain⟨a1,u1,rfl,h1⟩:=G8 h0
 cases A1b h1
 exact⟨a0,a1,rfl⟩
theorem d7 {us:List Value} (h:us.length=3):∃a0 a1 a2,us=[a0,a1,a2]:=by
 obtain⟨a0,u0,rfl,h0⟩:=G8 h
 obtain⟨a1,u1,rfl,h1⟩:=G8 h0
 obtain⟨a2,u2,rfl,h2⟩:=G8 h1
 cases A1b h2
 exact⟨a0,a1,a2,rfl⟩
theorem p8 {us:List Value} (h:us.length=4):∃a0 a1 a2 a3,us=[a0,a1,a2,a3]:=by
 obtain⟨a0,u0,rfl,h0⟩:=G8 h
 obtain⟨a1,u1,rfl,h1⟩:=G8 h0
 obtain⟨a2,u2,rfl,h2⟩:=G8 h1
 obtain⟨a3,u3,rfl,h3⟩:=G8 h2
 cases A1b h3
 exact⟨a0,a1,a2,a3,rfl⟩
theorem B9w {us:List Value} (h:us.length=5):∃a0 a1 a2 a3 a4,us=[a0,a1,a2,a3,a4]:=by
 obtain⟨a0,u0,rfl,h0⟩:=G8 h
 obtain⟨a1,u1,rfl,h1⟩:=G8 h0
 obtain⟨a2,u2,rfl,h2⟩:=G8 h1
 obtain⟨a3,u3,rfl,h3⟩:=G8 h2
 obtain⟨a4,u4,rfl,h4⟩:=G8 h3
 cases A1b h4
 exact⟨a0,a1,a2,a3,a4,rfl⟩
theorem D2r {us:List Value} (h:us.length=6):∃a0 a1 a2 a3 a4 a5,us=[a0,a1,a2,a3,a4,a5]:=by
 obtain⟨a0,u0,rfl,h0⟩:=G8 h
 obtain⟨a1,u1,rfl,h1⟩:=G8 h0
 obtain⟨a2,u2,rfl,h2⟩:=G8 h1
 obtain⟨a3,u3,rfl,h3⟩:=G8 h2
 obtain⟨a4,u4,rfl,h4⟩:=G8 h3
 obtain⟨a5,u5,rfl,h5⟩:=G8 h4
 cases A1b h5
 exact⟨a0,a1,a2,a3,a4,a5,rfl⟩
theorem D2s {us:List Value} (h:us.length=7):∃a0 a1 a2 a3 a4 a5 a6,us=[a0,a1,a2,a3,a4,a5,a6]:=by
 obtain⟨a0,u0,rfl,h0⟩:=G8 h
 obtain⟨a1,u1,rfl,h1⟩:=G8 h0
 obtain⟨a2,u2,rfl,h2⟩:=G8 h1
 obtain⟨a3,u3,rfl,h3⟩:=G8 h2
 obtain⟨a4,u4,rfl,h4⟩:=G8 h3
 obtain⟨a5,u5,rfl,h5⟩:=G8 h4
 obtain⟨a6,u6,rfl,h6⟩:=G8 h5
 cases A1b h6
 exact⟨a0,a1,a2,a3,a4,a5,a6,rfl⟩
theorem D2t {us:List Value} (h:us.length=8):∃a0 a1 a2 a3 a4 a5 a6 a7,us=[a0,a1,a2,a3,a4,a5,a6,a7]:=by
 obtain⟨a0,u0,rfl,h0⟩:=G8 h
 obtain⟨a1,u1,rfl,h1⟩:=G8 h0
 obtain⟨a2,u2,rfl,h2⟩:=G8 h1
 obtain⟨a3,u3,rfl,h3⟩:=G8 h2
 obtain⟨a4,u4,rfl,h4⟩:=G8 h3
 obtain⟨a5,u5,rfl,h5⟩:=G8 h4
 obtain⟨a6,u6,rfl,h6⟩:=G8 h5
 obtain⟨a7,u7,rfl,h7⟩:=G8 h6
 cases A1b h7
 exact⟨a0,a1,a2,a3,a4,a5,a6,a7,rfl⟩
def top (i:Nat):Stmt:=PySem.Challenge.pw_trudge_k86_whole_shares.main.body.getD i (.Pass ⟨0,0,0,0⟩)
abbrev B2x:Stmt:=top 4
abbrev B2y:Stmt:=top 5
abbrev B2z:Stmt:=top 6
abbrev B20:Stmt:=top 13
abbrev A9q:Stmt:=top 14
abbrev B21:Stmt:=top 18
abbrev B22:Stmt:=top 19
abbrev B23:Stmt:=top 24
abbrev B24:Stmt:=top 25
abbrev B25:Stmt:=top 26
abbrev B26:Stmt:=top 27
abbrev B27:Stmt:=top 28
abbrev B28:Stmt:=top 30
abbrev B29:Stmt:=top 31
abbrev B3a:Stmt:=top 37
abbrev B3b:Stmt:=top 38
abbrev B3c:Stmt:=top 39
abbrev B3d:Stmt:=top 43
abbrev B3e:Stmt:=top 44
abbrev B3f:Stmt:=top 45
abbrev B3g:Stmt:=top 47
abbrev B3h:Stmt:=top 48
abbrev A9r:Stmt:=top 49
abbrev A9s:Stmt:=top 50
abbrev B3i:Stmt:=top 51
abbrev B3j:Stmt:=top 52
abbrev A9t:Stmt:=top 53
abbrev B3k:Stmt:=top 54
abbrev B3l:Stmt:=top 58
abbrev A9u:Stmt:=top 59
abbrev B3m:Stmt:=top 60
abbrev B3n:Stmt:=top 61
abbrev B3o:Stmt:=top 62
abbrev B3p:Stmt:=top 66
abbrev A9v:Stmt:=top 67
abbrev B3q:Stmt:=top 68
abbrev A9w:Stmt:=top 69
abbrev B3r:Stmt:=top 71
abbrev B3s:Stmt:=top 72
abbrev B3t:Stmt:=top 73
abbrev B3u:Stmt:=top 74
abbrev B3v:Stmt:=top 75
abbrev B3w:Stmt:=top 76
abbrev B3x:Stmt:=top 78
abbrev A9x:Stmt:=top 79
abbrev A5u:Stmt:=top 80
abbrev B3y:Stmt:=top 81
abbrev B3z:Stmt:=top 82
abbrev A9y:Stmt:=top 83
abbrev A9z:Stmt:=top 84
abbrev d8:Stmt:=top 85
structure FT (K:A7) (mg:Str->Option Value) (nm:Str) (st:Stmt) (ps:List Str) where
 a:Addr
 d:FuncData
 F:Fun K nm nm st a d
 m:mg nm=some (.ref a)
 b:A3w K d ps []
def FH (K:A7) (nm:Str) (st:Stmt):Prop:=∃f,G9 K mainGlobals nm=some (some (.ref f))/\∃fd,Fun K nm nm st f fd
theorem FT.of {K:A7} {mg:Str->Option Value} {nm:Str} {st:Stmt} {ps:List Str} {h:Heap} (X:K.In h) (G:h.Ns mainGlobals mg) (H:FH K nm st) (hb:∀(kV doc pm:Value) (an:Option Addr) (cdv ct:Value) (us:List Value),us.length=ps.length->bindArgs (A06 nm nm (A1k st) (j1 st) (C2 st) .none kV doc pm an cdv ct) ⟨us,[]⟩=pure (ps.zip us)):Nonempty (FT K mg nm st ps):=by
 obtain⟨f,a,fd,F⟩:=H
 exact⟨⟨f,fd,F,P7 X G a,F.binds hb⟩⟩
set_option genInjectivity false in
set_option genSizeOf false in
structure Txt (K:A7) (mg:Str->Option Value) where
 n_abs:mg "abs" = none
 n_all:mg "all" = none
 n_any:mg "any" = none
 n_bool:mg "bool" = none
 n_enumerate:mg "enumerate" = none
 n_int:mg "int" = none
 n_isinstance:mg "isinstance" = none
 n_len:mg "len" = none
 n_list:mg "list" = none
 n_max:mg "max" = none
 n_min:mg "min" = none
 n_range:mg "range" = none
 n_reversed:mg "reversed" = none
 n_sorted:mg "sorted" = none
 n_tuple:mg "tuple" = none
 t_MANY:Tok
 mg_MANY:mg "MANY" = some (.int 0 t_MANY)
 t_WAYS:Tok
 mg_WAYS:mg "WAYS" = some (.int 1 t_WAYS)
 t_START:Tok
 mg_START:mg "START" = some (.int 0 t_START)
 t_END:Tok
 mg_END:mg "END" = some (.int 1 t_END)
 t_CHANGE:Tok
 mg_CHANGE:mg "CHANGE" = some (.int 2 t_CHANGE)
 t_PLACE_spots:Tok
 mg_PLACE_spots:mg "PLACE_spots" = some (.int 0 t_PLACE_spots)
 t_LEVEL:Tok
 mg_LEVEL:mg "LEVEL" = some (.int 1 t_LEVEL)
 t_LEAST:Tok
 mg_LEAST:mg "LEAST" = some (.int 0 t_LEAST)
 t_GAIN:Tok
 mg_GAIN:mg "GAIN" = some (.int 1 t_GAIN)
 t_TOP:Tok
 mg_TOP:mg "TOP" = some (.int 2 t_TOP)
 t_TABLE:Tok
 mg_TABLE:mg "TABLE" = some (.int 0 t_TABLE)
 t_RISEN:Tok
 mg_RISEN:mg "RISEN" = some (.int 1 t_RISEN)
 t_FROM:Tok
 mg_FROM:mg "FROM" = some (.int 0 t_FROM)
 t_BY:Tok
 mg_BY:mg "BY" = some (.int 1 t_BY)
 t_NUMBERS:Tok
 mg_NUMBERS:mg "NUMBERS" = some (.int 0 t_NUMBERS)
 t_TIMES:Tok
 mg_TIMES:mg "TIMES" = some (.int 1 t_TIMES)
 t_PLACE_springs:Tok
 mg_PLACE_springs:mg "PLACE_springs" = some (.int 0 t_PLACE_springs)
 t_GIFT:Tok
 mg_GIFT:mg "GIFT" = some (.int 1 t_GIFT)
 t_BEGIN:Tok
 mg_BEGIN:mg "BEGIN" = some (.int 0 t_BEGIN)
 t_GOAL:Tok
 mg_GOAL:mg "GOAL" = some (.int 1 t_GOAL)
 f_is_whole:FT K mg "is_whole" B2x ["thing"]
 f_stepped:FT K mg "stepped" B2y ["store", "level", "change"]
 f_levels_along:FT K mg "levels_along" B2z ["store", "level", "changes"]
 f_is_place:FT K mg "is_place" B20 ["many", "thing"]
 f_changes_of:FT K mg "changes_of" A9q ["land", "numbers"]
 f_base_at:FT K mg "base_at" B21 ["many", "spot"]
 f_has_enough:FT K mg "has_enough" B22 ["table", "goal"]
 f_effect_of_none:FT K mg "effect_of_none" B23 ["store"]
 f_effect_of_one:FT K mg "effect_of_one" B24 ["store", "change"]
 f_effect_of:FT K mg "effect_of" B25 ["store", "changes"]
 f_passed:FT K mg "passed" B26 ["effect", "level"]
 f_joined:FT K mg "joined" B27 ["one", "other"]
 f_is_more:FT K mg "is_more" B28 ["one", "other"]
 f_behind_way:FT K mg "behind_way" B29 ["store", "table", "way"]
 f_first_row:FT K mg "first_row" B3a ["table"]
 f_row_behind:FT K mg "row_behind" B3b ["land", "store", "table", "stayed"]
 f_walk_to:FT K mg "walk_to" B3c ["land", "rows", "place"]
 f_behind_ways:FT K mg "behind_ways" B3d ["land", "place", "numbers"]
 f_behind_part:FT K mg "behind_part" B3e ["land", "place", "part"]
 f_end_of:FT K mg "end_of" B3f ["land", "place", "trip"]
 f_rows_from:FT K mg "rows_from" B3g ["land", "store", "table"]
 f_still_rises:FT K mg "still_rises" B3h ["land", "rows"]
 f_rising_walk:FT K mg "rising_walk" A9r ["land", "rows"]
 f_parted_at_round:FT K mg "parted_at_round" A9s ["land", "walk"]
 f_parts_by:FT K mg "parts_by" B3i ["numbers"]
 f_filling_parts:FT K mg "filling_parts" B3j ["land", "store", "level", "walk"]
 f_settled:FT K mg "settled" A9t ["land", "store", "base"]
 f_highest:FT K mg "highest" B3k ["land", "store", "base"]
 f_alone:FT K mg "alone" B3l ["number"]
 f_numbers_in:FT K mg "numbers_in" A9u ["springs", "some"]
 f_level_by_spring:FT K mg "level_by_spring" B3m ["store", "springs", "tables", "some", "number"]
 f_base_by:FT K mg "base_by" B3n ["store", "springs", "tables", "base", "some"]
 f_highest_by:FT K mg "highest_by" B3o ["land", "store", "springs", "base"]
 f_is_part:FT K mg "is_part" B3p ["one", "other"]
 f_needs_of:FT K mg "needs_of" A9v ["land", "store", "springs", "walker"]
 f_first_shares:FT K mg "first_shares" B3q ["needs", "used"]
 f_shared:FT K mg "shared" A9w ["land", "store", "springs", "walkers"]
 f_hand:FT K mg "_law_hand" B3r ["_law_script"]
 f_next:FT K mg "_law_next" B3s ["_law_hand_here"]
 f_take:FT K mg "_law_take" B3t ["_law_hand_here"]
 f_draw:FT K mg "_law_draw" B3u ["_law_hand_here", "_law_many"]
 f_change:FT K mg "_law_change" B3v ["_law_hand_here", "_law_scale"]
 f_land:FT K mg "_law_land" B3w ["_law_hand_here", "_law_places", "_law_ways", "_law_scale"]
 f_springs:FT K mg "_law_springs" B3x ["_law_hand_here", "_law_many", "_law_store", "_law_most"]
 f_by_sets:FT K mg "_law_by_sets" A9x ["_law_land_here", "_law_store", "_law_springs_here", "_law_base"]
 f_needs:FT K mg "_law_needs" A5u ["_law_land_here", "_law_store", "_law_springs_here", "_law_walker_here"]
 f_walker:FT K mg "_law_walker" B3y ["_law_hand_here", "_law_many", "_law_store"]
 f_law_is_whole:FT K mg "_law_is_whole" B3z ["_law_thing"]
 f_are_needs:FT K mg "_law_are_needs" A9y ["_law_thing"]
 f_all_shares:FT K mg "_law_all_shares" A9z ["_law_needs_here"]
 f_law:FT K mg "law" d8 ["_law_script"]
theorem C7j:E3 ["thing"] ["thing"] (C2 B2x):=⟨rfl,rfl,rfl,by decide +kernel,rfl,by decide +kernel,by decide +kernel⟩
theorem B9x:E3 ["store", "level", "change", "behind"] ["store", "level", "change"] (C2 B2y):=⟨rfl,rfl,rfl,by decide +kernel,rfl,by decide +kernel,by decide +kernel⟩
theorem A90:E3 ["store", "level", "changes", "levels", "change", "behind"] ["store", "level", "changes"] (C2 B2z):=⟨rfl,rfl,rfl,by decide +kernel,rfl,by decide +kernel,by decide +kernel⟩
theorem C7k:E3 ["many", "thing"] ["many", "thing"] (C2 B20):=⟨rfl,rfl,rfl,by decide +kernel,rfl,by decide +kernel,by decide +kernel⟩
theorem C7l:E3 ["land", "numbers"] ["land", "numbers"] (C2 A9q):=⟨rfl,rfl,rfl,by decide +kernel,rfl,by decide +kernel,by decide +kernel⟩
theorem B9y:E3 ["many", "spot", "base"] ["many", "spot"] (C2 B21):=⟨rfl,rfl,rfl,by decide +kernel,rfl,by decide +kernel,by decide +kernel⟩
theorem B9z:E3 ["table", "goal", "level"] ["table", "goal"] (C2 B22):=⟨rfl,rfl,rfl,by decide +kernel,rfl,by decide +kernel,by decide +kernel⟩
theorem C7m:E3 ["store"] ["store"] (C2 B23):=⟨rfl,rfl,rfl,by decide +kernel,rfl,by decide +kernel,by decide +kernel⟩
theorem C7n:E3 ["store", "change"] ["store", "change"] (C2 B24):=⟨rfl,rfl,rfl,by decide +kernel,rfl,by decide +kernel,by decide +kernel⟩
theorem A91:E3 ["store", "changes", "whole", "change"] ["store", "changes"] (C2 B25):=⟨rfl,rfl,rfl,by decide +kernel,rfl,by decide +kernel,by decide +kernel⟩
theorem C7o:E3 ["effect", "level"] ["effect", "level"] (C2 B26):=⟨rfl,rfl,rfl,by decide +kernel,rfl,by decide +kernel,by decide +kernel⟩
theorem B90:E3 ["one", "other", "least"] ["one", "other"] (C2 B27):=⟨rfl,rfl,rfl,by decide +kernel,rfl,by decide +kernel,by decide +kernel⟩
theorem C7p:E3 ["one", "other"] ["one", "other"] (C2 B28):=⟨rfl,rfl,rfl,by decide +kernel,rfl,by decide +kernel,by decide +kernel⟩
theorem B91:E3 ["store", "table", "way", "level"] ["store", "table", "way"] (C2 B29):=⟨rfl,rfl,rfl,by decide +kernel,rfl,by decide +kernel,by decide +kernel⟩
theorem C7q:E3 ["table"] ["table"] (C2 B3a):=⟨rfl,rfl,rfl,by decide +kernel,rfl,by decide +kernel,by decide +kernel⟩
theorem A5v:E3 ["land", "store", "table", "stayed", "higher", "risen", "number", "way", "level"] ["land", "store", "table", "stayed"] (C2 B3b):=⟨rfl,rfl,rfl,by decide +kernel,rfl,by decide +kernel,by decide +kernel⟩
theorem A5w:E3 ["land", "rows", "place", "here", "numbers", "row", "number"] ["land", "rows", "place"] (C2 B3c):=⟨rfl,rfl,rfl,by decide +kernel,rfl,by decide +kernel,by decide +kernel⟩
theorem A92:E3 ["land", "place", "numbers", "here", "number"] ["land", "place", "numbers"] (C2 B3d):=⟨rfl,rfl,rfl,by decide +kernel,rfl,by decide +kernel,by decide +kernel⟩
theorem B92:E3 ["land", "place", "part", "behind"] ["land", "place", "part"] (C2 B3e):=⟨rfl,rfl,rfl,by decide +kernel,rfl,by decide +kernel,by decide +kernel⟩
theorem A7l:E3 ["land", "place", "trip", "here", "at", "part"] ["land", "place", "trip"] (C2 B3f):=⟨rfl,rfl,rfl,by decide +kernel,rfl,by decide +kernel,by decide +kernel⟩
theorem A93:E3 ["land", "store", "table", "rows", "row"] ["land", "store", "table"] (C2 B3g):=⟨rfl,rfl,rfl,by decide +kernel,rfl,by decide +kernel,by decide +kernel⟩
theorem C7r:E3 ["land", "rows"] ["land", "rows"] (C2 B3h):=⟨rfl,rfl,rfl,by decide +kernel,rfl,by decide +kernel,by decide +kernel⟩
theorem B93:E3 ["land", "rows", "last"] ["land", "rows"] (C2 A9r):=⟨rfl,rfl,rfl,by decide +kernel,rfl,by decide +kernel,by decide +kernel⟩
theorem A7m:E3 ["land", "walk", "places", "end", "begin"] ["land", "walk"] (C2 A9s):=⟨rfl,rfl,rfl,by decide +kernel,rfl,by decide +kernel,by decide +kernel⟩
theorem C7s:E3 ["numbers"] ["numbers"] (C2 B3i):=⟨rfl,rfl,rfl,by decide +kernel,rfl,by decide +kernel,by decide +kernel⟩
theorem A01:E3 ["land", "store", "level", "walk", "parted", "ahead", "turn", "effect", "missing", "times", "levels"] ["land", "store", "level", "walk"] (C2 B3j):=⟨rfl,rfl,rfl,by decide +kernel,rfl,by decide +kernel,by decide +kernel⟩
theorem p9:E3 ["land", "store", "base", "table", "roads", "rows", "walk", "parts", "full", "road"] ["land", "store", "base"] (C2 A9t):=⟨rfl,rfl,rfl,by decide +kernel,rfl,by decide +kernel,by decide +kernel⟩
theorem C7t:E3 ["land", "store", "base"] ["land", "store", "base"] (C2 B3k):=⟨rfl,rfl,rfl,by decide +kernel,rfl,by decide +kernel,by decide +kernel⟩
theorem C7u:E3 ["number"] ["number"] (C2 B3l):=⟨rfl,rfl,rfl,by decide +kernel,rfl,by decide +kernel,by decide +kernel⟩
theorem C7v:E3 ["springs", "some"] ["springs", "some"] (C2 A9u):=⟨rfl,rfl,rfl,by decide +kernel,rfl,by decide +kernel,by decide +kernel⟩
theorem B94:E3 ["store", "springs", "tables", "some", "number", "level"] ["store", "springs", "tables", "some", "number"] (C2 B3m):=⟨rfl,rfl,rfl,by decide +kernel,rfl,by decide +kernel,by decide +kernel⟩
theorem A94:E3 ["store", "springs", "tables", "base", "some", "there", "number", "level"] ["store", "springs", "tables", "base", "some"] (C2 B3n):=⟨rfl,rfl,rfl,by decide +kernel,rfl,by decide +kernel,by decide +kernel⟩
theorem B30:E3 ["land", "store", "springs", "base", "tables", "some"] ["land", "store", "springs", "base"] (C2 B3o):=⟨rfl,rfl,rfl,by decide +kernel,rfl,by decide +kernel,by decide +kernel⟩
theorem C7w:E3 ["one", "other"] ["one", "other"] (C2 B3p):=⟨rfl,rfl,rfl,by decide +kernel,rfl,by decide +kernel,by decide +kernel⟩
theorem A95:E3 ["land", "store", "springs", "walker", "needs", "some", "table"] ["land", "store", "springs", "walker"] (C2 A9v):=⟨rfl,rfl,rfl,by decide +kernel,rfl,by decide +kernel,by decide +kernel⟩
theorem a9:E3 ["needs", "used", "some", "others"] ["needs", "used"] (C2 B3q):=⟨rfl,rfl,rfl,by decide +kernel,rfl,by decide +kernel,by decide +kernel⟩
theorem B31:E3 ["land", "store", "springs", "walkers", "needs", "sets"] ["land", "store", "springs", "walkers"] (C2 A9w):=⟨rfl,rfl,rfl,by decide +kernel,rfl,by decide +kernel,by decide +kernel⟩
theorem C7x:E3 ["_law_script"] ["_law_script"] (C2 B3r):=⟨rfl,rfl,rfl,by decide +kernel,rfl,by decide +kernel,by decide +kernel⟩
theorem C7y:E3 ["_law_hand_here"] ["_law_hand_here"] (C2 B3s):=⟨rfl,rfl,rfl,by decide +kernel,rfl,by decide +kernel,by decide +kernel⟩
theorem B32:E3 ["_law_hand_here", "_law_cell"] ["_law_hand_here"] (C2 B3t):=⟨rfl,rfl,rfl,by decide +kernel,rfl,by decide +kernel,by decide +kernel⟩
theorem A5x:E3 ["_law_hand_here", "_law_many", "_law_got", "_law_value", "_law_size"] ["_law_hand_here", "_law_many"] (C2 B3u):=⟨rfl,rfl,rfl,by decide +kernel,rfl,by decide +kernel,by decide +kernel⟩
theorem C7z:E3 ["_law_hand_here", "_law_scale"] ["_law_hand_here", "_law_scale"] (C2 B3v):=⟨rfl,rfl,rfl,by decide +kernel,rfl,by decide +kernel,by decide +kernel⟩
theorem A3c:E3 ["_law_hand_here", "_law_places", "_law_ways", "_law_scale", "_law_many", "_law_rows", "_law_k", "_law_start", "_law_end"] ["_law_hand_here", "_law_places", "_law_ways", "_law_scale"] (C2 B3w):=⟨rfl,rfl,rfl,by decide +kernel,rfl,by decide +kernel,by decide +kernel⟩
theorem A96:E3 ["_law_hand_here", "_law_many", "_law_store", "_law_most", "_law_springs_here", "_law_k", "_law_gift"] ["_law_hand_here", "_law_many", "_law_store", "_law_most"] (C2 B3x):=⟨rfl,rfl,rfl,by decide +kernel,rfl,by decide +kernel,by decide +kernel⟩
theorem d9:E3 ["_law_land_here", "_law_store", "_law_springs_here", "_law_base", "_law_found", "_law_todo", "_law_spot", "_law_place", "_law_level", "_law_some", "_law_start", "_law_end", "_law_change_here", "_law_k"] ["_law_land_here", "_law_store", "_law_springs_here", "_law_base"] (C2 A9x):=⟨rfl,rfl,rfl,by decide +kernel,rfl,by decide +kernel,by decide +kernel⟩
theorem A02:E3 ["_law_land_here", "_law_store", "_law_springs_here", "_law_walker_here", "_law_begin", "_law_goal", "_law_base", "_law_found", "_law_through", "_law_needs_here", "_law_some"] ["_law_land_here", "_law_store", "_law_springs_here", "_law_walker_here"] (C2 A5u):=⟨rfl,rfl,rfl,by decide +kernel,rfl,by decide +kernel,by decide +kernel⟩
theorem A97:E3 ["_law_hand_here", "_law_many", "_law_store", "_law_most", "_law_begin", "_law_goal"] ["_law_hand_here", "_law_many", "_law_store"] (C2 B3y):=⟨rfl,rfl,rfl,by decide +kernel,rfl,by decide +kernel,by decide +kernel⟩
theorem C70:E3 ["_law_thing"] ["_law_thing"] (C2 B3z):=⟨rfl,rfl,rfl,by decide +kernel,rfl,by decide +kernel,by decide +kernel⟩
theorem C71:E3 ["_law_thing"] ["_law_thing"] (C2 A9y):=⟨rfl,rfl,rfl,by decide +kernel,rfl,by decide +kernel,by decide +kernel⟩
theorem A3d:E3 ["_law_needs_here", "_law_lists", "_law_some", "_law_more", "_law_one", "_law_need"] ["_law_needs_here"] (C2 A9z):=⟨rfl,rfl,rfl,by decide +kernel,rfl,by decide +kernel,by decide +kernel⟩
theorem b5:E3 ["_law_script", "_law_hand_here", "_law_store", "_law_land_here", "_law_springs_here", "_law_walkers", "_law_k", "_law_handed", "_law_told", "_law_needs_here", "_law_lists", "_law_right"] ["_law_script"] (C2 d8):=⟨rfl,rfl,rfl,by decide +kernel,rfl,by decide +kernel,by decide +kernel⟩
section
variable {P:Program} {w:World} {K:A7} {mg:Str->Option Value} {base:Heap}
theorem C72 (T:Txt K mg):C9 P w K mg base CX0 1 T.f_hand.a T.f_hand.d ["_law_script"] (C4f K):=by
 refine T.f_hand.F.ok C7x (fun vs H Q E h=>?_) (fun cdv A outer s H vs Q E hr h=>?_)
 ·obtain⟨a,ns,rfl,_⟩:=h
  rfl
 ·obtain⟨a,ns,rfl,hS,k⟩:=h
  refine⟨_,(S3 (Y6 (B08 (B3 (l8 A1j rfl T.n_list j3 (B3 (A6t A6u (pv 0) A8s (A8t C8)) C6 B4) (he:=B4) (hpl:=A3)) (B3 C8 (B3 C8 (B3 C8 (B3 C8 (B3 C8 C6 E5) E5) E5) E5) E5) F4)))),?_⟩
  refine⟨_,rfl,_,rfl,a,_,rfl,hS,fun p1 h1=>⟨p1,_,rfl,.inl (SqL.of E7),fun l hl=>⟨(by show 6<=sizeLine;decide),fun p hp=>?_⟩⟩⟩
  have n1:p≠p1:=(W5 (H:=upd (upd H p1 _) l _) (by rw[B6 (W5 E7 hl)];exact E7) hp).symm
  have n2:p≠l:=(W5 (H:=upd (upd H p1 _) l _) E7 hp).symm
  have hp0:H p=none:=by rw[B6 n2,B6 n1] at hp;exact hp
  have hl0:H l=none:=by
   have nl:l≠p1:=(W5 E7 hl).symm
   rw[B6 nl] at hl;exact hl
  refine k p l _ hp0 hl0 ⟨(ns.drop (HT.sIx (ns.map V.int).length 0 none)).take (HT.sIx (ns.map V.int).length (ns.map V.int).length (some 63) - HT.sIx (ns.map V.int).length 0 none),0,0,0,20011,40009,?_,b9 _,E7⟩ (((Same.refl H).lay h1).lay hl |>.lay hp)
  rw[B6 n2.symm,E7]
  unfold c6
  rw[v6,List.map_drop]
theorem B95 (T:Txt K mg):C9 P w K mg base CX0 1 T.f_next.a T.f_next.d ["_law_hand_here"] C4g:=by
 refine T.f_next.F.ok C7y (fun vs H Q E h=>?_) (fun cdv A outer s H vs Q E hr h=>?_)
 ·obtain⟨a,l,rfl,_⟩:=h
  rfl
 ·obtain⟨a,l,rfl,⟨ns,p,b,c,u,v,hl,hp,ha⟩,k⟩:=h
  have ne:=A83 hl ha
  refine⟨_,(G4 (U8 (M8 i8 (M8 A3u (K4 M3 (pv 0) C8 (fun _ _=>rfl)) C8) C8) (W6 (pv 0) C8 U9))
   (G4 (U8 (M8 i8 (M8 A3u (K4 M3 (pv 0) C8 (fun _ _=>rfl)) C8) C8) (W6 (pv 0) C8 U9))
   (S3 (Y6 (M8 L6 (K4 M3 (pv 0) C8 (fun _ _=>rfl)) (K4 M3 (pv 0) C8 (fun _ _=>rfl))))))),?_⟩
  refine⟨_,rfl,a,_,_,_,rfl,rfl,SqL.of ha,rfl,_,_,rfl,rfl,.inr ⟨by decide,by decide⟩,_,_,rfl,rfl,(by first | decide | (dsimp only;decide)),_,rfl,a,_,_,_,rfl,rfl,ha,rfl,?_⟩
  refine⟨_,rfl,a,_,_,_,rfl,rfl,SqL.of E7,rfl,_,_,rfl,rfl,.inr ⟨by decide,by decide⟩,_,_,rfl,rfl,(by first | decide | (dsimp only;decide)),_,rfl,a,_,_,_,rfl,rfl,E7,rfl,?_⟩
  refine⟨_,rfl,a,_,_,_,rfl,rfl,SqL.of E7,rfl,_,rfl,a,_,_,_,rfl,rfl,SqL.of E7,rfl,_,_,rfl,rfl,?_⟩
  exact k _ _ ⟨ns,p,b,c,_,_,by rw[B6 ne,B6 ne];exact hl,hp,E7⟩ fun b o e nb=>by rw[B6 nb,B6 nb];exact e
theorem C73 (T:Txt K mg):C9 P w K mg base CX0 2 T.f_take.a T.f_take.d ["_law_hand_here"] C4h:=by
 have G_next:=@B95 P w K mg base T
 have b_next:=T.f_next.b
 refine T.f_take.F.ok B32 (fun vs H Q E h=>?_) (fun cdv A outer s H vs Q E hr h=>?_)
 ·obtain⟨a,l,rfl,_⟩:=h
  rfl
 ·obtain⟨a,l,rfl,⟨ns,p,b,c,u,v,hl,hp,ha⟩,k⟩:=h
  have ne:=A83 hl ha
  refine⟨_,(G4 (C0 (i:=1) B32.nd rfl (A8 rfl) C8)
   (G4 (A0a (l5 (W8 x8 (K4 M3 (pv 0) C8 (fun _ _=>rfl)) (F8 S5 rfl T.n_len S7 (B3 (K4 M3 (pv 0) C8 (fun _ _=>rfl)) C6 B4) (he:=B4) (hpl:=A3)) (D0 _))
   (S3 (C0 (i:=1) B32.nd rfl (A8 rfl) (F8 C2z rfl T.n_abs C3y (B3 (K4 M3 (K4 M3 (pv 0) C8 (fun _ _=>rfl)) (K4 M3 (pv 0) C8 (fun _ _=>rfl)) (fun _ _=>rfl)) C6 B4) (he:=B4) (hpl:=A3))))
   w6))
   (G4 (B5t (pv 0) C8 B6u C8 C2m U9)
   (G4 (A0a (l5 (W8 A8o (pv 1) (M8 A6r C8 C8) (D0 _))
   (S3 (U8 (pv 1) (W6 (pv 0) C8 U9)))
   (S3 (U8 C8 (W6 (pv 0) C8 U9)))))
   (G4 (U8 (M8 L6 (M8 i8 (M8 L6 (K4 M3 (pv 0) C8 (fun _ _=>rfl)) (M8 i8 (pv 1) C8)) C8) C8) (W6 (pv 0) C8 U9))
   (G4 (U8 (M8 L6 (M8 i8 (M8 L6 (M8 A3u (K4 M3 (pv 0) C8 (fun _ _=>rfl)) C8) (M8 i8 (pv 1) C8)) C8) C8) (W6 (pv 0) C8 U9))
   (G4 (S4 (B7 G_next (hr.mono (by decide)) rfl T.f_next.m T.f_next.F.kp b_next .nil B8 (B3 (pv 0) C6 A0) (he:=A0) (hpl:=A3)))
   (S3 (S4 (B7 G_next (hr.mono (by decide)) rfl T.f_next.m T.f_next.F.kp b_next .nil B8 (B3 (pv 0) C6 A0) (he:=A0) (hpl:=A3))))))))))),?_⟩
  refine⟨fun σ H1=>H=H1/\∃z:Int,σ=[some (.ref a),some (.int z)],?_,?_⟩
  ·refine⟨_,rfl,a,_,_,_,rfl,rfl,SqL.of ha,rfl,_,rfl,a,_,_,_,rfl,rfl,SqL.of ha,rfl,l,_,rfl,.inl (SqL.of hl),_,_,rfl,rfl,_,rfl,?_⟩
   refine A3x (fun hlt=>?_) (fun _=>⟨rfl,_,rfl⟩)
   have hlt':p < (ns.length:Int):=by simpa using hlt
   obtain⟨z,hz⟩:=C4e hp hlt'
   exact⟨_,rfl,a,_,_,_,rfl,rfl,SqL.of ha,rfl,_,rfl,a,_,_,_,rfl,rfl,SqL.of ha,rfl,l,_,_,_,rfl,rfl,SqL.of hl,hz,_,rfl,rfl,_,rfl⟩
  ·rintro σ H1 ⟨rfl,z,rfl⟩
   refine⟨_,rfl,a,_,_,_,rfl,rfl,(by first | decide | (dsimp only;decide)),SqL.of ha,rfl,_,_,rfl,rfl,a,_,_,_,rfl,rfl,ha,rfl,?_⟩
   refine⟨fun σ H1=>σ=[some (.ref a),some (.int z)]/\Hd H1 a l/\Kp a H H1,?_,?_⟩
   ·refine⟨_,rfl,_,_,rfl,rfl,⟨by decide,by decide,by decide⟩,_,_,rfl,rfl,_,rfl,?_⟩
    refine A3x (fun _=>?_) (fun _=>?_)
    ·refine⟨_,rfl,_,rfl,a,_,_,_,rfl,rfl,E7,rfl,rfl,⟨ns,p + 1,_,_,_,_,by rw[B6 ne,B6 ne];exact hl,by omega,E7⟩,fun b o e nb=>by rw[B6 nb,B6 nb];exact e⟩
    ·refine⟨_,rfl,a,_,_,_,rfl,rfl,E7,rfl,rfl,⟨ns,p + 1,_,_,_,_,by rw[B6 ne,B6 ne];exact hl,by omega,E7⟩,fun b o e nb=>by rw[B6 nb,B6 nb];exact e⟩
   ·rintro σ H1 ⟨rfl,⟨ns,p,b,c,u,v,hl,hp,ha⟩,k1⟩
    have ne:=A83 hl ha
    refine⟨_,rfl,a,_,_,_,rfl,rfl,SqL.of ha,rfl,_,rfl,_,_,rfl,rfl,(by first | decide | (dsimp only;decide)),_,_,rfl,rfl,_,_,rfl,rfl,(by first | decide | (dsimp only;decide)),_,_,rfl,rfl,_,rfl,a,_,_,_,rfl,rfl,ha,rfl,?_⟩
    refine⟨_,rfl,a,_,_,_,rfl,rfl,SqL.of E7,rfl,_,_,rfl,rfl,.inr ⟨by decide,by decide⟩,_,rfl,_,_,rfl,rfl,(by first | decide | (dsimp only;decide)),_,_,rfl,rfl,_,_,rfl,rfl,(by first | decide | (dsimp only;decide)),_,_,rfl,rfl,_,rfl,a,_,_,_,rfl,rfl,E7,rfl,?_⟩
    refine⟨_,rfl,a,l,rfl,⟨ns,p,_,_,_,_,by rw[B6 ne,B6 ne];exact hl,hp,E7⟩,fun r H2 h2 k2=>?_⟩
    refine⟨_,rfl,a,l,rfl,h2,fun r H3 h3 k3=>?_⟩
    exact k H3 h3 (((k1.trans fun b o e nb=>by rw[B6 nb,B6 nb];exact e).trans k2).trans k3)
theorem C74 (T:Txt K mg):C9 P w K mg base CX0 3 T.f_draw.a T.f_draw.d ["_law_hand_here", "_law_many"] C4i:=by
 have G_next:=@B95 P w K mg base T
 have G_take:=@C73 P w K mg base T
 have b_next:=T.f_next.b
 have b_take:=T.f_take.b
 refine T.f_draw.F.ok A5x (fun vs H Q E h=>?_) (fun cdv A outer s H vs Q E hr h=>?_)
 ·obtain⟨a,l,m,rfl,_⟩:=h
  rfl
 ·obtain⟨a,l,m,rfl,hd,hm0,hm1,k⟩:=h
  refine⟨_,(G4 (A0a (l5 (PW.pt (B5q (W8 B51 (K4 M3 (pv 0) C8 (fun _ _=>rfl)) C8 (D0 _)) (B5p (W8 B51 (K4 M3 (pv 0) C8 (fun _ _=>rfl)) C8 (D0 _)))))
   (S3 (S4 (B7 G_take (hr.mono (by decide)) rfl T.f_take.m T.f_take.F.kp b_take .nil B8 (B3 (pv 0) C6 A0) (he:=A0) (hpl:=A3))))
   w6))
   (G4 (A0a (l5 (W8 A1g (K4 M3 (pv 0) C8 (fun _ _=>rfl)) C8 (D0 _))
   (G4 (C0 (i:=2) A5x.nd rfl (A8 rfl) (M8 i8 (K4 M3 (pv 0) C8 (fun _ _=>rfl)) (pv 1)))
   (G4 (U8 (M8 B1l (K4 M3 (pv 0) C8 (fun _ _=>rfl)) (pv 1)) (W6 (pv 0) C8 U9))
   (S3 (Y6 (pv 2)))))
   w6))
   (G4 (B5t (pv 0) C8 B6u C8 C2n U9)
   (G4 (C0 (i:=3) A5x.nd rfl (A8 rfl) (B7 G_next (hr.mono (by decide)) rfl T.f_next.m T.f_next.F.kp b_next .nil B8 (B3 (pv 0) C6 A0) (he:=A0) (hpl:=A3)))
   (G4 (C0 (i:=4) A5x.nd rfl (A8 rfl) C8)
   (G4 (A6n M0 (W8 x8 (pv 4) (pv 1) (D0 _))
   (G4 (C0 (i:=3) A5x.nd rfl (A8 rfl) (M8 L6 (M8 A3u (pv 3) C8) (B7 G_next (hr.mono (by decide)) rfl T.f_next.m T.f_next.F.kp b_next .nil B8 (B3 (pv 0) C6 A0) (he:=A0) (hpl:=A3))))
   (S3 (C0 (i:=4) A5x.nd rfl (A8 rfl) (M8 A3u (pv 4) C8)))))
   (S3 (Y6 (M8 i8 (pv 3) (pv 1)))))))))),?_⟩
  refine⟨fun σ H1=>σ=[some (.ref a),some (.int m),none,none,none]/\Hd H1 a l/\Kp a H H1,?_,?_⟩
  ·obtain⟨ns,p,b,c,u,v,hl,hp,ha⟩:=id hd
   refine⟨_,rfl,a,_,_,_,rfl,rfl,SqL.of ha,rfl,rfl,_,rfl,?_⟩
   refine A3x (fun _=>?_) (fun _=>M4 ⟨rfl,hd,.refl a H⟩)
   refine⟨_,rfl,a,_,_,_,rfl,rfl,SqL.of ha,rfl,rfl,_,rfl,?_⟩
   refine A3x (fun _=>?_) (fun _=>⟨rfl,hd,.refl a H⟩)
   exact⟨_,rfl,a,l,rfl,hd,fun H1 h1 k1=>⟨rfl,h1,k1⟩⟩
  ·rintro σ H1 ⟨rfl,⟨ns,p,b,c,u,v,hl,hp,ha⟩,k1⟩
   have ne:=A83 hl ha
   refine⟨fun σ H2=>H1=H2/\σ=[some (.ref a),some (.int m),none,none,none],?_,?_⟩
   ·refine⟨_,rfl,a,_,_,_,rfl,rfl,SqL.of ha,rfl,_,_,rfl,rfl,_,rfl,?_⟩
    refine A3x (fun _=>?_) (fun _=>⟨rfl,rfl⟩)
    refine⟨_,rfl,a,_,_,_,rfl,rfl,SqL.of ha,rfl,_,rfl,_,_,rfl,rfl,hm0,?_⟩
    refine⟨_,rfl,a,_,_,_,rfl,rfl,SqL.of ha,rfl,_,rfl,_,_,rfl,rfl,⟨hm0,hm1⟩,_,rfl,a,_,_,_,rfl,rfl,ha,rfl,?_⟩
    refine⟨_,rfl,?_⟩
    exact k _ _ (B5g _ (by omega)) (B5h _ hm0) ⟨ns,p,_,_,_,_,by rw[B6 ne];exact hl,hp,E7⟩ (k1.trans fun b o e nb=>by rw[B6 nb];exact e)
   ·rintro σ H2 ⟨rfl,rfl⟩
    refine⟨_,rfl,a,_,_,_,rfl,rfl,(by first | decide | (dsimp only;decide)),SqL.of ha,rfl,_,_,rfl,rfl,a,_,_,_,rfl,rfl,ha,rfl,?_⟩
    refine⟨_,rfl,a,l,rfl,⟨ns,p,_,_,_,_,by rw[B6 ne];exact hl,hp,E7⟩,fun r H3 h3 k3=>?_⟩
    have k3':Kp a H H3:=(k1.trans fun b o e nb=>by rw[B6 nb];exact e).trans k3
    refine C2t (fun σ H4=>∃(val sz:Int),σ=[some (.ref a),some (.int m),none,some (.int val),some (.int sz)]/\Hd H4 a l/\Kp a H H4/\0 < sz)
     (fun σ _=>match σ with | [_,_,_,_,some (.int sz)]=>(m - sz).toNat | _=>0) ⟨r,4294967296,rfl,h3,k3',by decide⟩ ?_ (fun σ H Q Q' f ⟨v,e1,u,e2,i,j,e3,e4,c,e5,q⟩=>⟨v,e1,u,e2,i,j,e3,e4,c,e5,f _ _ q⟩)
    rintro σ H4 ⟨val,sz,rfl,h4,k4,hsz⟩
    refine⟨_,rfl,_,rfl,_,_,rfl,rfl,_,rfl,?_⟩
    refine A3x (fun hlt=>?_) (fun _=>?_)
    ·have hlt':sz < m:=by simpa using hlt
     refine⟨_,rfl,_,_,rfl,rfl,.inr ⟨by decide,by decide⟩,_,rfl,a,l,rfl,h4,fun r H5 h5 k5=>⟨_,_,rfl,rfl,?_⟩⟩
     refine⟨_,rfl,_,_,rfl,rfl,.inr ⟨by decide,by decide⟩,?_⟩
     refine⟨⟨_,sz * 4294967296,rfl,h5,k4.trans k5,by omega⟩,?_⟩
     show (m - sz * 4294967296).toNat < (m - sz).toNat
     omega
    ·refine⟨_,rfl,_,rfl,_,_,rfl,rfl,hm0,?_⟩
     exact k _ _ (B5g _ (by omega)) (B5h _ hm0) h4 k4
end
def mqB:List Lean.Name:=[``A2s,``V9,``A0j,``n9,``dOp,``A0b,``A2v,``dT,``A2u,``A4a,``dCb,``A14,``A13,``dC,``dF,``A16,``A15,``A1v,``A1p,``A1q,``dOr,``A1r,``A1s,``A1t,``dBV,``dIf,``m6,``dIx,``A17,``A18,``A2f,``A2g,``A2i,``dSl,``A2j,``A2l,``A2m,``A36,``A2q,``A2n,``aV,``aS,``N6,``arD,``n5,``N4,``A4o,``ixD,``lenD,``K8,``j5,``gI,``gI0,``A1x,``A1y,``A1z,``A10,``A11,``A12,``gLt,``gLe,``gGt,``gGe,``gEq,``j4,``isN,``A0f,``A19,``A2a,``gI2,``A34,``A0g,``A2d,``A2e,``A2t,``A2z,``A0k,``A2w,``A2x,``gN,``gT2,``gT3,``gT5,``A4q,``A0l,``A4r,``A4s,``A4t,``A4u,``A4v,``Z3,``A4p,``A2y,``gIn,``gB2,``oN,``oS,``X2,``W0,``A4c,``A4d,``A4e,``A4f,``A4g,``A4h,``V0,``tyD,``A75,``A76,``A77,``A3k,``A6k,``A78,``F3,``c5,``A79,``A8a,``A3j,``Q1,``A4i,``A4j,``A4k,``A4l,``A4m,``A4n,``v8,``A6i,``A28,``A4w,``A0v,``A45,``A5n,``A5o,``A5p,``A00,``arF,``A5q,``A5s,``A5t,``A5r,``A3b,``A47,``A2o,``A48,``A49,``X5,``A5a,``A5b,``A5c,``A5d,``A5e,``A5l,``N8,``A5f,``d5,``A5h,``A5i,``A5j,``aW,``A5k,``A5m,``A0z,``arS,``A23,``A0q,``A27,``A0s,``A0t,``A42,``A43,``A0u,``A44,``roN,``A0m,``gOr,``A24,``A25]
def mqT(s:List Lean.Name):Lean.MacroM (Lean.TSyntax `tactic):=do
 let a:=(s++mqB).toArray.map fun x=>Lean.mkCIdent x
 `(tactic|try dsimp only[$[$a:ident],*])
local macro_rules|`(tactic|left)=>mqT []
local macro_rules|`(tactic|array_get_dec)=>mqT [``B14,``dIl,``dIv,``dIt,``B10,``B7s,``B11,``B17,``dIL,``B9r,``B9v,``B9t,``B9u]
local macro_rules|`(tactic|sizeOf_list_dec)=>mqT [``Blk]
theorem K3 {k:Nat} {A:Around} (hr:P8 k A):A.units + 64 < cLine:=hr.units
def C75:DSp:=fun ds Q=>∃m:Int,ds=[.none,.int m]/\0 < m/\m < 100000000000000000000000000000000000000000000000000000000000000/\∀r:Int,0<=r->r < m->Q (.int r)
theorem C76 {F:Addr->Prop} {hand:Option (Addr×Addr)} {H:Hp} {vs:List V} {ds:List PyData} {ms:List Md} (a:V1 F hand H (.hd::ms) vs ds):∃q vs' d ds',hand=some q/\vs=.ref q.1::vs'/\ds=d::ds'/\V1 F hand H ms vs' ds':=by
 cases a with
 | cons x t=>
  obtain⟨q,e,rfl⟩:=x
  exact⟨q,_,_,_,e,rfl,rfl,t⟩
section
variable {P:Program} {w:World} {K:A7} {mg:Str->Option Value} {base:Heap}
theorem A7n (T:Txt K mg):C9 P w K mg base CX0 3 T.f_draw.a T.f_draw.d ["_law_hand_here", "_law_many"] (spD [.hd,.sh] C75):=(C74 T).imp fun vs H Q E h=>by
 obtain⟨F,hand,ds,Qd,h1,h2,h3,a,⟨m,rfl,m0,m1,hr⟩,h5⟩:=h
 obtain⟨q,vs',d,ds',e,rfl,e2,a⟩:=C76 a
 cases e2
 subst e
 cases a with
 | cons x t=>
  cases t
  cases (show ThV F H _ (.int m) from x)
  exact⟨q.1,q.2,m,rfl,h3 q rfl,m0,m1,fun r H' r0 r1 hd kp=>h5 _ _ _ (hr r r0 r1) (.int r) (fun b o eb n=>kp b o eb (n q rfl)) fun q' e'=>by cases e';exact hd⟩
end
def oD:Option Int->PyData
 | none=>.none
 | some i=>.int i
def onD:Option Nat->PyData
 | none=>.none
 | some n=>.int (n:Nat)
def R8 (ns:List Int):List PyData:=ns.map PyData.int
def D6 (t:Tb):List PyData:=t.map oD
def rnL (t:Rn):List PyData:=t.map onD
def R9 (r:Rw):PyData:=.tuple [.list (D6 r.1),.list (rnL r.2)]
def T1 (w:Wy):PyData:=.tuple [.int (w.1:Nat),.int (w.2.1:Nat),.int w.2.2]
def E8 (m:Nat) (ws:List Wy):PyData:=.tuple [.int (m:Nat),.list (ws.map T1)]
def X6:Ef->PyData
 | none=>.none
 | some (l,g,t)=>.tuple [.int l,.int g,.int t]
def numL (ns:List Nat):List PyData:=ns.map fun n=>.int (n:Nat)
def X7 (p:List Nat×Int):PyData:=.tuple [.list (numL p.1),.int p.2]
local macro_rules|`(tactic|right)=>mqT [``oD,``onD,``X6,``R9,``E8,``T1,``X7,``N7]
local macro_rules|`(tactic|array_mem_dec)=>mqT [``B14,``dIl,``dIv,``dIt,``B10,``B7s,``B11,``B17,``dIL,``B9r,``B9v,``B9t,``B9u,``oD,``onD,``X6,``R9,``E8,``T1,``X7,``N7]
local macro_rules|`(tactic|decreasing_trivial_pre_omega)=>mqT [``Blk,``oD,``onD,``X6,``R9,``E8,``T1,``X7,``N7]
theorem A03 {t:Tb} {p:Nat} (h:p < t.length):atI (D6 t) ((p:Nat):Int)=some (oD (gt t p)):=j0 (by unfold D6;rw[O7,A7d h];rfl)
theorem B96 {t:Rn} {p:Nat} (h:p < t.length):atI (rnL t) ((p:Nat):Int)=some (onD (gt t p)):=j0 (by unfold rnL;rw[O7,A7d h];rfl)
theorem A98 {ws:List Wy} {n:Nat} {w:Wy} (h:ws[n]?=some w):atI (ws.map T1) ((n:Nat):Int)=some (T1 w):=j0 (by rw[O7,h];rfl)
theorem A5y {n j:Nat} (h:j < n):ixN n ((j:Nat):Int)=some j:=by
 unfold ixN
 rw[if_pos (by omega),if_pos (by omega)]
 simp
theorem A99 {α:Type} {xs:List α} {x:α} (h:xs.getLast?=some x):atI xs (-1)=some x:=by
 obtain⟨ys,rfl⟩:=C1q.mp h
 exact B6d ys x
def C77:DSp:=fun ds Q=>∃st lv ch:Int,ds=[.int st,.int lv,.int ch]/\Q (oD (E4 st lv ch))
def C78:DSp:=fun ds Q=>∃(st lv:Int) (cs:List Int),ds=[.int st,.int lv,.list (R8 cs)]/\cs.length<=900/\Q (.list (R8 (L3 st lv cs)))
def C79:DSp:=fun ds Q=>∃st:Int,ds=[.int st]/\Q (X6 (some (0,0,st)))
def C8a:DSp:=fun ds Q=>∃st c:Int,ds=[.int st,.int c]/\Q (X6 (Z5 st c))
def C8b:DSp:=fun ds Q=>∃(e:Ef) (x:Int),ds=[X6 e,.int x]/\Q (oD (K2 e x))
def C8c:DSp:=fun ds Q=>∃a b:Ef,ds=[X6 a,X6 b]/\Q (X6 (V4 a b))
def C8d:DSp:=fun ds Q=>∃(st:Int) (cs:List Int),ds=[.int st,.list (R8 cs)]/\Q (X6 (fxF st cs))
def A5z (d:PyData):Bool:=V0 "int" d&&!V0 "bool" d
def B33:DSp:=fun ds Q=>∃d,ds=[d]/\Q (.bool (A5z d))
def C8e:DSp:=fun ds Q=>∃(m:Int) (n:Int),ds=[.int m,.int n]/\Q (.bool (decide (0<=n/\n < m)))
def C8f:DSp:=fun ds Q=>∃a b:Option Int,ds=[oD a,oD b]/\Q (.bool (R7 a b))
def C8g:DSp:=fun ds Q=>∃(st:Int) (t:Tb) (w:Wy),ds=[.int st,.list (D6 t),T1 w]/\w.1 < t.length/\Q (oD (K9 st t w))
section
variable {P:Program} {w:World} {K:A7} {mg:Str->Option Value} {base:Heap}
theorem B34 (T:Txt K mg):C9 P w K mg base CX0 1 T.f_stepped.a T.f_stepped.d ["store", "level", "change"] (spD [.sh,.sh,.sh] C77):=by
 refine F2 T.f_stepped.F B9x rfl (fun C cdv A outer s H E hr=>⟨_,(@F0 _ _ _ _ _ _ (E2 (C0 (i:=3) B9x.nd rfl (A8 rfl) (E9 L6 P9 (A1 (pv 1)) (A1 (pv 2))))) (F0 (K6 (F6 x8 A64 (A1 (pv 3)) B0 (D0 _))
   (B1 (D7 G0))
   K5)
   (B1 (D7 (S8 A2b (F8 (A1h rfl) rfl T.n_min A1m (A5 (A1 (pv 3)) (A5 (A1 (pv 0)) C1 A0) A0) (he:=A0) (hpl:=(A4 A0 A3)))))))),fun ds Q hl h=>?_⟩)
 obtain⟨st,lv,ch,rfl,q⟩:=h
 left
 unfold E4 at q
 by_cases c:lv + ch < 0
 ·rw[decide_eq_true c,if_pos rfl]
  rw[if_pos c] at q;exact q
 ·rw[decide_eq_false c,if_neg G6]
  rw[if_neg c] at q;exact q
theorem C8h (T:Txt K mg):C9 P w K mg base CX0 1 T.f_is_whole.a T.f_is_whole.d ["thing"] (spD [.sh] B33):=by
 refine F2 T.f_is_whole.F C7j rfl (fun C cdv A outer s H E hr=>⟨_,(@B1 _ _ _ _ (@D7 _ _ _ _ _ (@A30 _ _ _ _ _ _ _ _ (A67 B7n (F8 A6z rfl T.n_isinstance A1n (B3 (pv 0) (B3 (A1d (v:=V.ty "int") rfl T.n_int A80 rfl) C6 A0) A0) (he:=A0) (hpl:=(A4 A0 A3)))) (A1u (B64 (A67 B7o (F8 A6z rfl T.n_isinstance A1n (B3 (pv 0) (B3 (A1d (v:=V.ty "bool") rfl T.n_bool B6w rfl) C6 A0) A0) (he:=A0) (hpl:=(A4 A0 A3))))))))),fun ds Q hl h=>?_⟩)
 obtain⟨d,rfl,q⟩:=h
 left
 unfold A5z at q
 cases d <;> exact q
theorem C8i (T:Txt K mg):C9 P w K mg base CX0 2 T.f_is_place.a T.f_is_place.d ["many", "thing"] (spD [.sh,.sh] C8e):=by
 have G_is_whole:=@C8h P w K mg base T
 have b_is_whole:=T.f_is_whole.b
 refine F2 T.f_is_place.F C7k rfl (fun C cdv A outer s H E hr=>⟨_,(B1 (D7 (A30 (C5 (B7 G_is_whole (hr.mono (by decide)) rfl T.f_is_whole.m T.f_is_whole.F.kp b_is_whole .nil B8 (A2 (A1 (pv 1)) C4 A0) (he:=A0) (hpl:=A3))) (A1u (C4l B05 x8 B0 (A1 (pv 1)) (A1 (pv 0))))))),fun ds Q hl h=>?_⟩)
 obtain⟨m,n,rfl,q⟩:=h
 left
 refine⟨_,rfl,?_⟩
 left
 by_cases c:0<=n
 ·by_cases c2:n < m
  ·simpa [c,c2,A5z,V0,tyD,B33] using q
  ·simpa [c,c2,A5z,V0,tyD] using q
 ·simpa [c,A5z,V0,tyD] using q
theorem B97 (T:Txt K mg):C9 P w K mg base CX0 1 T.f_is_more.a T.f_is_more.d ["one", "other"] (spD [.sh,.sh] C8f):=by
 refine F2 T.f_is_more.F C7p rfl (fun C cdv A outer s H E hr=>⟨_,(B1 (D7 (A30 (c8 l7 m7 (A1 (pv 0)) G0 (D0 _)) (A1u (C4j (c8 l6 A0e (A1 (pv 1)) G0 (D0 _)) (A1u (c8 A1g A32 (A1 (pv 0)) (A1 (pv 1)) (D0 _)))))))),fun ds Q hl h=>?_⟩)
 obtain⟨a,b,rfl,q⟩:=h
 cases a with
 | none=>
  left
  exact q
 | some x=>
  cases b with
  | none=>
   left
   exact q
  | some y=>
   left
   exact q
theorem C8j (T:Txt K mg):C9 P w K mg base CX0 2 T.f_behind_way.a T.f_behind_way.d ["store", "table", "way"] (spD [.sh,.sh,.sh] C8g):=by
 have G_stepped:=@B34 P w K mg base T
 have b_stepped:=T.f_stepped.b
 refine F2 T.f_behind_way.F B91 rfl (fun C cdv A outer s H E hr=>⟨_,(@F0 _ _ _ _ _ _ (E2 (C0 (i:=3) B91.nd rfl (A8 rfl) (B5 (pv 1) (B5 (pv 2) (D4 (D3 (v:=V.int 0) rfl T.mg_START ⟨_,rfl⟩)) (fun _ _=>rfl)) (fun _ _=>rfl)))) (@F0 _ _ _ _ _ _ (K6 (F6 l6 A0e (A1 (pv 3)) G0 (D0 _))
   (B1 (D7 G0))
   K5) (B1 (D7 (C5 (B7 G_stepped (hr.mono (by decide)) rfl T.f_stepped.m T.f_stepped.F.kp b_stepped .nil B8 (A2 (A1 (pv 0)) (A2 (A1 (pv 3)) (A2 (B5 (pv 2) (D4 (D3 (v:=V.int 2) rfl T.mg_CHANGE ⟨_,rfl⟩)) (fun _ _=>rfl)) C4 B4) A0) A0) (he:=A0) (hpl:=(A4 A0 (A4 B4 A3))))))))),fun ds Q hl h=>?_⟩)
 obtain⟨st,t,w,rfl,hw,q⟩:=h
 right
 rw[A03 hw]
 unfold K9 at q
 cases e:gt t w.1 with
 | none=>
  rw[e] at q
  right
  exact q
 | some l=>
  rw[e] at q
  right
  exact⟨_,_,_,rfl,q⟩
theorem C8k (T:Txt K mg):C9 P w K mg base CX0 1 T.f_passed.a T.f_passed.d ["effect", "level"] (spD [.sh,.sh] C8b):=by
 refine F2 T.f_passed.F C7o rfl (fun C cdv A outer s H E hr=>⟨_,(@F0 _ _ _ _ _ _ (K6 (PW.pt (A62 (F6 l6 A0e (A1 (pv 0)) G0 (D0 _)) (A85 (F6 x8 A64 (A1 (pv 1)) (B5 (pv 0) (D4 (D3 (v:=V.int 0) rfl T.mg_LEAST ⟨_,rfl⟩)) (fun _ _=>rfl)) (D0 _)))))
   (B1 (D7 G0))
   K5) (B1 (D7 (S8 A2b (F8 (A1h rfl) rfl T.n_min A1m (A5 (E9 L6 P9 (A1 (pv 1)) (B5 (pv 0) (D4 (D3 (v:=V.int 1) rfl T.mg_GAIN ⟨_,rfl⟩)) (fun _ _=>rfl))) (A5 (B5 (pv 0) (D4 (D3 (v:=V.int 2) rfl T.mg_TOP ⟨_,rfl⟩)) (fun _ _=>rfl)) C1 B4) F7) (he:=F7) (hpl:=(A4 B4 A3))))))),fun ds Q hl h=>?_⟩)
 obtain⟨e,x,rfl,q⟩:=h
 rcases e with _ | ⟨l,g,t⟩
 ·right
  exact q
 ·unfold K2 at q
  dsimp only at q
  right
  by_cases c:x < l
  ·rw[if_pos c] at q
   simp only[c,decide_true,if_true]
   exact q
  ·rw[if_neg c] at q
   simp only[c,decide_false,M7,if_false]
   exact q
theorem C8l (T:Txt K mg):C9 P w K mg base CX0 2 T.f_joined.a T.f_joined.d ["one", "other"] (spD [.sh,.sh] C8c):=by
 have G_passed:=@C8k P w K mg base T
 have b_passed:=T.f_passed.b
 refine F2 T.f_joined.F B90 rfl (fun C cdv A outer s H E hr=>⟨_,(@F0 _ _ _ _ _ _ (@K6 _ _ _ _ _ _ _ _ _ (PW.pt (A62 (F6 l6 A0e (A1 (pv 0)) G0 (D0 _)) (A62 (F6 l6 A0e (A1 (pv 1)) G0 (D0 _)) (A85 (F6 x8 A64 (B5 (pv 0) (D4 (D3 (v:=V.int 2) rfl T.mg_TOP ⟨_,rfl⟩)) (fun _ _=>rfl)) (B5 (pv 1) (D4 (D3 (v:=V.int 0) rfl T.mg_LEAST ⟨_,rfl⟩)) (fun _ _=>rfl)) (D0 _)))))) (B1 (D7 G0)) K5) (@F0 _ _ _ _ _ _ (@E2 _ _ _ _ _ (@C0 _ _ 2 _ _ _ _ B90.nd rfl (A8 rfl) (@S8 _ _ _ _ _ _ B7f (@F8 _ _ _ _ _ _ _ _ _ (B53 rfl) rfl T.n_max B6v (A5 (B5 (pv 0) (D4 (D3 (v:=V.int 0) rfl T.mg_LEAST ⟨_,rfl⟩)) (fun _ _=>rfl)) (A5 (E9 A8m A86 (B5 (pv 1) (D4 (D3 (v:=V.int 0) rfl T.mg_LEAST ⟨_,rfl⟩)) (fun _ _=>rfl)) (B5 (pv 0) (D4 (D3 (v:=V.int 1) rfl T.mg_GAIN ⟨_,rfl⟩)) (fun _ _=>rfl))) C1 F7) B4) (by decide) (by decide) B4 ((A4 F7 A3)))) (by rfl) (by first | exact .inl rfl | exact .inr rfl | assumption))) (@B1 _ _ _ _ (@D7 _ _ _ _ _ (@O3 _ _ _ _ _ _ (@A5 _ _ _ _ _ _ (A1 (pv 2)) (@A5 _ _ _ _ _ _ (E9 L6 P9 (B5 (pv 0) (D4 (D3 (v:=V.int 1) rfl T.mg_GAIN ⟨_,rfl⟩)) (fun _ _=>rfl)) (B5 (pv 1) (D4 (D3 (v:=V.int 1) rfl T.mg_GAIN ⟨_,rfl⟩)) (fun _ _=>rfl))) (A5 (C5 (B7 G_passed (hr.mono (by decide)) rfl T.f_passed.m T.f_passed.F.kp b_passed .nil B8 (A2 (A1 (pv 1)) (A2 (B5 (pv 0) (D4 (D3 (v:=V.int 2) rfl T.mg_TOP ⟨_,rfl⟩)) (fun _ _=>rfl)) C4 B4) A0) (he:=A0) (hpl:=(A4 B4 A3)))) C1 F4) F7) A0)))))),fun ds Q hl h=>?_⟩)
 obtain⟨a,b,rfl,q⟩:=h
 rcases a with _ | ⟨l1,g1,t1⟩
 ·right
  exact q
 ·rcases b with _ | ⟨l2,g2,t2⟩
  ·right
   exact q
  ·right
   by_cases c:t1 < l2
   ·rw[A7e (a:=(l1,g1,t1)) (b:=(l2,g2,t2)) c] at q
    simp only[c,decide_true,if_true]
    exact q
   ·rw[A4y (a:=(l1,g1,t1)) (b:=(l2,g2,t2)) c] at q
    simp only[c,decide_false,M7,if_false]
    refine⟨some (l2,g2,t2),t1,rfl,?_⟩
    have e:oD (K2 (some (l2,g2,t2)) t1)=.int (if t2 < t1 + g2 then t2 else t1 + g2):=by
     unfold K2
     dsimp only
     rw[if_neg c]
     rfl
    rw[e]
    left
    simp only[X6] at q
    exact⟨by decide,q⟩
theorem C8m (T:Txt K mg):C9 P w K mg base CX0 1 T.f_effect_of_none.a T.f_effect_of_none.d ["store"] (spD [.sh] C79):=by
 refine F2 T.f_effect_of_none.F C7m rfl (fun C cdv A outer s H E hr=>⟨_,(B1 (D7 (O3 (A5 B0 (A5 B0 (A5 (A1 (pv 0)) C1 A0) E5) E5)))),fun ds Q hl h=>?_⟩)
 obtain⟨st,rfl,q⟩:=h
 right
 exact⟨by decide,q⟩
theorem C8n (T:Txt K mg):C9 P w K mg base CX0 1 T.f_effect_of_one.a T.f_effect_of_one.d ["store", "change"] (spD [.sh,.sh] C8a):=by
 refine F2 T.f_effect_of_one.F C7n rfl (fun C cdv A outer s H E hr=>⟨_,(@F0 _ _ _ _ _ _ (K6 (F6 x8 A64 (E9 L6 P9 (A1 (pv 0)) (A1 (pv 1))) B0 (D0 _))
   (B1 (D7 G0))
   K5) (@B1 _ _ _ _ (@D7 _ _ _ _ _ (@O3 _ _ _ _ _ _ (@A5 _ _ _ _ _ _ (S8 B7f (F8 (B53 rfl) rfl T.n_max B6v (A5 B0 (A5 (A0d (A1 (pv 1))) C1 B6x) E5) (he:=E5) (hpl:=(A4 B6x A3)))) (A5 (A1 (pv 1)) (A5 (S8 A2b (F8 (A1h rfl) rfl T.n_min A1m (A5 (A1 (pv 0)) (A5 (E9 L6 P9 (A1 (pv 0)) (A1 (pv 1))) C1 F7) A0) (he:=A0) (hpl:=(A4 F7 A3)))) C1 F4) A0) F4))))),fun ds Q hl h=>?_⟩)
 obtain⟨st,c,rfl,q⟩:=h
 unfold Z5 at q
 right
 by_cases d:st + c < 0
 ·rw[if_pos d] at q
  simp only[d,decide_true,if_true]
  exact q
 ·rw[if_neg d] at q
  simp only[d,decide_false,M7,if_false]
  exact⟨by decide,q⟩
theorem C8o (T:Txt K mg):C9 P w K mg base CX0 3 T.f_effect_of.a T.f_effect_of.d ["store", "changes"] (spD [.sh,.sh] C8d):=by
 have G_effect_of_none:=@C8m P w K mg base T
 have b_effect_of_none:=T.f_effect_of_none.b
 have G_effect_of_one:=@C8n P w K mg base T
 have b_effect_of_one:=T.f_effect_of_one.b
 have G_joined:=@C8l P w K mg base T
 have b_joined:=T.f_joined.b
 refine F2 T.f_effect_of.F A91 rfl (fun C cdv A outer s H E hr=>⟨_,(@F0 _ _ _ _ _ _ (E2 (C0 (i:=2) A91.nd rfl (A8 rfl) (C5 (B7 G_effect_of_none (hr.mono (by decide)) rfl T.f_effect_of_none.m T.f_effect_of_none.F.kp b_effect_of_none .nil B8 (A2 (A1 (pv 0)) C4 A0) (he:=A0) (hpl:=A3))))) (@F0 _ _ _ _ _ _ (@O4 _ _ _ _ _ _ (@O0 _ _ _ _ _ _ _ _ M0 rfl (Z2 (pv 1)) (R6 (J7 (i:=3) A91.nd rfl (A8 rfl))) (@B1 _ _ _ _ (@E2 _ _ _ _ _ (@C0 _ _ 2 _ _ _ _ A91.nd rfl (A8 rfl) (@C5 _ _ _ _ _ _ _ (@B7 _ _ _ _ _ _ _ _ _ _ _ _ _ _ _ _ G_joined (hr.mono (by decide)) rfl T.f_joined.m T.f_joined.F.kp b_joined .nil B8 (A2 (A1 (pv 2)) (A2 (C5 (B7 G_effect_of_one (hr.mono (by decide)) rfl T.f_effect_of_one.m T.f_effect_of_one.F.kp b_effect_of_one .nil B8 (A2 (A1 (pv 0)) (A2 (A1 (pv 3)) C4 A0) A0) (he:=A0) (hpl:=(A4 A0 A3)))) C4 F4) A0) (by decide) A0 ((A4 F4 A3)))) (by rfl) (by first | exact .inl rfl | exact .inr rfl | assumption)))) (by intro _;rfl))) (B1 (D7 (A1 (pv 2)))))),fun ds Q hl h=>?_⟩)
 obtain⟨st,cs,rfl,q⟩:=h
 left
 refine⟨st,rfl,?_⟩
 array_get_dec
 refine⟨fun r ρ=>∃(cs':List Int) (e:Ef) (z0 z:Sl),r=R8 cs'/\ρ=[Sl.sh (.int st),z0,Sl.sh (X6 e),z]/\Q (X6 (foF st e cs')),⟨cs,_,_,_,rfl,rfl,q⟩,?_,?_⟩
 ·rintro x r ρ ⟨cs',e,z0,z,h1,rfl,q⟩
  cases cs' with
  | nil=>cases h1
  | cons c cs'=>
   cases (show x::r=PyData.int c::R8 cs' from h1)
   sizeOf_list_dec
   refine⟨_,_,rfl,?_⟩
   left
   refine⟨_,_,rfl,?_⟩
   exact⟨cs',_,_,_,rfl,rfl,q⟩
 ·rintro ρ ⟨cs',e,z0,z,h1,rfl,q⟩
  cases cs' with
  | nil=>
   left
   exact q
  | cons c cs'=>cases h1
theorem C8p (T:Txt K mg):C9 P w K mg base CX0 2 T.f_levels_along.a T.f_levels_along.d ["store", "level", "changes"] (spD [.sh,.sh,.sh] C78):=by
 have G_stepped:=@B34 P w K mg base T
 have b_stepped:=T.f_stepped.b
 refine F2 T.f_levels_along.F A90 rfl (fun C cdv A outer s H E hr=>⟨_,(@F0 _ _ _ _ _ _ (V2 (C0 (i:=3) A90.nd rfl (A8 rfl) (G5 (A5 (A1 (pv 1)) C1 A0)))) (@F0 _ _ _ _ _ _ (@O4 _ _ _ _ _ _ (@O0 _ _ _ _ _ _ _ _ M0 rfl (Z2 (pv 2)) (R6 (J7 (i:=4) A90.nd rfl (A8 rfl))) (@F0 _ _ _ _ _ _ (E2 (C0 (i:=5) A90.nd rfl (A8 rfl) (C5 (B7 G_stepped (hr.mono (by decide)) rfl T.f_stepped.m T.f_stepped.F.kp b_stepped .nil B8 (A2 (A1 (pv 0)) (A2 (B5 (pv 3) (A0d B0) (fun _ _=>rfl)) (A2 (A1 (pv 4)) C4 A0) B4) A0) (he:=A0) (hpl:=(A4 B4 (A4 A0 A3))))))) (F0 (K6 (F6 l6 A0e (A1 (pv 5)) G0 (D0 _))
   (B1 (D7 (A1 (pv 3))))
   K5)
   (B1 (d3 (S4 (T6 U6 Y4 Y5 V8 (pv 3) (B3 (A1 (pv 5)) C6 A0))))))) (by intro _;rfl))) (B1 (D7 (A1 (pv 3)))))),fun ds Q hl h=>?_⟩)
 obtain⟨st,lv,cs,rfl,hn,q⟩:=h
 array_get_dec
 refine⟨by decide,fun r ρ=>∃(cs' ys:List Int) (l:Int) (z0 z1 z2:Sl),r=R8 cs'/\ρ=[Sl.sh (.int st),Sl.sh (.int lv),z0,Sl.ow (R8 (ys++[l])),z1,z2]/\ys.length + cs'.length=cs.length/\ys++L3 st l cs'=L3 st lv cs,⟨cs,[],lv,_,_,_,rfl,rfl,by simp,rfl⟩,?_,?_⟩
 ·rintro x r ρ ⟨cs',ys,l,z0,z1,z2,h1,rfl,h2,h3⟩
  cases cs' with
  | nil=>cases h1
  | cons c cs'=>
   cases (show x::r=PyData.int c::R8 cs' from h1)
   have hlast:atI (R8 (ys++[l])) (-1)=some (.int l):=A99 (by unfold R8;simp)
   sizeOf_list_dec
   rw[hlast]
   left
   refine⟨_,_,_,rfl,?_⟩
   cases e:E4 st l c with
   | none=>
    rw[C5v e] at h3
    right
    rw[h3]
    exact q
   | some v=>
    rw[C5w e] at h3
    right
    refine⟨by unfold R8;rw[C7,F5];simp at h2 ⊢;omega,cs',ys++[l],v,z0,_,_,rfl,by rw[show R8 (ys++[l]++[v])=R8 (ys++[l])++[.int v] by unfold R8;simp],by simp at h2 ⊢;omega,by rw[<-h3];simp⟩
 ·rintro ρ ⟨cs',ys,l,z0,z1,z2,h1,rfl,h2,h3⟩
  cases cs' with
  | nil=>
   left
   have e:ys++[l]=L3 st lv cs:=h3
   rw[e]
   exact q
  | cons c cs'=>cases h1
end
theorem r8 {t:Tb}:(D6 t).length=t.length:=by unfold D6;rw[C7]
theorem C8q {t:Rn}:(rnL t).length=t.length:=by unfold rnL;rw[C7]
theorem W1 {t:List Nat}:(numL t).length=t.length:=by unfold numL;rw[C7]
theorem B0a {t:Tb} {i:Nat} {x:Option Int}:(D6 t).set i (oD x)=D6 (t.set i x):=by unfold D6;rw[List.map_set]
theorem C8r {t:Rn} {i n:Nat}:(rnL t).set i (.int (n:Nat))=rnL (t.set i (some n)):=by unfold rnL;rw[List.map_set];rfl
theorem B98 {n:Nat}:A2k [PyData.none] n=rnL (D9 n none):=by
 unfold A2k rnL
 induction n with
 | zero=>rfl
 | succ n ih=>rw[S2,S2,A3f,U4,ih];rfl
theorem B99 {n:Nat}:A2k [PyData.none] n=D6 (D9 n none):=by
 unfold A2k D6
 induction n with
 | zero=>rfl
 | succ n ih=>rw[S2,S2,A3f,U4,ih];rfl
theorem C8s {ws:List Wy}:Q3 (ws.map T1)=ws.zipIdx.map fun p=>.tuple [.int (p.2:Nat),T1 p.1]:=by
 unfold Q3
 rw[List.zipIdx_map,g7]
 rfl
def C8t:DSp:=fun ds Q=>∃(m:Nat) (ws:List Wy) (ns:List Nat),ds=[E8 m ws,.list (numL ns)]/\(∀n∈ns,n < ws.length)/\ns.length<=900/\Q (.list (R8 (chs ws ns)))
def C8u:DSp:=fun ds Q=>∃t:Tb,ds=[.list (D6 t)]/\t.length<=900/\Q (R9 (t,D9 t.length none))
def C8v:DSp:=fun ds Q=>∃(m:Nat) (ws:List Wy) (st:Int) (t s:Tb),ds=[E8 m ws,.int st,.list (D6 t),.list (D6 s)]/\F9 m ws/\t.length=m/\s.length=m/\Q (R9 (M5 m ws st t s))
def A7o (m:Nat) (ws:List Wy) (rs:List Rw):Prop:=∀r∈rs,r.2.length=m/\∀q n,gt r.2 q=some n->n < ws.length
def C8w:DSp:=fun ds Q=>∃(m:Nat) (ws:List Wy) (rs:List Rw) (p:Nat),ds=[E8 m ws,.list (rs.map R9),.int (p:Nat)]/\p < m/\F9 m ws/\A7o m ws rs/\rs.length<=900/\Q (.tuple [.int ((wlk ws rs.reverse p).1:Nat),.list (numL (wlk ws rs.reverse p).2)])
section
variable {P:Program} {w:World} {K:A7} {mg:Str->Option Value} {base:Heap}
theorem C8x (T:Txt K mg):C9 P w K mg base CX0 1 T.f_changes_of.a T.f_changes_of.d ["land", "numbers"] (spD [.sh,.sh] C8t):=by
 refine F2 T.f_changes_of.F C7l rfl (fun C cdv A outer s H E hr=>⟨_,(B1 (D7 (E1 (o8 rfl (j2 (O1.new (N:=["land", "numbers"]) (osc:=C2 A9q) (by decide +kernel)) rfl (Z2 (pv 1)) (fun _=>A0i) (fun _=>(K0 (K0 (B5 (pv 0) (D4 (D3 (v:=V.int 1) rfl T.mg_WAYS ⟨_,rfl⟩)) (fun _ _=>rfl)) (A1 (pv 2)) (fun _ _=>rfl)) (D4 (D3 (v:=V.int 2) rfl T.mg_CHANGE ⟨_,rfl⟩)) (fun _ _=>rfl)))))))),fun ds Q hl h=>?_⟩)
 obtain⟨m,ws,ns,rfl,hb,hn,q⟩:=h
 array_mem_dec
 refine⟨⟨rfl,by rw[W1];omega⟩,?_⟩
 unfold numL
 refine o9 (f:=fun n=>.int (Z6 ws n)) (fun n hm Q' q'=>?_) ?_
 ·obtain⟨w,hw⟩:∃w,ws[n]?=some w:=⟨_,J6 (hb n hm)⟩
  right
  rw[A98 hw]
  right
  have e:Z6 ws n=w.2.2:=by unfold Z6;rw[hw]
  rw[e] at q'
  exact q'
 ·unfold R8 chs at q
  rw[g7] at q
  exact q
theorem C8y (T:Txt K mg):C9 P w K mg base CX0 1 T.f_first_row.a T.f_first_row.d ["table"] (spD [.bo] C8u):=by
 refine F2 T.f_first_row.F C7q rfl (fun C cdv A outer s H E hr=>⟨_,(B1 (D7 (O3 (A5 (E1 (A65 (l8 A1j rfl T.n_list j3 (B3 (pv 0) C6 A0) (he:=A0) (hpl:=A3)))) (A5 (E1 (A88 (E1 (G5 (A5 G0 C1 E5))) (X1 (F8 S5 rfl T.n_len S7 (B3 (pv 0) C6 A0) (he:=A0) (hpl:=A3))))) C1 F7) F4)))),fun ds Q hl h=>?_⟩)
 obtain⟨t,rfl,hn,q⟩:=h
 right
 refine⟨by decide,⟨by omega,by rw[r8];omega,by decide⟩,by decide,?_⟩
 unfold R9 at q
 rw[r8,show ((t.length:Nat):Int).toNat=t.length by simp,B98]
 exact q
theorem C8z (T:Txt K mg):C9 P w K mg base CX0 3 T.f_row_behind.a T.f_row_behind.d ["land", "store", "table", "stayed"] (spD [.sh,.sh,.sh,.sh] C8v):=by
 have G_behind_way:=@C8j P w K mg base T
 have b_behind_way:=T.f_behind_way.b
 have G_is_more:=@B97 P w K mg base T
 have b_is_more:=T.f_is_more.b
 refine F2 T.f_row_behind.F A5v rfl (fun C cdv A outer s H E hr=>⟨_,(@F0 _ _ _ _ _ _ (V2 (C0 (i:=4) A5v.nd rfl (A8 rfl) (A65 (l8 A1j rfl T.n_list j3 (B3 (pv 3) C6 A0) (he:=A0) (hpl:=A3))))) (@F0 _ _ _ _ _ _ (V2 (C0 (i:=5) A5v.nd rfl (A8 rfl) (A88 (E1 (G5 (A5 G0 C1 E5))) (B5 (pv 0) (D4 (D3 (v:=V.int 0) rfl T.mg_MANY ⟨_,rfl⟩)) (fun _ _=>rfl))))) (@F0 _ _ _ _ _ _ (@O4 _ _ _ _ _ _ (@O0 _ _ _ _ _ _ _ _ M0 rfl (B12 (B1o rfl T.n_enumerate (B3 (B5 (pv 0) (D4 (D3 (v:=V.int 1) rfl T.mg_WAYS ⟨_,rfl⟩)) (fun _ _=>rfl)) C6 B4))) (A9a (A3s (n:=2) rfl (V6 (J7 (i:=6) A5v.nd rfl (A8 rfl)) (V6 (J7 (i:=7) A5v.nd rfl (A8 rfl)) A3r)))) (@F0 _ _ _ _ _ _ (E2 (C0 (i:=8) A5v.nd rfl (A8 rfl) (C5 (B7 G_behind_way (hr.mono (by decide)) rfl T.f_behind_way.m T.f_behind_way.F.kp b_behind_way .nil B8 (A2 (A1 (pv 1)) (A2 (A1 (pv 2)) (A2 (A1 (pv 7)) C4 A0) A0) A0) (he:=A0) (hpl:=(A4 A0 (A4 A0 A3))))))) (@B1 _ _ _ _ (@K6 _ _ _ _ _ _ _ _ _ (A0c (C5 (B7 G_is_more (hr.mono (by decide)) rfl T.f_is_more.m T.f_is_more.F.kp b_is_more .nil B8 (A2 (A1 (pv 8)) (A2 (B5 (pv 4) (B5 (pv 7) (D4 (D3 (v:=V.int 1) rfl T.mg_END ⟨_,rfl⟩)) (fun _ _=>rfl)) (fun _ _=>rfl)) C4 B4) A0) (he:=A0) (hpl:=(A4 B4 A3))))) (F0 (A4b (U8 (A1 (pv 8)) (W6 (pv 4) (B5 (pv 7) (D4 (D3 (v:=V.int 1) rfl T.mg_END ⟨_,rfl⟩)) (fun _ _=>rfl)) U9)))
   (B1 (A4b (U8 (A1 (pv 6)) (W6 (pv 5) (B5 (pv 7) (D4 (D3 (v:=V.int 1) rfl T.mg_END ⟨_,rfl⟩)) (fun _ _=>rfl)) U9))))) K5))) (by intro _;rfl))) (B1 (D7 (O3 (A5 (A1 (pv 4)) (A5 (A1 (pv 5)) C1 A0) A0))))))),fun ds Q hl h=>?_⟩)
 obtain⟨m,ws,st,t,s0,rfl,ok,ht,hs,q⟩:=h
 have m2:=ok.m2
 array_mem_dec
 refine⟨by decide,⟨by omega,by omega,by decide⟩,?_⟩
 rw[show ((m:Nat):Int).toNat=m by simp,B98,C8s]
 refine⟨fun r ρ=>∃(R:List (Wy×Nat)) (acc:Tb×Rn) (z1 z2 z3:Sl),r=R.map (fun p=>.tuple [.int (p.2:Nat),T1 p.1])/\ρ=[Sl.sh (E8 m ws),Sl.sh (.int st),Sl.sh (.list (D6 t)),Sl.sh (.list (D6 s0)),Sl.ow (D6 acc.1),Sl.ow (rnL acc.2),z1,z2,z3]/\acc.1.length=m/\acc.2.length=m/\(∀p∈R,p.1∈ws)/\R.foldl (A0o st t) acc=M5 m ws st t s0,
  ⟨ws.zipIdx,(s0,D9 m none),_,_,_,rfl,rfl,hs,by simp,fun p hp=>?_,rfl⟩,?_,?_⟩
 ·obtain⟨w,n⟩:=p
  rw[C1l] at hp
  exact Q8 hp
 ·rintro x r ρ ⟨R,acc,z1,z2,z3,h1,rfl,l1,l2,hR,hF⟩
  cases R with
  | nil=>cases h1
  | cons p R=>
   cases (show x::r=PyData.tuple [.int (p.2:Nat),T1 p.1]::R.map (fun p=>.tuple [.int (p.2:Nat),T1 p.1]) from h1)
   have hw:=hR p B2
   have e1:=ok.en _ hw
   have hF':R.foldl (A0o st t) (A0o st t acc p)=M5 m ws st t s0:=hF
   sizeOf_list_dec
   refine⟨_,_,_,rfl,by rw[ht];exact ok.st _ hw,?_⟩
   unfold T1
   left
   rw[A03 (by rw[l1];exact e1)]
   left
   refine⟨_,_,rfl,?_⟩
   unfold A0o at hF'
   cases c:R7 (K9 st t p.1) (gt acc.1 p.1.2.1) with
   | true=>
    rw[if_pos c] at hF'
    left
    rw[A5y (by rw[r8,l1];exact e1)]
    left
    rw[A5y (by rw[C8q,l2];exact e1),B0a]
    left
    rw[C8r]
    exact⟨R,_,_,_,_,rfl,rfl,by rw[O8];exact l1,by rw[O8];exact l2,fun p hp=>hR p (A9 _ hp),hF'⟩
   | false=>
    rw[if_neg (by rw[c];exact G6)] at hF'
    left
    exact⟨R,acc,_,_,_,rfl,rfl,l1,l2,fun p hp=>hR p (A9 _ hp),hF'⟩
 ·rintro ρ ⟨R,acc,z1,z2,z3,h1,rfl,l1,l2,hR,hF⟩
  cases R with
  | cons p R=>cases h1
  | nil=>
   left
   refine⟨by decide,?_⟩
   have hF':acc=M5 m ws st t s0:=hF
   rw[<-hF'] at q
   exact q
theorem C80 (T:Txt K mg):C9 P w K mg base CX0 1 T.f_walk_to.a T.f_walk_to.d ["land", "rows", "place"] (spD [.sh,.sh,.sh] C8w):=by
 refine F2 T.f_walk_to.F A5w rfl (fun C cdv A outer s H E hr=>⟨_,(@F0 _ _ _ _ _ _ (E2 (C0 (i:=3) A5w.nd rfl (A8 rfl) (A1 (pv 2)))) (@F0 _ _ _ _ _ _ (V2 (C0 (i:=4) A5w.nd rfl (A8 rfl) (G5 C1))) (@F0 _ _ _ _ _ _ (@O4 _ _ _ _ _ _ (@O0 _ _ _ _ _ _ _ _ M0 rfl (C5b (C4d rfl T.n_reversed (B3 (A1 (pv 1)) C6 A0))) (R6 (J7 (i:=5) A5w.nd rfl (A8 rfl))) (@F0 _ _ _ _ _ _ (E2 (C0 (i:=6) A5w.nd rfl (A8 rfl) (K0 (B5 (pv 5) (D4 (D3 (v:=V.int 1) rfl T.mg_RISEN ⟨_,rfl⟩)) (fun _ _=>rfl)) (A1 (pv 3)) (fun _ _=>rfl)))) (@B1 _ _ _ _ (@K6 _ _ _ _ _ _ _ _ _ (F6 l7 m7 (A1 (pv 6)) G0 (D0 _)) (@F0 _ _ _ _ _ _ (d3 (S4 (T6 U6 Y4 Y5 V8 (pv 4) (B3 (A1 (pv 6)) C6 A0)))) (B1 (E2 (C0 (i:=3) A5w.nd rfl (A8 rfl) (K0 (K0 (B5 (pv 0) (D4 (D3 (v:=V.int 1) rfl T.mg_WAYS ⟨_,rfl⟩)) (fun _ _=>rfl)) (A1 (pv 6)) (fun _ _=>rfl)) (D4 (D3 (v:=V.int 0) rfl T.mg_START ⟨_,rfl⟩)) (fun _ _=>rfl)))))) K5))) (by intro _;rfl))) (B1 (D7 (O3 (A5 (A1 (pv 3)) (A5 (E1 (C49 (C4b rfl T.n_list rfl T.n_reversed rfl (B3 (A1 (pv 4)) C6 A0)))) C1 F4) A0))))))),fun ds Q hl h=>?_⟩)
 obtain⟨m,ws,rs,p,rfl,hp,ok,hr2,hn,q⟩:=h
 array_mem_dec
 refine⟨by decide,?_⟩
 refine⟨fun r ρ=>∃(R:List Rw) (here:Nat) (acc:List Nat) (z1 z2:Sl),r=R.map R9/\ρ=[Sl.sh (E8 m ws),Sl.sh (.list (rs.map R9)),Sl.sh (.int (p:Nat)),Sl.sh (.int (here:Nat)),Sl.ow (numL acc),z1,z2]/\here < m/\A7o m ws R/\acc.length + R.length<=rs.length/\wlk ws rs.reverse p=((wlk ws R here).1,(wlk ws R here).2++acc.reverse),
  ⟨rs.reverse,p,[],_,_,by rw[List.map_reverse],rfl,hp,fun r hr=>hr2 r (A6j.mp hr),by simp,by simp⟩,?_,?_⟩
 ·rintro x r ρ ⟨R,here,acc,z1,z2,h1,rfl,hh,hR,hl2,hW⟩
  cases R with
  | nil=>cases h1
  | cons r0 R=>
   cases (show x::r=R9 r0::R.map R9 from h1)
   obtain⟨l0,b0⟩:=hR r0 B2
   decreasing_trivial_pre_omega
   rw[B96 (by rw[l0];exact hh)]
   cases c:gt r0.2 here with
   | none=>
    right
    refine⟨R,here,acc,_,_,rfl,rfl,hh,fun r hr=>hR r (A9 _ hr),by simp at hl2;omega,?_⟩
    rw[hW]
    have:wlk ws (r0::R) here=wlk ws R here:=by
     show (match gt r0.2 here with
      | none=>wlk ws R here
      | some n=>((wlk ws R (T9 ws n)).1,(wlk ws R (T9 ws n)).2++[n]))=_
     rw[c]
    rw[this]
   | some n=>
    have hn':=b0 here n c
    obtain⟨w,hw⟩:∃w,ws[n]?=some w:=⟨_,J6 hn'⟩
    right
    refine⟨by rw[W1];simp at hl2;omega,?_⟩
    rw[A98 hw]
    right
    refine⟨R,w.1,acc++[n],_,_,rfl,by rw[show numL (acc++[n])=numL acc++[.int (n:Nat)] by unfold numL;simp],ok.st w (Q8 hw),fun r hr=>hR r (A9 _ hr),by simp at hl2 ⊢;omega,?_⟩
    ·rw[hW]
     have:wlk ws (r0::R) here=((wlk ws R w.1).1,(wlk ws R w.1).2++[n]):=by
      show (match gt r0.2 here with
       | none=>wlk ws R here
       | some n=>((wlk ws R (T9 ws n)).1,(wlk ws R (T9 ws n)).2++[n]))=_
      rw[c]
      have e:T9 ws n=w.1:=by unfold T9;rw[hw]
      show ((wlk ws R (T9 ws n)).1,(wlk ws R (T9 ws n)).2++[n])=_
      rw[e]
     rw[this]
     simp
 ·rintro ρ ⟨R,here,acc,z1,z2,h1,rfl,hh,hR,hl2,hW⟩
  cases R with
  | cons p R=>cases h1
  | nil=>
   left
   refine⟨by decide,?_⟩
   rw[hW] at q
   have e:(numL acc).reverse=numL acc.reverse:=by unfold numL;rw[List.map_reverse]
   rw[e]
   exact q
end
inductive Pth (ws:List Wy):Nat->List Nat->Nat->Prop
 | nil {p}:Pth ws p [] p
 | cons {n w ns q}:ws[n]?=some w->Pth ws w.2.1 ns q->Pth ws w.1 (n::ns) q
abbrev Pt:=List Nat×Int
inductive Trp (ws:List Wy):Nat->List Pt->Nat->Prop
 | nil {p}:Trp ws p [] p
 | cons {p q r pt ps}:Pth ws p pt.1 q->pt.1≠[]->1<=pt.2->pt.2<=1000000000000000000000000->(pt.2=1\/q=p)->Trp ws q ps r->Trp ws p (pt::ps) r
theorem Pth.app {ws:List Wy} {a b c:Nat} {xs ys:List Nat} (h1:Pth ws a xs b) (h2:Pth ws b ys c):Pth ws a (xs++ys) c:=by
 induction h1 with
 | nil=>exact h2
 | cons e _ ih=>exact .cons e (ih h2)
theorem Trp.app {ws:List Wy} {a b c:Nat} {xs ys:List Pt} (h1:Trp ws a xs b) (h2:Trp ws b ys c):Trp ws a (xs++ys) c:=by
 induction h1 with
 | nil=>exact h2
 | cons e1 e2 e3 e4 e5 _ ih=>exact .cons e1 e2 e3 e4 e5 (ih h2)
def prt (ns:List Nat):List Pt:=if ns.isEmpty then [] else [(ns,1)]
theorem C0a {ws:List Wy} {a b:Nat} {ns:List Nat} (h:Pth ws a ns b):Trp ws a (prt ns) b:=by
 cases h with
 | nil=>exact .nil
 | cons e t=>exact .cons (pt:=(_,1)) (.cons e t) (by simp) (show (1:Int)<=1 by decide) (show (1:Int)<=1000000000000000000000000 by decide) (.inl rfl) .nil
theorem Wk.pth {ws:List Wy} {st:Int} {b:Tb} {N:List Nat} {P:Nat->Nat} {L:Nat->Int} (W:Wk ws st b N P L) {i:Nat}:∀{j:Nat},i<=j->j<=N.length->Pth ws (P i) (My.seg N i j) (P j)
 | 0,h1,_=>by
  have:i=0:=by omega
  subst this
  rw[A4z];exact .nil
 | j + 1,h1,h2=>by
  by_cases e:i=j + 1
  ·subst e
   rw[A4z];exact .nil
  ·rw[B2e (by omega) (by omega)]
   obtain⟨w,hw,e1,e2,_⟩:=W.way j N[j] (J6 (by omega))
   refine (W.pth (i:=i) (j:=j) (by omega) (by omega)).app ?_
   rw[<-e1,<-e2]
   exact .cons hw .nil
theorem N1 (i j:Int):min (PyData.depth (.int i)) (PyData.depth (.int j))<=64:=by show min 0 0<=64;decide
theorem P3 (i j:Int):PyData.eqv (.int i) (.int j)=(i == j):=by rw[PyData.eqv]
def C81:DSp:=fun ds Q=>∃(m:Nat) (ws:List Wy) (p q:Nat) (ns:List Nat),ds=[E8 m ws,.int (p:Nat),.list (numL ns)]/\Pth ws p ns q/\Q (.int (q:Nat))
def C82:DSp:=fun ds Q=>∃(m:Nat) (ws:List Wy) (p q:Nat) (pt:Pt),ds=[E8 m ws,.int (p:Nat),X7 pt]/\Pth ws p pt.1 q/\pt.1≠[]/\1<=pt.2/\pt.2<=1000000000000000000000000/\(pt.2=1\/q=p)/\Q (.int (q:Nat))
def C83:DSp:=fun ds Q=>∃(m:Nat) (ws:List Wy) (p q:Nat) (ps:List Pt),ds=[E8 m ws,.int (p:Nat),.list (ps.map X7)]/\Trp ws p ps q/\Q (.int (q:Nat))
def C84:DSp:=fun ds Q=>∃ns:List Nat,ds=[.list (numL ns)]/\Q (.list ((prt ns).map X7))
section
variable {P:Program} {w:World} {K:A7} {mg:Str->Option Value} {base:Heap}
theorem C85 (T:Txt K mg):C9 P w K mg base CX0 1 T.f_parts_by.a T.f_parts_by.d ["numbers"] (spD [.sh] C84):=by
 refine F2 T.f_parts_by.F C7s rfl (fun C cdv A outer s H E hr=>⟨_,(B1 (D7 (A31 (F6 A1g A32 (X1 (F8 S5 rfl T.n_len S7 (B3 (pv 0) C6 A0) (he:=A0) (hpl:=A3))) B0 (D0 _)) (E1 (G5 (A5 (O3 (A5 (A1 (pv 0)) (A5 B0 C1 E5) A0)) C1 A1o))) (E1 (G5 C1))))),fun ds Q hl h=>?_⟩)
 obtain⟨ns,rfl,q⟩:=h
 right
 cases ns with
 | nil=>exact⟨by decide,q⟩
 | cons n ns=>
  have e:decide ((0:Int) < ((numL (n::ns)).length:Nat))=true:=by
   rw[W1];exact decide_eq_true (by rw[F3];omega)
  rw[e]
  right
  exact⟨by decide,by decide,q⟩
theorem C86 (T:Txt K mg):C9 P w K mg base CX0 3 T.f_behind_ways.a T.f_behind_ways.d ["land", "place", "numbers"] (spD [.sh,.sh,.sh] C81):=by
 have G_is_place:=@C8i P w K mg base T
 have b_is_place:=T.f_is_place.b
 refine F2 T.f_behind_ways.F A92 rfl (fun C cdv A outer s H E hr=>⟨_,(@F0 _ _ _ _ _ _ (E2 (C0 (i:=3) A92.nd rfl (A8 rfl) (A1 (pv 1)))) (@F0 _ _ _ _ _ _ (@O4 _ _ _ _ _ _ (@O0 _ _ _ _ _ _ _ _ M0 rfl (Z2 (pv 2)) (R6 (J7 (i:=4) A92.nd rfl (A8 rfl))) (@F0 _ _ _ _ _ _ (@K6 _ _ _ _ _ _ _ _ _ (PW.pt (@A62 _ _ _ _ _ _ _ _ (@B1s _ _ _ _ _ (@A0c _ _ _ _ (@C5 _ _ _ _ _ _ _ (@B7 _ _ _ _ _ _ _ _ _ _ _ _ _ _ _ _ G_is_place (hr.mono (by decide)) rfl T.f_is_place.m T.f_is_place.F.kp b_is_place .nil B8 (A2 (S8 B7d (F8 S5 rfl T.n_len S7 (A5 (B5 (pv 0) (D4 (D3 (v:=V.int 1) rfl T.mg_WAYS ⟨_,rfl⟩)) (fun _ _=>rfl)) C1 B4) (he:=B4) (hpl:=A3))) (A2 (A1 (pv 4)) C4 A0) F4) (by decide) F4 ((A4 A0 A3)))) (by intro _;rfl))) (A85 (F6 (A1l (K3 hr)) N5 (K0 (K0 (B5 (pv 0) (D4 (D3 (v:=V.int 1) rfl T.mg_WAYS ⟨_,rfl⟩)) (fun _ _=>rfl)) (A1 (pv 4)) (fun _ _=>rfl)) (D4 (D3 (v:=V.int 0) rfl T.mg_START ⟨_,rfl⟩)) (fun _ _=>rfl)) (A1 (pv 3)) (D0 _))))) (B1 (D7 G0)) K5) (B1 (E2 (C0 (i:=3) A92.nd rfl (A8 rfl) (K0 (K0 (B5 (pv 0) (D4 (D3 (v:=V.int 1) rfl T.mg_WAYS ⟨_,rfl⟩)) (fun _ _=>rfl)) (A1 (pv 4)) (fun _ _=>rfl)) (D4 (D3 (v:=V.int 1) rfl T.mg_END ⟨_,rfl⟩)) (fun _ _=>rfl)))))) (by intro _;rfl))) (B1 (D7 (A1 (pv 3)))))),fun ds Q hl h=>?_⟩)
 obtain⟨m,ws,p,q0,ns,rfl,hp,q⟩:=h
 array_mem_dec
 refine⟨fun r ρ=>∃(ns':List Nat) (p':Nat) (z:Sl),r=numL ns'/\ρ=[Sl.sh (E8 m ws),Sl.sh (.int (p:Nat)),Sl.sh (.list (numL ns)),Sl.sh (.int (p':Nat)),z]/\Pth ws p' ns' q0,⟨ns,p,_,rfl,rfl,hp⟩,?_,?_⟩
 ·rintro x r ρ ⟨ns',p',z,h1,rfl,hp'⟩
  cases hp' with
  | nil=>cases h1
  | @cons n w ns' _ hw hp'=>
   cases (show x::r=PyData.int (n:Nat)::numL ns' from h1)
   have hn:=(A05.mp hw).1
   decreasing_trivial_pre_omega
   refine⟨_,_,rfl,?_⟩
   rw[C7,decide_eq_true (show (0:Int)<=((n:Nat):Int)/\((n:Nat):Int) < ((ws.length:Nat):Int) from ⟨by omega,by omega⟩)]
   decreasing_trivial_pre_omega
   rw[A98 hw]
   right
   refine⟨rfl,rfl,N1 _ _,?_⟩
   rw[P3,beq_self_eq_true]
   right
   exact⟨ns',w.2.1,_,rfl,rfl,hp'⟩
 ·rintro ρ ⟨ns',p',z,h1,rfl,hp'⟩
  cases hp' with
  | nil=>
   left
   exact q
  | cons hw hp'=>cases h1
theorem C87 (T:Txt K mg):C9 P w K mg base CX0 4 T.f_behind_part.a T.f_behind_part.d ["land", "place", "part"] (spD [.sh,.sh,.sh] C82):=by
 have G_behind_ways:=@C86 P w K mg base T
 have b_behind_ways:=T.f_behind_ways.b
 refine F2 T.f_behind_part.F B92 rfl (fun C cdv A outer s H E hr=>⟨_,(@F0 _ _ _ _ _ _ (@K6 _ _ _ _ _ _ _ _ _ (PW.pt (@A62 _ _ _ _ _ _ _ _ (F6 (N3 (K3 hr)) N5 (S8 B7d (F8 S5 rfl T.n_len S7 (A5 (B5 (pv 2) (D4 (D3 (v:=V.int 0) rfl T.mg_NUMBERS ⟨_,rfl⟩)) (fun _ _=>rfl)) C1 B4) (he:=B4) (hpl:=A3))) B0 (D0 _)) (A85 (B1s (C4m B05 B05 B0 (B5 (pv 2) (D4 (D3 (v:=V.int 1) rfl T.mg_TIMES ⟨_,rfl⟩)) (fun _ _=>rfl)) (E9 A6r A87 B0 B0)))))) (B1 (D7 G0)) K5) (@F0 _ _ _ _ _ _ (@E2 _ _ _ _ _ (@C0 _ _ 3 _ _ _ _ B92.nd rfl (A8 rfl) (C5 (B7 G_behind_ways (hr.mono (by decide)) rfl T.f_behind_ways.m T.f_behind_ways.F.kp b_behind_ways .nil B8 (A2 (A1 (pv 0)) (A2 (A1 (pv 1)) (A2 (B5 (pv 2) (D4 (D3 (v:=V.int 0) rfl T.mg_NUMBERS ⟨_,rfl⟩)) (fun _ _=>rfl)) C4 B4) A0) A0) (he:=A0) (hpl:=(A4 A0 (A4 B4 A3))))) (by rfl) (by first | exact .inl rfl | exact .inr rfl | assumption))) (F0 (K6 (PW.pt (A61 (F6 A1g A32 (B5 (pv 2) (D4 (D3 (v:=V.int 1) rfl T.mg_TIMES ⟨_,rfl⟩)) (fun _ _=>rfl)) B0 (D0 _)) (A60 (F6 (A1l (K3 hr)) N5 (A1 (pv 3)) (A1 (pv 1)) (D0 _)))))
   (B1 (D7 G0))
   K5)
   (B1 (D7 (A1 (pv 3))))))),fun ds Q hl h=>?_⟩)
 obtain⟨m,ws,p,q0,⟨ns,t⟩,rfl,hp,hne,t1,t2,ht,q⟩:=h
 simp only at hp hne t1 t2 ht
 right
 refine⟨rfl,rfl,N1 _ _,?_⟩
 have hl0:PyData.eqv (.int ((numL ns).length:Nat)) (.int 0)=false:=by
  rw[P3,W1]
  cases ns with
  | nil=>exact absurd rfl hne
  | cons n r=>exact beq_eq_false_iff_ne.mpr (by simp;omega)
 rw[hl0]
 right
 rw[decide_eq_true (show (1:Int)<=t from t1)]
 right
 refine⟨⟨by decide,by decide,by decide⟩,?_⟩
 rw[decide_eq_true (show t<=(10:Int) ^ (24:Int).toNat from t2)]
 right
 refine⟨_,_,_,_,_,rfl,hp,?_⟩
 right
 rcases ht with ht | ht
 ·rw[decide_eq_false (show ¬ (1:Int) < t by omega)]
  right
  exact q
 ·subst ht
  by_cases c:(1:Int) < t
  ·rw[decide_eq_true c]
   right
   refine⟨rfl,rfl,N1 _ _,?_⟩
   rw[P3,beq_self_eq_true]
   right
   exact q
  ·rw[decide_eq_false c]
   right
   exact q
theorem C88 (T:Txt K mg):C9 P w K mg base CX0 5 T.f_end_of.a T.f_end_of.d ["land", "place", "trip"] (spD [.sh,.sh,.sh] C83):=by
 have G_behind_part:=@C87 P w K mg base T
 have b_behind_part:=T.f_behind_part.b
 refine F2 T.f_end_of.F A7l rfl (fun C cdv A outer s H E hr=>⟨_,(@F0 _ _ _ _ _ _ (E2 (C0 (i:=3) A7l.nd rfl (A8 rfl) (A1 (pv 1)))) (@F0 _ _ _ _ _ _ (@O4 _ _ _ _ _ _ (@O0 _ _ _ _ _ _ _ _ M0 rfl (B12 (B1o rfl T.n_enumerate (B3 (A1 (pv 2)) C6 A0))) (A9a (A3s (n:=2) rfl (V6 (J7 (i:=4) A7l.nd rfl (A8 rfl)) (V6 (J7 (i:=5) A7l.nd rfl (A8 rfl)) A3r)))) (@F0 _ _ _ _ _ _ (E2 (C0 (i:=3) A7l.nd rfl (A8 rfl) (C5 (B7 G_behind_part (hr.mono (by decide)) rfl T.f_behind_part.m T.f_behind_part.F.kp b_behind_part .nil B8 (A2 (A1 (pv 0)) (A2 (A1 (pv 3)) (A2 (A1 (pv 5)) C4 A0) A0) A0) (he:=A0) (hpl:=(A4 A0 (A4 A0 A3))))))) (B1 (K6 (F6 l6 A0e (A1 (pv 3)) G0 (D0 _))
   (B1 C44)
   K5))) (by intro _;rfl))) (B1 (D7 (A1 (pv 3)))))),fun ds Q hl h=>?_⟩)
 obtain⟨m,ws,p,q0,ps,rfl,hp,q⟩:=h
 array_mem_dec
 have e0:Q3 (ps.map X7)=ps.zipIdx.map fun p=>.tuple [.int (p.2:Nat),X7 p.1]:=by
  unfold Q3
  rw[List.zipIdx_map,g7]
  rfl
 rw[e0]
 refine⟨fun r ρ=>∃(ps':List (Pt×Nat)) (p':Nat) (z1 z2:Sl),r=ps'.map (fun p=>.tuple [.int (p.2:Nat),X7 p.1])/\ρ=[Sl.sh (E8 m ws),Sl.sh (.int (p:Nat)),Sl.sh (.list (ps.map X7)),Sl.sh (.int (p':Nat)),z1,z2]/\Trp ws p' (ps'.map (·.1)) q0,⟨ps.zipIdx,p,_,_,rfl,rfl,by rw[show ps.zipIdx.map (·.1)=ps by simp];exact hp⟩,?_,?_⟩
 ·rintro x r ρ ⟨ps',p',z1,z2,h1,rfl,hp'⟩
  cases ps' with
  | nil=>cases h1
  | cons a ps'=>
   cases (show x::r=PyData.tuple [.int (a.2:Nat),X7 a.1]::ps'.map (fun p=>.tuple [.int (p.2:Nat),X7 p.1]) from h1)
   have hp2:Trp ws p' (a.1::ps'.map (·.1)) q0:=hp'
   cases hp2 with
   | cons e1 e2 e3 e4 e5 e6=>
    sizeOf_list_dec
    refine⟨_,_,_,_,_,rfl,e1,e2,e3,e4,e5,?_⟩
    left
    exact⟨ps',_,_,_,rfl,rfl,e6⟩
 ·rintro ρ ⟨ps',p',z1,z2,h1,rfl,hp'⟩
  cases ps' with
  | cons a ps'=>cases h1
  | nil=>
   cases hp'
   left
   exact q
end
theorem C89 (a b:Option Int):PyData.eqv (oD a) (oD b)=decide (a=b):=by
 cases a with
 | none=>cases b with
  | none=>rfl
  | some y=>rfl
 | some x=>cases b with
  | none=>rfl
  | some y=>
   show PyData.eqv (.int x) (.int y)=_
   rw[P3]
   by_cases h:x=y
   ·subst h;simp
   ·simp [h]
theorem C0b:∀a b:Tb,PyData.eqvAll (D6 a) (D6 b)=decide (a=b)
 | [],[]=>rfl
 | [],_::_=>rfl
 | _::_,[]=>rfl
 | x::a,y::b=>by
  show PyData.eqvAll (oD x::D6 a) (oD y::D6 b)=_
  rw[PyData.eqvAll,C89,C0b a b]
  by_cases h:x=y
  ·subst h;simp
  ·simp [h]
theorem C9a (a b:Tb):PyData.eqv (.list (D6 a)) (.list (D6 b))=decide (a=b):=by rw[PyData.eqv];exact C0b a b
theorem C0c:∀t:Tb,PyData.canLayAll0 (D6 t)=true
 | []=>rfl
 | x::t=>by
  show (PyData.canLay0 (oD x)&&PyData.canLayAll0 (D6 t))=true
  rw[C0c t]
  cases x <;> rfl
theorem C0d (t:Tb):PyData.canLay0 (.list (D6 t))=true:=by rw[PyData.canLay0];exact C0c t
theorem C0e:∀t:Tb,PyData.depthAll (D6 t)=0
 | []=>rfl
 | x::t=>by
  show max (PyData.depth (oD x)) (PyData.depthAll (D6 t))=0
  rw[C0e t]
  cases x <;> rfl
theorem C0f (t:Tb):PyData.depth (.list (D6 t))=1:=by
 show PyData.depthAll (D6 t) + 1=1
 rw[C0e]
def C9b:DSp:=fun ds Q=>∃(m:Nat) (ws:List Wy) (st:Int) (t:Tb),ds=[E8 m ws,.int st,.list (D6 t)]/\F9 m ws/\t.length=m/\Q (.list ((P0 m ws st m (t,D9 m none)).map R9))
def C9c:DSp:=fun ds Q=>∃(m:Nat) (ws:List Wy) (rs:List Rw),ds=[E8 m ws,.list (rs.map R9)]/\Q (.bool (decide (m < rs.length)))
def C9d:DSp:=fun ds Q=>∃(m:Nat) (ws:List Wy) (rs:List Rw) (r:Rw),ds=[E8 m ws,.list (rs.map R9)]/\F9 m ws/\A7o m ws rs/\rs.length<=900/\rs.getLast?=some r/\(∃p n,gt r.2 p=some n)/\
 ∀p n,p < m->gt r.2 p=some n->Q (.tuple [.int ((wlk ws rs.reverse p).1:Nat),.list (numL (wlk ws rs.reverse p).2)])
def A7p (p:Nat) (N:List Nat):PyData:=.tuple [.int (p:Nat),.list (numL N)]
def C9e:DSp:=fun ds Q=>∃(m:Nat) (ws:List Wy) (st:Int) (b:Tb) (N:List Nat) (P:Nat->Nat) (L:Nat->Int),ds=[E8 m ws,A7p (P 0) N]/\F9 m ws/\F1 m st b/\Wk ws st b N P L/\N.length=m/\
 ∀i j,i < j->j<=m->P i=P j->Q (.tuple [.list (numL (seg N 0 i)),.list (numL (seg N i j))])
theorem B35 {α β:Type} {f:α->β} {xs:List α} {x:α} (h:xs.getLast?=some x):(xs.map f).getLast?=some (f x):=by
 obtain⟨ys,rfl⟩:=C1q.mp h
 simp
theorem Wk.places {ws:List Wy} {st:Int} {b:Tb} {N:List Nat} {P:Nat->Nat} {L:Nat->Int} (W:Wk ws st b N P L):[P 0]++N.map (p5 ws)=(L0 (N.length + 1)).map P:=by
 apply A71
 intro k
 cases k with
 | zero=>simp
 | succ k=>
  rw[X9 (by simp),O7,O7]
  by_cases h:k < N.length
  ·rw[B0m (by omega)]
   show (N[k]?).map (p5 ws)=some (P (k + 1))
   obtain⟨w,hw,_,e,_⟩:=W.way k N[k] (J6 h)
   rw[J6 h]
   show some (p5 ws N[k])=_
   unfold p5
   rw[hw,<-e]
  ·rw[Y2 (l:=L0 _) (by rw[U5];omega)]
   show (N[k]?).map (p5 ws)=none
   rw[Y2 (by omega)]
   rfl
section
variable {P:Program} {w:World} {K:A7} {mg:Str->Option Value} {base:Heap}
theorem C9f (T:Txt K mg):C9 P w K mg base CX0 4 T.f_rows_from.a T.f_rows_from.d ["land", "store", "table"] (spD [.sh,.sh,.bo] C9b):=by
 have G_first_row:=@C8y P w K mg base T
 have b_first_row:=T.f_first_row.b
 have G_row_behind:=@C8z P w K mg base T
 have b_row_behind:=T.f_row_behind.b
 refine F2 T.f_rows_from.F A93 rfl (fun C cdv A outer s H E hr=>⟨_,(@F0 _ _ _ _ _ _ (V2 (C0 (i:=3) A93.nd rfl (A8 rfl) (G5 C1))) (@F0 _ _ _ _ _ _ (E2 (C0 (i:=4) A93.nd rfl (A8 rfl) (C5 (B7 G_first_row (hr.mono (by decide)) rfl T.f_first_row.m T.f_first_row.F.kp b_first_row .nil B8 (K1 (pv 2) C4 A0) (he:=A0) (hpl:=A3))))) (@F0 _ _ _ _ _ _ (@A9b _ _ _ _ _ (@A6n _ _ _ _ _ _ M0 (F6 x8 A64 (X1 (F8 S5 rfl T.n_len S7 (B3 (pv 3) C6 A0) (he:=A0) (hpl:=A3))) (B5 (pv 0) (D4 (D3 (v:=V.int 0) rfl T.mg_MANY ⟨_,rfl⟩)) (fun _ _=>rfl)) (D0 _)) (@F0 _ _ _ _ _ _ (d3 (S4 (T6 U6 Y4 Y5 V8 (pv 3) (B3 (A1 (pv 4)) C6 A0)))) (@F0 _ _ _ _ _ _ (@E2 _ _ _ _ _ (@C0 _ _ 4 _ _ _ _ A93.nd rfl (A8 rfl) (@C5 _ _ _ _ _ _ _ (@B7 _ _ _ _ _ _ _ _ _ _ _ _ _ _ _ _ G_row_behind (hr.mono (by decide)) rfl T.f_row_behind.m T.f_row_behind.F.kp b_row_behind .nil B8 (A2 (A1 (pv 0)) (A2 (A1 (pv 1)) (A2 (B5 (pv 4) (D4 (D3 (v:=V.int 0) rfl T.mg_TABLE ⟨_,rfl⟩)) (fun _ _=>rfl)) (A2 (B5 (pv 4) (D4 (D3 (v:=V.int 0) rfl T.mg_TABLE ⟨_,rfl⟩)) (fun _ _=>rfl)) C4 B4) B4) A0) A0) (by decide) A0 ((A4 A0 (A4 B4 (A4 B4 A3)))))) (by rfl) (by first | exact .inl rfl | exact .inr rfl | assumption))) (B1 (K6 (F6 (N3 (K3 hr)) N5 (B5 (pv 4) (D4 (D3 (v:=V.int 0) rfl T.mg_TABLE ⟨_,rfl⟩)) (fun _ _=>rfl)) (K0 (B5 (pv 3) (A0d B0) (fun _ _=>rfl)) (D4 (D3 (v:=V.int 0) rfl T.mg_TABLE ⟨_,rfl⟩)) (fun _ _=>rfl)) (D0 _))
   (B1 (D7 (A1 (pv 3))))
   K5)))))) (F0 (d3 (S4 (T6 U6 Y4 Y5 V8 (pv 3) (B3 (A1 (pv 4)) C6 A0))))
   (B1 (D7 (A1 (pv 3)))))))),fun ds Q hl h=>?_⟩)
 obtain⟨m,ws,st,t,rfl,ok,ht,q⟩:=h
 have m2:=ok.m2
 left
 refine⟨by decide,rfl,t,rfl,by omega,?_⟩
 unfold A69
 refine⟨fun μ ρ=>∃(rs:List Rw) (r:Rw),ρ=[Sl.sh (E8 m ws),Sl.sh (.int st),Sl.bo (D6 t),Sl.ow (rs.map R9),Sl.sh (R9 r)]/\rs.length + μ=m/\r.1.length=m/\rs++P0 m ws st μ r=P0 m ws st m (t,D9 m none),⟨m,[],(t,D9 t.length none),rfl,by simp,ht,by rw[ht];rfl⟩,?_⟩
 rintro μ ρ ⟨rs,r,rfl,h1,h2,h3⟩
 right
 rw[C7]
 cases μ with
 | zero=>
  rw[decide_eq_false (by omega)]
  right
  refine⟨by omega,?_⟩
  have e:rs++[r]=P0 m ws st m (t,D9 m none):=h3
  rw[<-e,P6] at q
  exact q
 | succ μ=>
  rw[decide_eq_true (by omega)]
  decreasing_trivial_pre_omega
  refine⟨by rw[C7];omega,?_⟩
  refine⟨m,ws,st,r.1,r.1,rfl,ok,h2,h2,?_⟩
  right
  rw[show -(1:Int)=-1 from rfl,B6d]
  right
  refine⟨C0d _,C0d _,by rw[C0f,C0f];decide,?_⟩
  rw[C9a]
  by_cases c:(M5 m ws st r.1 r.1).1=r.1
  ·rw[decide_eq_true c]
   right
   have e:rs++[r]=P0 m ws st m (t,D9 m none):=by rw[<-h3,P0,if_pos c]
   rw[<-e,P6] at q
   exact q
  ·rw[decide_eq_false c]
   right
   refine⟨μ,by omega,rs++[r],M5 m ws st r.1 r.1,by rw[P6];rfl,by simp;omega,(j7 (st:=st) (t:=r.1) ok h2).l1,?_⟩
   rw[<-h3,P0,if_neg c]
   simp
theorem C9g (T:Txt K mg):C9 P w K mg base CX0 1 T.f_still_rises.a T.f_still_rises.d ["land", "rows"] (spD [.sh,.sh] C9c):=by
 refine F2 T.f_still_rises.F C7r rfl (fun C cdv A outer s H E hr=>⟨_,(B1 (D7 (c8 A1g A32 (X1 (F8 S5 rfl T.n_len S7 (B3 (pv 1) C6 A0) (he:=A0) (hpl:=A3))) (B5 (pv 0) (D4 (D3 (v:=V.int 0) rfl T.mg_MANY ⟨_,rfl⟩)) (fun _ _=>rfl)) (D0 _)))),fun ds Q hl h=>?_⟩)
 obtain⟨m,ws,rs,rfl,q⟩:=h
 right
 rw[C7]
 rw[show decide (((m:Nat):Int) < ((rs.length:Nat):Int))=decide (m < rs.length) by by_cases c:m < rs.length <;> simp [c]]
 exact q
theorem C9h (T:Txt K mg):C9 P w K mg base CX0 2 T.f_rising_walk.a T.f_rising_walk.d ["land", "rows"] (spD [.sh,.sh] C9d):=by
 have G_walk_to:=@C80 P w K mg base T
 have b_walk_to:=T.f_walk_to.b
 refine F2 T.f_rising_walk.F B93 rfl (fun C cdv A outer s H E hr=>⟨_,(@F0 _ _ _ _ _ _ (E2 (C0 (i:=2) B93.nd rfl (g4 rfl) (K0 (B5 (pv 1) (A0d B0) (fun _ _=>rfl)) (D4 (D3 (v:=V.int 1) rfl T.mg_RISEN ⟨_,rfl⟩)) (fun _ _=>rfl)))) (@B1 _ _ _ _ (@D7 _ _ _ _ _ (@C5 _ _ _ _ _ _ _ (@B7 _ _ _ _ _ _ _ _ _ _ _ _ _ _ _ _ G_walk_to (hr.mono (by decide)) rfl T.f_walk_to.m T.f_walk_to.F.kp b_walk_to .nil B8 (@A2 _ _ _ _ _ _ (A1 (pv 0)) (@A2 _ _ _ _ _ _ (A1 (pv 1)) (@A2 _ _ _ _ _ _ (@K0 _ _ _ _ _ _ _ (@E1 _ _ _ _ (@o8 _ _ _ _ _ _ _ _ rfl (j2 (O1.new (N:=["land", "rows", "last"]) (osc:=C2 A9r) (by decide +kernel)) rfl (j6 (i7 rfl T.n_range (A5 (B5 (pv 0) (D4 (D3 (v:=V.int 0) rfl T.mg_MANY ⟨_,rfl⟩)) (fun _ _=>rfl)) C1 B4))) (fun _=>(A8y (F6 l7 m7 (B5 (pv 2) (A1 (pv 3)) (fun _ _=>rfl)) G0 (D0 _)))) (fun _=>(A1 (pv 3)))))) B0 (fun _ _=>rfl)) C4 B4) A0) A0) (by decide) A0 ((A4 A0 (A4 B4 A3)))))))),fun ds Q hl h=>?_⟩)
 obtain⟨m,ws,rs,r,rfl,ok,hR,hn,hl2,⟨p0,n0,hp0⟩,q⟩:=h
 have m2:=ok.m2
 have hr0:=hR r (List.mem_of_getLast? hl2)
 array_mem_dec
 rw[show -(1:Int)=-1 from rfl,A99 (B35 hl2)]
 array_mem_dec
 refine⟨⟨by omega,by omega⟩,⟨rfl,by unfold J3;rw[C7,U5];omega⟩,?_⟩
 unfold J3
 rw[show ((m:Nat):Int).toNat=m by simp]
 refine A7b (p:=fun i=>(gt r.2 i).isSome) (f:=fun i=>.int (0 + ((i:Nat):Int))) (fun i hi Q' q'=>?_) (fun i hi _ Q' q'=>?_) ?_
 ·left
  rw[show (0:Int) + ((i:Nat):Int)=((i:Nat):Int) by omega] at q' ⊢
  rw[B96 (by rw[hr0.1];exact N9.mp hi)]
  left
  cases c:gt r.2 i with
  | none=>rw[c] at q';exact q'
  | some n=>rw[c] at q';exact q'
 ·exact q'
 ·have hp0m:p0 < m:=by
   by_cases h:p0 < m
   ·exact h
   ·rw[A21 (by rw[hr0.1];omega)] at hp0;cases hp0
  have hmem:p0∈(L0 m).filter fun i=>(gt r.2 i).isSome:=k0.mpr ⟨N9.mpr hp0m,by rw[hp0];rfl⟩
  cases hf:(L0 m).filter fun i=>(gt r.2 i).isSome with
  | nil=>rw[hf] at hmem;cases hmem
  | cons p ps=>
   have hpm:p∈(L0 m).filter fun i=>(gt r.2 i).isSome:=by rw[hf];exact B2
   obtain⟨h1,h2⟩:=k0.mp hpm
   obtain⟨n,hn'⟩:=Option.isSome_iff_exists.mp h2
   rw[Q1,U4,A7a]
   left
   refine⟨m,ws,rs,p,by rw[show (0:Int) + ((p:Nat):Int)=((p:Nat):Int) by omega];rfl,N9.mp h1,ok,hR,hn,q p n (N9.mp h1) hn'⟩
end
theorem C0g {P:Nat->Nat}:∀k:Nat,(∀i j,i < j->j < k->P i≠P j)->((L0 k).map P).Nodup
 | 0,_=>A74
 | k + 1,h=>by
  rw[B5i,P6,List.nodup_append]
  refine⟨C0g k fun i j h1 h2=>h i j h1 (by omega),by simp,fun a ha b hb=>?_⟩
  obtain⟨i,hi,rfl⟩:=O9.mp ha
  have:b=P k:=by simpa using hb
  subst this
  exact h i k (N9.mp hi) (by omega)
def plI (P:Nat->Nat) (n:Nat):List Int:=((L0 n).map P).map fun p=>((p:Nat):Int)
theorem B36 {P:Nat->Nat} {n:Nat} {x:Nat}:((x:Nat):Int)∈plI P n↔∃i,i < n/\P i=x:=by
 unfold plI
 constructor
 ·intro h
  obtain⟨y,hy,e⟩:=O9.mp h
  obtain⟨i,hi,rfl⟩:=O9.mp hy
  exact⟨i,N9.mp hi,by omega⟩
 ·rintro ⟨i,hi,rfl⟩
  exact O9.mpr ⟨P i,O9.mpr ⟨i,N9.mpr hi,rfl⟩,rfl⟩
theorem C9i {P:Nat->Nat} {n:Nat}:numL ((L0 n).map P)=(plI P n).map PyData.int:=by
 simp only[numL,plI,g7]
 rfl
theorem B37 {P:Nat->Nat} {n:Nat}:(plI P n).length=n:=by unfold plI;rw[C7,C7,U5]
theorem C9j {P:Nat->Nat} {n:Nat} {x:Nat} (h:((x:Nat):Int)∈plI P n):(plI P n).idxOf ((x:Nat):Int) < n/\P ((plI P n).idxOf ((x:Nat):Int))=x:=by
 have h1:=B0l.mpr h
 have h2:=C1i h1
 rw[B37] at h1
 refine⟨h1,?_⟩
 have hx:∀i (h:i < (plI P n).length),(plI P n)[i]=((P i:Nat):Int):=fun i h=>by simp [plI]
 rw[hx] at h2
 omega
section
variable {P:Program} {w:World} {K:A7} {mg:Str->Option Value} {base:Heap}
theorem C9k (T:Txt K mg):C9 P w K mg base CX0 1 T.f_parted_at_round.a T.f_parted_at_round.d ["land", "walk"] (spD [.sh,.sh] C9e):=by
 refine F2 T.f_parted_at_round.F A7m rfl (fun C cdv A outer s H E hr=>⟨_,(@F0 _ _ _ _ _ _ (@E2 _ _ _ _ _ (@C0 _ _ 2 _ _ _ _ A7m.nd rfl (A8 rfl) (@E1 _ _ _ _ (@n4 _ _ _ _ _ _ _ (E1 (G5 (A5 (B5 (pv 1) (D4 (D3 (v:=V.int 0) rfl T.mg_FROM ⟨_,rfl⟩)) (fun _ _=>rfl)) C1 B4))) (@E1 _ _ _ _ (@o8 _ _ _ _ _ _ _ _ rfl (@j2 _ _ _ _ _ _ _ _ _ _ _ _ _ _ _ (O1.new (N:=["land", "walk", "places", "end", "begin"]) (osc:=C2 A9s) (by decide +kernel)) rfl (A2r (B5 (pv 1) (D4 (D3 (v:=V.int 1) rfl T.mg_BY ⟨_,rfl⟩)) (fun _ _=>rfl))) (fun _=>A0i) (fun _=>(K0 (K0 (B5 (pv 0) (D4 (D3 (v:=V.int 1) rfl T.mg_WAYS ⟨_,rfl⟩)) (fun _ _=>rfl)) (A1 (pv 5)) (fun _ _=>rfl)) (D4 (D3 (v:=V.int 1) rfl T.mg_END ⟨_,rfl⟩)) (fun _ _=>rfl))) (by rfl) (by rfl) (by intro _;rfl)))))) (by rfl) (by first | exact .inl rfl | exact .inr rfl | assumption))) (@F0 _ _ _ _ _ _ (E2 (C0 (i:=3) A7m.nd rfl (A8 rfl) B0)) (@F0 _ _ _ _ _ _ (A9b (A6n M0 (F6 C3h C48 (B5 (pv 2) (A1 (pv 3)) (fun _ _=>rfl)) (E1 (A35 (pv 2) A2h (m9 (A1 (pv 3))))) (by with_unfolding_all rfl))
   (B1 (E2 (C0 (i:=3) A7m.nd rfl (A8 rfl) (E9 L6 P9 (A1 (pv 3)) B0)))))) (@F0 _ _ _ _ _ _ (E2 (C0 (i:=4) A7m.nd rfl (A8 rfl) (B73 (T6 U6 C1h PySem.F.type_list_index B61 (pv 2) (B3 (B5 (pv 2) (A1 (pv 3)) (fun _ _=>rfl)) C6 B4))))) (B1 (D7 (O3 (A5 (E1 (B7l (B5 (pv 1) (D4 (D3 (v:=V.int 1) rfl T.mg_BY ⟨_,rfl⟩)) (fun _ _=>rfl)) A2h (m9 (A1 (pv 4))))) (A5 (E1 (B7l (B5 (pv 1) (D4 (D3 (v:=V.int 1) rfl T.mg_BY ⟨_,rfl⟩)) (fun _ _=>rfl)) (m9 (A1 (pv 4))) (m9 (A1 (pv 3))))) C1 B4) B4)))))))),fun ds Q hl h=>?_⟩)
 obtain⟨m,ws,st,b,N,PP,L,rfl,ok,hb,W,hN,q⟩:=h
 have m2:=ok.m2
 have hpl:∀k,k<=m->PP k < m:=fun k hk=>W.pl ok hb k (by omega)
 unfold A7p
 array_mem_dec
 refine⟨by decide,⟨rfl,by rw[W1];omega⟩,?_⟩
 unfold numL
 refine o9 (f:=fun n=>.int (p5 ws n:Nat)) (fun n hm Q' q'=>?_) ?_
 ·obtain⟨k,hk,rfl⟩:=A6e.mp hm
  obtain⟨w,hw,_,e,_⟩:=W.way k N[k] (J6 hk)
  right
  rw[A98 hw]
  right
  have e2:p5 ws N[k]=w.2.1:=by unfold p5;rw[hw]
  rw[e2] at q'
  exact q'
 ·left
  refine⟨by rw[C7];omega,?_⟩
  have epl:PyData.int ((PP 0:Nat):Int)::N.map (fun n=>PyData.int ((p5 ws n:Nat):Int))=(plI PP (m + 1)).map PyData.int:=by
   have:=W.places
   rw[hN] at this
   rw[<-C9i,<-this]
   unfold numL
   rw[P6,g7]
   rfl
  rw[epl]
  unfold A69
  refine⟨fun μ ρ=>∃(k:Nat) (z:Sl),ρ=[Sl.sh (E8 m ws),Sl.sh (A7p (PP 0) N),Sl.sh (.list ((plI PP (m + 1)).map PyData.int)),Sl.sh (.int (k:Nat)),z]/\1<=k/\k<=m/\μ + k=m/\∀i j,i < j->j < k->PP i≠PP j,⟨m - 1,1,_,rfl,by omega,ok.m1,by have:=ok.m1;omega,fun i j h1 h2=>by omega⟩,?_⟩
  rintro μ ρ ⟨k,z,rfl,k1,k2,hμ,hd⟩
  right
  have eat:atI ((plI PP (m + 1)).map PyData.int) ((k:Nat):Int)=some (.int ((PP k:Nat):Int)):=j0 (by
   unfold plI
   rw[g7,O7,O7,B0m (by omega)]
   rfl)
  have ecut:S9 ((plI PP (m + 1)).map PyData.int) none (some ((k:Nat):Int))=(plI PP k).map PyData.int:=by
   rw[B18,<-v6]
   congr 1
   unfold plI
   rw[<-v6,<-v6,List.take_range,A08 (by omega)]
  rw[eat]
  right
  rw[ecut,A9c]
  right
  by_cases c:((PP k:Nat):Int)∈plI PP k
  ·rw[show (!(plI PP k).contains ((PP k:Nat):Int))=false by simp [c]]
   right
   rw[A9c]
   right
   have hc2:((PP k:Nat):Int)∈plI PP (m + 1):=B36.mpr ⟨k,by omega,rfl⟩
   refine⟨⟨hc2,by rw[B37];omega⟩,?_⟩
   obtain⟨i0,hi0,ei0⟩:=B36.mp c
   obtain⟨hi1,hi2⟩:=C9j hc2
   have hik:(plI PP (m + 1)).idxOf ((PP k:Nat):Int) < k:=by
    by_cases h:(plI PP (m + 1)).idxOf ((PP k:Nat):Int) < k
    ·exact h
    ·exfalso
     have hmem:((PP k:Nat):Int)∈(plI PP (m + 1)).take k:=by
      have:(plI PP (m + 1)).take k=plI PP k:=by
       unfold plI
       rw[<-v6,<-v6,List.take_range,A08 (by omega)]
      rw[this];exact c
     have h1:=B0l.mpr hmem
     rw[T3,B37] at h1
     have h2:(plI PP (m + 1)).idxOf ((PP k:Nat):Int)=((plI PP (m + 1)).take k).idxOf ((PP k:Nat):Int):=by
      conv=>lhs;rw[<-g8 k (plI PP (m + 1))]
      rw[List.idxOf_append,if_pos hmem]
     omega
   unfold A7p
   right
   generalize (plI PP (m + 1)).idxOf ((PP k:Nat):Int)=i at hi1 hi2 hik
   refine⟨by decide,?_⟩
   have qq:=q i k hik k2 hi2
   have e1:S9 (numL N) none (some ((i:Nat):Int))=numL (seg N 0 i):=by
    rw[B18]
    unfold numL seg
    rw[<-v6,A3m,Nat.sub_zero]
   have e2:S9 (numL N) (some ((i:Nat):Int)) (some ((k:Nat):Int))=numL (seg N i k):=by
    rw[C5c (by rw[W1];omega) (by rw[W1];omega)]
    unfold numL seg
    rw[v6,List.map_drop]
   rw[e1,e2]
   exact qq
  ·rw[show (!(plI PP k).contains ((PP k:Nat):Int))=true by simp [c]]
   decreasing_trivial_pre_omega
   have hd2:∀i j,i < j->j < k + 1->PP i≠PP j:=fun i j h1 h2 e=>by
    by_cases hj:j < k
    ·exact hd i j h1 hj e
    ·have:j=k:=by omega
     subst this
     exact c (B36.mpr ⟨i,h1,e⟩)
   have hkm:k + 1<=m:=by
    have:=A9g m ((L0 (k + 1)).map PP) (C0g (k + 1) hd2) fun x hx=>by
     obtain⟨i,hi,rfl⟩:=O9.mp hx
     exact hpl i (by have:=N9.mp hi;omega)
    rw[C7,U5] at this
    exact this
   exact⟨μ - 1,by omega,k + 1,_,rfl,by omega,hkm,by omega,hd2⟩
end
theorem Wk.nb {ws:List Wy} {st:Int} {b:Tb} {N:List Nat} {P:Nat->Nat} {L:Nat->Int} (W:Wk ws st b N P L):∀n∈N,n < ws.length:=fun n hn=>by
 obtain⟨k,hk,rfl⟩:=A6e.mp hn
 obtain⟨w,hw,_⟩:=W.way k N[k] (J6 hk)
 exact (A05.mp hw).1
theorem C9l {N:List Nat} {i j n:Nat} (h:n∈seg N i j):n∈N:=List.mem_of_mem_drop (List.mem_of_mem_take h)
theorem C9m {N:List Nat} {i j:Nat}:(seg N i j).length<=N.length:=by
 unfold seg
 rw[T3,A70]
 omega
theorem C9n {m:Nat} {ws:List Wy} (ok:F9 m ws) (n:Nat):Z6 ws n<=1000000000000000000:=by
 unfold Z6
 split
 ·rename_i w hw;exact ok.hi w (Q8 hw)
 ·decide
theorem C0h {B:Int}:∀{cs:List Int},(∀c∈cs,c<=B)->cs.sum<=(cs.length:Int) * B
 | [],_=>by simp
 | c::cs,h=>by
  have:=C0h (cs:=cs) fun d hd=>h d (A9 _ hd)
  have h1:=h c B2
  rw[List.sum_cons,F3,Int.natCast_add,Int.add_mul]
  omega
theorem C9o {x g:Int} (hx:0 < x) (hg:0 < g):1<=-(-x / g)/\-(-x / g)<=x:=by
 have e:=Int.mul_ediv_add_emod (-x) g
 have r0:=B5g (-x) (show g≠0 by omega)
 have r1:=B5h (-x) hg
 generalize -x / g=d at e
 constructor
 ·by_cases h:0<=d
  ·have:=Int.mul_nonneg (b8 hg) h
   omega
  ·omega
 ·by_cases h:-x<=d
  ·omega
  ·exfalso
   have h1:g * d<=g * (-x - 1):=Int.mul_le_mul_of_nonneg_left (by omega) (by omega)
   have h2:g * (-x - 1)=-(g * x) - g:=by rw[Int.mul_sub,Int.mul_neg,Int.mul_one]
   have h3:1 * x<=g * x:=Int.mul_le_mul_of_nonneg_right (by omega) (by omega)
   omega
def A50 (N:List Nat) (i j k:Nat) (tm:Int):List Pt:=(prt (seg N 0 i)++[(seg N i j,tm)])++prt (seg N i (i + k))
def C9p:DSp:=fun ds Q=>∃(m:Nat) (ws:List Wy) (st:Int) (b:Tb) (N:List Nat) (P:Nat->Nat) (L:Nat->Int),ds=[E8 m ws,.int st,.int (L 0),A7p (P 0) N]/\F9 m ws/\0<=st/\st<=1000000000000000000000/\F1 m st b/\Wk ws st b N P L/\N.length=m/\
 ∀i j k le g tp tm,i < j->j<=m->P i=P j->le<=L i->Rnd st (chs ws (seg N i j)) (L i) le g tp k->1<=tm->tm<=1000000000000000000000000->Q (.list ((A50 N i j k tm).map X7))
theorem B0b {ns:List Nat}:(prt ns).length<=1:=by unfold prt;split <;> simp
section
variable {P:Program} {w:World} {K:A7} {mg:Str->Option Value} {base:Heap}
theorem C9q (T:Txt K mg):C9 P w K mg base CX0 6 T.f_filling_parts.a T.f_filling_parts.d ["land", "store", "level", "walk"] (spD [.sh,.sh,.sh,.sh] C9p):=by
 have G_parted_at_round:=@C9k P w K mg base T
 have b_parted_at_round:=T.f_parted_at_round.b
 have G_effect_of:=@C8o P w K mg base T
 have b_effect_of:=T.f_effect_of.b
 have G_changes_of:=@C8x P w K mg base T
 have b_changes_of:=T.f_changes_of.b
 have G_levels_along:=@C8p P w K mg base T
 have b_levels_along:=T.f_levels_along.b
 have G_parts_by:=@C85 P w K mg base T
 have b_parts_by:=T.f_parts_by.b
 refine F2 T.f_filling_parts.F A01 rfl (fun C cdv A outer s H E hr=>⟨_,(@D5 _ _ _ _ _ _ (E2 (C0 (i:=4) A01.nd rfl (A8 rfl) (C5 (B7 G_parted_at_round (hr.mono (by decide)) rfl T.f_parted_at_round.m T.f_parted_at_round.F.kp b_parted_at_round .nil B8 (A2 (A1 (pv 0)) (A2 (A1 (pv 3)) C4 A0) A0) (he:=A0) (hpl:=(A4 A0 A3)))))) (@D5 _ _ _ _ _ _ (E2 (C0 (i:=5) A01.nd rfl (A8 rfl) (B5 (pv 4) B0 (fun _ _=>rfl)))) (@D5 _ _ _ _ _ _ (E2 (C0 (i:=6) A01.nd rfl (A8 rfl) (B5 (pv 4) B0 (fun _ _=>rfl)))) (@D5 _ _ _ _ _ _ (@E2 _ _ _ _ _ (@C0 _ _ 7 _ _ _ _ A01.nd rfl (A8 rfl) (@C5 _ _ _ _ _ _ _ (@B7 _ _ _ _ _ _ _ _ _ _ _ _ _ _ _ _ G_effect_of (hr.mono (by decide)) rfl T.f_effect_of.m T.f_effect_of.F.kp b_effect_of .nil B8 (A2 (A1 (pv 1)) (A2 (C5 (B7 G_changes_of (hr.mono (by decide)) rfl T.f_changes_of.m T.f_changes_of.F.kp b_changes_of .nil B8 (A2 (A1 (pv 0)) (A2 (A1 (pv 6)) C4 A0) A0) (he:=A0) (hpl:=(A4 A0 A3)))) C4 F4) A0) (by decide) A0 ((A4 F4 A3)))) (by rfl) (by first | exact .inl rfl | exact .inr rfl | assumption))) (@D5 _ _ _ _ _ _ (@E2 _ _ _ _ _ (@C0 _ _ 8 _ _ _ _ A01.nd rfl (A8 rfl) (@E9 _ _ _ _ _ _ _ _ _ _ A8m A86 (B5 (pv 7) (D4 (D3 (v:=V.int 2) rfl T.mg_TOP ⟨_,rfl⟩)) (fun _ _=>rfl)) (@K0 _ _ _ _ _ _ _ (@C5 _ _ _ _ _ _ _ (@B7 _ _ _ _ _ _ _ _ _ _ _ _ _ _ _ _ G_levels_along (hr.mono (by decide)) rfl T.f_levels_along.m T.f_levels_along.F.kp b_levels_along .nil B8 (A2 (A1 (pv 1)) (A2 (A1 (pv 2)) (A2 (C5 (B7 G_changes_of (hr.mono (by decide)) rfl T.f_changes_of.m T.f_changes_of.F.kp b_changes_of .nil B8 (A2 (A1 (pv 0)) (A2 (A1 (pv 5)) C4 A0) A0) (he:=A0) (hpl:=(A4 A0 A3)))) C4 F4) A0) A0) (by decide) A0 ((A4 A0 (A4 F4 A3))))) (A0d B0) (fun _ _=>rfl))) (by rfl) (by first | exact .inl rfl | exact .inr rfl | assumption))) (@D5 _ _ _ _ _ _ (E2 (C0 (i:=9) A01.nd rfl (A8 rfl) (A0d (E9 B1l B66 (A0d (A1 (pv 8))) (B5 (pv 7) (D4 (D3 (v:=V.int 1) rfl T.mg_GAIN ⟨_,rfl⟩)) (fun _ _=>rfl)))))) (@D5 _ _ _ _ _ _ (@E2 _ _ _ _ _ (@C0 _ _ 10 _ _ _ _ A01.nd rfl (A8 rfl) (@C5 _ _ _ _ _ _ _ (@B7 _ _ _ _ _ _ _ _ _ _ _ _ _ _ _ _ G_levels_along (hr.mono (by decide)) rfl T.f_levels_along.m T.f_levels_along.F.kp b_levels_along .nil B8 (A2 (A1 (pv 1)) (A2 (B5 (pv 7) (D4 (D3 (v:=V.int 2) rfl T.mg_TOP ⟨_,rfl⟩)) (fun _ _=>rfl)) (A2 (C5 (B7 G_changes_of (hr.mono (by decide)) rfl T.f_changes_of.m T.f_changes_of.F.kp b_changes_of .nil B8 (A2 (A1 (pv 0)) (A2 (A1 (pv 6)) C4 A0) A0) (he:=A0) (hpl:=(A4 A0 A3)))) C4 F4) B4) A0) (by decide) A0 ((A4 B4 (A4 F4 A3))))) (by rfl) (by first | exact .inl rfl | exact .inr rfl | assumption))) (@B1 _ _ _ _ (@D7 _ _ _ _ _ (@E1 _ _ _ _ (@n4 _ _ _ _ _ _ _ (E1 (n4 (C5 (B7 G_parts_by (hr.mono (by decide)) rfl T.f_parts_by.m T.f_parts_by.F.kp b_parts_by .nil B8 (A2 (A1 (pv 5)) C4 A0) (he:=A0) (hpl:=A3))) (E1 (G5 (A5 (O3 (A5 (A1 (pv 6)) (A5 (A1 (pv 9)) C1 A0) A0)) C1 A1o))))) (C5 (B7 G_parts_by (hr.mono (by decide)) rfl T.f_parts_by.m T.f_parts_by.F.kp b_parts_by .nil B8 (A2 (E1 (A35 (pv 6) A2h (m9 (B73 (T6 U6 C1h PySem.F.type_list_index B61 (pv 10) (B3 (A1 (pv 1)) C6 A0)))))) C4 B4) (he:=B4) (hpl:=A3)))))))))))))),fun ds Q hl h=>?_⟩)
 obtain⟨m,ws,st,b,N,PP,L,rfl,ok,h0,hst,hb,W,hN,q⟩:=h
 have m2:=ok.m2
 left
 refine⟨m,ws,st,b,N,PP,L,rfl,ok,hb,W,hN,fun i j hij hj hp=>?_⟩
 have nb:∀a c n,n∈seg N a c->n < ws.length:=fun a c n hn=>W.nb n (C9l hn)
 have fw:∀a c,(seg N a c).length<=900:=fun a c=>by have:=@C9m N a c;omega
 have fw2:∀a c,(chs ws (seg N a c)).length<=900:=fun a c=>by unfold chs;rw[C7];exact fw a c
 obtain⟨b0,b1⟩:=W.bd h0 hb i (by omega)
 obtain⟨le,g,tp,k,R,hle⟩:=C5x b0 b1 (W.seg (i:=i) (j:=j) (by omega) (by omega)) (W.strict i j hij (by omega) hp)
 have kl:k<=j - i:=by
  have:=R.kl
  unfold chs at this
  rw[C7,A9f (by omega)] at this
  exact this
 refine go ?_;left
 refine go ?_;left
 refine go ?_;left
 refine⟨m,ws,seg N i j,rfl,nb i j,fw i j,?_⟩
 left
 refine⟨st,_,rfl,?_⟩
 rw[R.fx]
 refine go ?_;right
 refine⟨m,ws,seg N 0 i,rfl,nb 0 i,fw 0 i,?_⟩
 left
 refine⟨st,L 0,_,rfl,fw2 0 i,?_⟩
 have w0:=W.seg (i:=0) (j:=i) (L4 _) (by omega)
 have hlast:(L3 st (L 0) (chs ws (seg N 0 i))).getLast?=some (L i):=by
  obtain⟨z,z1,z2⟩:=B2f w0 (chs ws (seg N 0 i)).length (D2 _)
  rw[v5 (D2 _),w0] at z2
  cases z2
  rw[List.getLast?_eq_getElem?,B2g w0]
  exact z1
 left
 rw[show -(1:Int)=-1 from rfl,A99 (xs:=R8 _) (B35 hlast)]
 left
 refine go ?_;left
 have hg:g < 100000000000000000000000000000000000000000000000000000000000000:=by
  rw[R.gs]
  have h1:=C0h (B:=1000000000000000000) (cs:=chs ws (seg N i j)) fun c hc=>by
   obtain⟨n,_,rfl⟩:=O9.mp hc
   exact C9n ok n
  have h2:=fw2 i j
  omega
 refine⟨⟨R.g0,hg⟩,?_⟩
 refine go ?_;left
 refine⟨m,ws,seg N i j,rfl,nb i j,fw i j,?_⟩
 left
 refine⟨st,tp,_,rfl,fw2 i j,?_⟩
 refine go ?_;left
 refine⟨seg N 0 i,rfl,?_⟩
 left
 have hp1:=@B0b (seg N 0 i)
 refine⟨by decide,by decide,by rw[C7];simp;omega,?_⟩
 unfold R8
 rw[A9c]
 left
 refine⟨⟨R.km,by rw[R.ll];have:=fw2 i j;omega⟩,?_⟩
 rw[R.ki]
 have ecut:S9 (numL (seg N i j)) none (some ((k:Nat):Int))=numL (seg N i (i + k)):=by
  rw[B18]
  unfold numL
  rw[<-v6,B8k kl]
 rw[ecut]
 refine⟨_,rfl,?_⟩
 left
 have hp2:=@B0b (seg N i (i + k))
 refine⟨by simp;omega,?_⟩
 obtain⟨t1,t2⟩:=C9o (x:=tp - L i) (g:=g) (by have:=R.xt;omega) R.g0
 have t3:=R.tst
 have qq:=q i j k le g tp (-(-(tp - L i) / g)) hij hj hp hle R t1 (by omega)
 unfold A50 at qq
 rw[P6,P6] at qq
 exact qq
end
theorem Rows.risen {m:Nat} {ws:List Wy} {st:Int} {b:Tb} (ok:F9 m ws) (h0:0<=st) (hb:F1 m st b) {r:Rw} {rs:List Rw} (h:Rows m ws st b (r::rs)) (hn:rs≠[]):∃p n,gt r.2 p=some n:=by
 cases h with
 | one=>exact absurd rfl hn
 | @more r0 rs0 h' c=>
  obtain⟨a1,_,_⟩:=h'.ok ok h0 hb
  have I:=j7 (st:=st) (t:=r0.1) ok a1.len
  by_cases z:∃p n,gt (M5 m ws st r0.1 r0.1).2 p=some n
  ·exact z
  ·refine absurd (B79 (by rw[I.l1,a1.len]) fun p=>I.no p ?_) c
   cases e:gt (M5 m ws st r0.1 r0.1).2 p with
   | none=>rfl
   | some n=>exact absurd ⟨p,n,e⟩ z
theorem Rows.rok {m:Nat} {ws:List Wy} {st:Int} {b:Tb} (ok:F9 m ws) (h0:0<=st) (hb:F1 m st b):∀{rs:List Rw},Rows m ws st b rs->A7o m ws rs
 | _,.one=>fun r hr=>by
  have:r=(b,D9 m none):=by simpa using hr
  subst this
  exact⟨by simp,fun q n e=>by rw[A0n] at e;cases e⟩
 | _,.more (r:=r0) h c=>fun r hr=>by
  rcases N2.mp hr with e | hr
  ·subst e
   obtain⟨a1,_,_⟩:=h.ok ok h0 hb
   have I:=j7 (st:=st) (t:=r0.1) ok a1.len
   refine⟨I.l2,fun q n e=>?_⟩
   obtain⟨w,hw,_⟩:=I.yes q n e
   exact (A05.mp hw).1
  ·exact Rows.rok ok h0 hb h r hr
theorem C9r {m:Nat} {ws:List Wy} {st:Int} {b:Tb} (ok:F9 m ws) (h0:0<=st) (hb:F1 m st b):∃r rs,(P0 m ws st m (b,D9 m none)).reverse=r::rs/\(P0 m ws st m (b,D9 m none)).getLast?=some r/\(P0 m ws st m (b,D9 m none)).length=rs.length + 1/\rs.length<=m/\Rows m ws st b (r::rs)/\A7o m ws (P0 m ws st m (b,D9 m none))/\
  ((P0 m ws st m (b,D9 m none)).length<=m->T8 m ws st b r.1):=by
 obtain⟨r,rs,e,h,z⟩:=B8c (m:=m) (ws:=ws) (st:=st) (b:=b) m (b,D9 m none) [] .one
 rw[List.reverse_nil,Q1] at e
 have hl:(P0 m ws st m (b,D9 m none)).length=rs.length + 1:=by
  rw[<-A6f,e];rfl
 have hbd:∀(k:Nat) (q:Rw),(P0 m ws st k q).length<=k + 1:=by
  intro k
  induction k with
  | zero=>intro q;exact D2 _
  | succ k ih=>
   intro q
   unfold P0
   split
   ·simp
   ·have:=ih (M5 m ws st q.1 q.1);simp;omega
 have hb2:=hbd m (b,D9 m none)
 refine⟨r,rs,e,?_,hl,by omega,h,fun q hq=>h.rok ok h0 hb q (by rw[<-e];exact A6j.mpr hq),fun hm=>?_⟩
 ·rw[<-List.head?_reverse,e];rfl
 ·rcases z with z | z
  ·exact h.least ok h0 hb z
  ·rw[F3] at z
   simp at z
   omega
def C9s (B:Nat) (d:PyData):Prop:=∃q ps,d=.tuple [q,.list ps]/\ps.length<=B
def C9t:DSp:=fun ds Q=>∃(m:Nat) (ws:List Wy) (st:Int) (b0:Tb),ds=[E8 m ws,.int st,.list (D6 b0)]/\F9 m ws/\0<=st/\st<=1000000000000000000000/\F1 m st b0/\
 ∀(rs:List Rw) (r:Rw) (rd:List PyData),rs.getLast?=some r->T8 m ws st b0 r.1->Q (.tuple [.list (rs.map R9),.list rd])
def C9u:DSp:=fun ds Q=>∃(m:Nat) (ws:List Wy) (st:Int) (b0:Tb),ds=[E8 m ws,.int st,.list (D6 b0)]/\F9 m ws/\0<=st/\st<=1000000000000000000000/\F1 m st b0/\∀t,T8 m ws st b0 t->Q (.list (D6 t))
theorem C9v {st:Int} {b:Tb}:A22 st b<=b.length:=List.countP_le_length
theorem C9w {N:List Nat} {i j k:Nat} {tm:Int}:(A50 N i j k tm).length<=3:=by
 unfold A50
 have h1:=@B0b (seg N 0 i)
 have h2:=@B0b (seg N i (i + k))
 rw[F5,F5]
 simp
 omega
section
variable {P:Program} {w:World} {K:A7} {mg:Str->Option Value} {base:Heap}
theorem C9x (T:Txt K mg):C9 P w K mg base CX0 7 T.f_settled.a T.f_settled.d ["land", "store", "base"] (spD [.sh,.sh,.sh] C9t):=by
 have G_rows_from:=@C9f P w K mg base T
 have b_rows_from:=T.f_rows_from.b
 have G_still_rises:=@C9g P w K mg base T
 have b_still_rises:=T.f_still_rises.b
 have G_rising_walk:=@C9h P w K mg base T
 have b_rising_walk:=T.f_rising_walk.b
 have G_filling_parts:=@C9q P w K mg base T
 have b_filling_parts:=T.f_filling_parts.b
 have G_end_of:=@C88 P w K mg base T
 have b_end_of:=T.f_end_of.b
 refine F2 T.f_settled.F p9 rfl (fun C cdv A outer s H E hr=>⟨_,(@D5 _ _ _ _ _ _ (V2 (C0 (i:=3) p9.nd rfl (A8 rfl) (A65 (l8 A1j rfl T.n_list j3 (B3 (pv 2) C6 A0) (he:=A0) (hpl:=A3))))) (@D5 _ _ _ _ _ _ (@C45 _ _ _ _ _ _ _ _ _ rfl (@A6x _ _ _ _ _ _ _ _ _ _ _ _ _ 4 _ _ _ _ _ p9.nd rfl (A8 rfl) (O1.new (N:=["land", "store", "base", "table", "roads", "rows", "walk", "parts", "full", "road"]) (osc:=C2 A9t) (by decide +kernel)) rfl (j6 (i7 rfl T.n_range (A5 (B5 (pv 0) (D4 (D3 (v:=V.int 0) rfl T.mg_MANY ⟨_,rfl⟩)) (fun _ _=>rfl)) C1 B4))) (fun _=>A0i) (fun _=>(O3 (A5 (A1 (pv 10)) (A5 (E1 (G5 C1)) C1 B6y) A0))) (by rfl) (by first | exact .inl rfl | exact .inr rfl | assumption) (by rfl) (by rfl) (by intro _;rfl))) (@D5 _ _ _ _ _ _ (E2 (C0 (i:=5) p9.nd rfl (A8 rfl) (C5 (B7 G_rows_from (hr.mono (by decide)) rfl T.f_rows_from.m T.f_rows_from.F.kp b_rows_from .nil B8 (A2 (A1 (pv 0)) (A2 (A1 (pv 1)) (K1 (pv 3) C4 A0) A0) A0) (he:=A0) (hpl:=(A4 A0 (A4 A0 A3))))))) (@D5 _ _ _ _ _ _ (@A9b _ _ _ _ _ (@A6n _ _ _ _ _ _ M0 (A0c (C5 (B7 G_still_rises (hr.mono (by decide)) rfl T.f_still_rises.m T.f_still_rises.F.kp b_still_rises .nil B8 (A2 (A1 (pv 0)) (A2 (A1 (pv 5)) C4 A0) A0) (he:=A0) (hpl:=(A4 A0 A3))))) (@D5 _ _ _ _ _ _ (E2 (C0 (i:=6) p9.nd rfl (A8 rfl) (C5 (B7 G_rising_walk (hr.mono (by decide)) rfl T.f_rising_walk.m T.f_rising_walk.F.kp b_rising_walk .nil B8 (A2 (A1 (pv 0)) (A2 (A1 (pv 5)) C4 A0) A0) (he:=A0) (hpl:=(A4 A0 A3)))))) (@D5 _ _ _ _ _ _ (@E2 _ _ _ _ _ (@C0 _ _ 7 _ _ _ _ p9.nd rfl (A8 rfl) (@C5 _ _ _ _ _ _ _ (@B7 _ _ _ _ _ _ _ _ _ _ _ _ _ _ _ _ G_filling_parts (hr.mono (by decide)) rfl T.f_filling_parts.m T.f_filling_parts.F.kp b_filling_parts .nil B8 (A2 (A1 (pv 0)) (A2 (A1 (pv 1)) (A2 (B5 (pv 3) (B5 (pv 6) (D4 (D3 (v:=V.int 0) rfl T.mg_FROM ⟨_,rfl⟩)) (fun _ _=>rfl)) (fun _ _=>rfl)) (A2 (A1 (pv 6)) C4 A0) B4) A0) A0) (by decide) A0 ((A4 A0 (A4 B4 (A4 A0 A3)))))) (by rfl) (by first | exact .inl rfl | exact .inr rfl | assumption))) (@D5 _ _ _ _ _ _ (E2 (C0 (i:=8) p9.nd rfl (A8 rfl) (C5 (B7 G_end_of (hr.mono (by decide)) rfl T.f_end_of.m T.f_end_of.F.kp b_end_of .nil B8 (A2 (A1 (pv 0)) (A2 (B5 (pv 6) (D4 (D3 (v:=V.int 0) rfl T.mg_FROM ⟨_,rfl⟩)) (fun _ _=>rfl)) (A2 (A1 (pv 7)) C4 A0) B4) A0) (he:=A0) (hpl:=(A4 B4 (A4 A0 A3))))))) (@D5 _ _ _ _ _ _ (E2 (C0 (i:=9) p9.nd rfl (A8 rfl) (B5 (pv 4) (B5 (pv 6) (D4 (D3 (v:=V.int 0) rfl T.mg_FROM ⟨_,rfl⟩)) (fun _ _=>rfl)) (fun _ _=>rfl)))) (@D5 _ _ _ _ _ _ (A4b (U8 (O3 (A5 (B5 (pv 9) (D4 (D3 (v:=V.int 0) rfl T.mg_FROM ⟨_,rfl⟩)) (fun _ _=>rfl)) (A5 (E1 (n4 (B5 (pv 9) (D4 (D3 (v:=V.int 1) rfl T.mg_BY ⟨_,rfl⟩)) (fun _ _=>rfl)) (A1 (pv 7)))) C1 F7) B4)) (W6 (pv 4) (A1 (pv 8)) U9))) (@D5 _ _ _ _ _ _ (A4b (U8 (A1 (pv 1)) (W6 (pv 3) (A1 (pv 8)) U9))) (B1 (E2 (C0 (i:=5) p9.nd rfl (A8 rfl) (C5 (B7 G_rows_from (hr.mono (by decide)) rfl T.f_rows_from.m T.f_rows_from.F.kp b_rows_from .nil B8 (A2 (A1 (pv 0)) (A2 (A1 (pv 1)) (K1 (pv 3) C4 A0) A0) A0) (he:=A0) (hpl:=(A4 A0 (A4 A0 A3)))))))))))))))) (B1 (D7 (O3 (A5 (A1 (pv 5)) (A5 (A1 (pv 4)) C1 A0) A0)))))))),fun ds Q hl h=>?_⟩)
 obtain⟨m,ws,st,b0,rfl,ok,h0,hst,hb0,q⟩:=h
 have m2:=ok.m2
 left
 refine go ?_;array_mem_dec
 refine⟨⟨by omega,by omega⟩,⟨rfl,by unfold J3;rw[C7,U5];omega⟩,?_⟩
 unfold J3
 rw[show ((m:Nat):Int).toNat=m by simp]
 refine o9 (f:=fun i=>.tuple [.int (0 + ((i:Nat):Int)),.list []]) (fun i hi Q' q'=>?_) ?_
 ·left
  exact⟨by decide,by decide,q'⟩
 left
 refine go ?_;left
 refine⟨rfl,m,ws,st,b0,rfl,ok,hb0.len,?_⟩
 left
 refine go ?_
 unfold V9 A69
 refine⟨fun μ ρ=>∃(b:Tb) (rd:List PyData) (z6 z7 z8 z9:Sl),ρ=[Sl.sh (E8 m ws),Sl.sh (.int st),Sl.sh (.list (D6 b0)),Sl.ow (D6 b),Sl.ow rd,Sl.sh (.list ((P0 m ws st m (b,D9 m none)).map R9)),z6,z7,z8,z9]/\F1 m st b/\A22 st b=μ/\(∀t,T8 m ws st b t->T8 m ws st b0 t)/\rd.length=m/\∀d∈rd,C9s (3 * (m - μ)) d,
  ⟨A22 st b0,b0,_,_,_,_,_,rfl,hb0,rfl,fun t h=>h,by simp,fun d hd=>?_⟩,?_⟩
 ·have hd':d∈(L0 m).map fun i=>PyData.tuple [.int (0 + ((i:Nat):Int)),.list []]:=hd
  obtain⟨i,_,rfl⟩:=O9.mp hd'
  exact⟨_,[],rfl,L4 _⟩
 rintro μ ρ ⟨b,rd,z6,z7,z8,z9,rfl,hb,hμ,hle,hrl,hrd⟩
 obtain⟨r,rs,e1,e2,e3,e4,hR,hok,hfin⟩:=C9r ok h0 hb
 left
 refine⟨m,ws,_,rfl,?_⟩
 by_cases c:m < (P0 m ws st m (b,D9 m none)).length
 ·rw[decide_eq_true c]
  sizeOf_list_dec
  have hne:rs≠[]:=fun z=>by rw[z] at e3;have:=ok.m1;simp at e3;omega
  refine⟨m,ws,_,r,rfl,ok,hok,by omega,e2,hR.risen ok h0 hb hne,fun p n hp hn=>?_⟩
  obtain⟨N,PP,L,f1,f2,f3,f4,W,f6⟩:=B8h ok h0 hb hR p (.inr ⟨n,hn⟩)
  have hN:N.length=m:=by omega
  rw[e1,f1]
  have hbeg:gt b (PP 0)=some (L 0):=W.beg
  have hP0:PP 0 < m:=W.pl ok hb 0 (L4 _)
  refine go ?_;left
  rw[A03 (by rw[hb.len];exact hP0),hbeg]
  right
  refine⟨m,ws,st,b,N,PP,L,rfl,ok,h0,hst,hb,W,hN,fun i j k le g tp tm hij hj hpp hle2 R t1 t2=>?_⟩
  have kl:k<=j - i:=by
   have:=R.kl
   unfold chs at this
   rw[C7,A9f (by omega)] at this
   exact this
  have hfull:PP (i + k) < m:=W.pl ok hb (i + k) (by omega)
  have htrp:Trp ws (PP 0) (A50 N i j k tm) (PP (i + k)):=by
   unfold A50
   refine ((C0a (W.pth (i:=0) (j:=i) (L4 _) (by omega))).app ?_).app (C0a (W.pth (i:=i) (j:=i + k) (by omega) (by omega)))
   have hs:=W.pth (i:=i) (j:=j) (by omega) (by omega)
   rw[<-hpp] at hs
   exact .cons hs (fun z=>by have:=congrArg A6b z;rw[A9f (by omega)] at this;simp at this;omega) t1 t2 (.inr rfl) .nil
  refine go ?_;left
  refine⟨m,ws,PP 0,PP (i + k),_,rfl,htrp,?_⟩
  obtain⟨d0,hd0⟩:∃d,rd[PP 0]?=some d:=⟨_,J6 (by omega)⟩
  obtain⟨q0,ps0,rfl,hps⟩:=hrd d0 (Q8 hd0)
  refine go ?_;left
  rw[j0 hd0]
  left
  refine go ?_;left
  have h3:=@C9w N i j k tm
  have hlk:=B8l st b (PP (i + k)) (by rw[hb.len];exact hfull) (C5z W h0 hb hij (by omega) hpp (by omega))
  have hlm:=@C9v st b
  rw[hb.len] at hlm
  refine⟨by rw[C7];omega,by decide,?_⟩
  rw[A5y (by rw[hrl];exact hfull)]
  left
  refine go ?_;left
  rw[A5y (by rw[r8,hb.len];exact hfull)]
  left
  rw[show (D6 b).set (PP (i + k)) (PyData.int st)=D6 (b.set (PP (i + k)) (some st)) from B0a (x:=some st)]
  refine go ?_;left
  have hb':=C50 h0 hb hfull
  refine⟨rfl,m,ws,st,_,rfl,ok,hb'.len,?_⟩
  left
  refine⟨A22 st (b.set (PP (i + k)) (some st)),by omega,b.set (PP (i + k)) (some st),_,_,_,_,_,rfl,hb',rfl,fun t h=>hle t (h.fill hb hfull fun T hT h1 h2=>C5y W hij (by omega) hpp hle2 R hT h1 h2),by rw[O8];exact hrl,fun d hd=>?_⟩
  rcases List.mem_or_eq_of_mem_set hd with hd | hd
  ·obtain⟨q1,ps1,e,h5⟩:=hrd d hd
   exact⟨q1,ps1,e,by omega⟩
  ·exact⟨_,_,hd,by rw[F5,C7];omega⟩
 ·rw[decide_eq_false c]
  left
  refine go ?_
  left
  refine⟨by decide,?_⟩
  exact q _ r rd e2 (hle _ (hfin (by omega)))
theorem C9y (T:Txt K mg):C9 P w K mg base CX0 8 T.f_highest.a T.f_highest.d ["land", "store", "base"] (spD [.sh,.sh,.sh] C9u):=by
 have G_settled:=@C9x P w K mg base T
 have b_settled:=T.f_settled.b
 refine F2 T.f_highest.F C7t rfl (fun C cdv A outer s H E hr=>⟨_,(@B1 _ _ _ _ (@D7 _ _ _ _ _ (@K0 _ _ _ _ _ _ _ (K0 (K0 (C5 (B7 G_settled (hr.mono (by decide)) rfl T.f_settled.m T.f_settled.F.kp b_settled .nil B8 (A2 (A1 (pv 0)) (A2 (A1 (pv 1)) (A2 (A1 (pv 2)) C4 A0) A0) A0) (he:=A0) (hpl:=(A4 A0 (A4 A0 A3))))) B0 (fun _ _=>rfl)) (A0d B0) (fun _ _=>rfl)) (D4 (D3 (v:=V.int 0) rfl T.mg_TABLE ⟨_,rfl⟩)) (fun _ _=>rfl)))),fun ds Q hl h=>?_⟩)
 obtain⟨m,ws,st,b0,rfl,ok,h0,hst,hb0,q⟩:=h
 left
 refine⟨m,ws,st,b0,rfl,ok,h0,hst,hb0,fun rs r rd hl hL=>?_⟩
 left
 rw[show -(1:Int)=-1 from rfl,A99 (B35 hl)]
 right
 exact q _ hL
end
def C9z:DSp:=fun ds Q=>∃(d:PyData) (sc:Int),ds=[d,.int sc]/\0<=sc/\sc<=1000000000000000000/\∀r:Int,-sc<=r->r<=sc->Q (.int r)
theorem lt2 {r:Int} (h0:0<=r) (h1:r < 2):r=0\/r=1:=by omega
section
variable {P:Program} {w:World} {K:A7} {mg:Str->Option Value} {base:Heap}
theorem C90 (T:Txt K mg):C9 P w K mg base CX0 4 T.f_change.a T.f_change.d ["_law_hand_here", "_law_scale"] (spD [.hd,.sh] C9z):=by
 have G_draw:=@A7n P w K mg base T
 have b_draw:=T.f_draw.b
 refine F2 T.f_change.F C7z rfl (fun C cdv A outer s H E hr=>⟨_,(B1 (D7 (E9 A8m A86 (C5 (B7 G_draw (hr.mono (by decide)) rfl T.f_draw.m T.f_draw.F.kp b_draw .nil B8 (K1 (pv 0) (A2 (E9 L6 P9 (E9 A3u C4k B0 (A1 (pv 1))) B0) C4 F7) A0) (he:=A0) (hpl:=(A4 F7 A3)))) (A1 (pv 1))))),fun ds Q hl h=>?_⟩)
 obtain⟨d,sc,rfl,s0,s1,q⟩:=h
 left
 refine⟨rfl,.inl ⟨by decide,by decide⟩,2 * sc + 1,rfl,by omega,by omega,fun r r0 r1=>?_⟩
 left
 exact q _ (by omega) (by omega)
end
def C91:DSp:=fun ds Q=>∃(d:PyData) (pl wn:Nat) (sc:Int),ds=[d,.int (pl:Nat),.int (wn:Nat),.int sc]/\1<=pl/\pl<=12/\wn<=40/\1<=sc/\sc<=1000000000000000000/\∀m ws,F9 m ws->m<=pl->ws.length<=wn->(∀w∈ws,-sc<=w.2.2/\w.2.2<=sc)->Q (E8 m ws)
def WyB (m:Nat) (sc:Int) (w:Wy):Prop:=w.1 < m/\w.2.1 < m/\-sc<=w.2.2/\w.2.2<=sc
theorem A51 {r:Int} {m:Nat} (h0:0<=r) (h1:r < ((m:Nat):Int)):∃n:Nat,r=((n:Nat):Int)/\n < m:=⟨r.toNat,by omega,by omega⟩
section
variable {P:Program} {w:World} {K:A7} {mg:Str->Option Value} {base:Heap}
theorem C92 (T:Txt K mg):C9 P w K mg base CX0 5 T.f_land.a T.f_land.d ["_law_hand_here", "_law_places", "_law_ways", "_law_scale"] (spD [.hd,.sh,.sh,.sh] C91):=by
 have G_draw:=@A7n P w K mg base T
 have b_draw:=T.f_draw.b
 have G_change:=@C90 P w K mg base T
 have b_change:=T.f_change.b
 refine F2 T.f_land.F A3c rfl (fun C cdv A outer s H E hr=>⟨_,(@D5 _ _ _ _ _ _ (E2 (C0 (i:=4) A3c.nd rfl (A8 rfl) (E9 L6 P9 B0 (C5 (B7 G_draw (hr.mono (by decide)) rfl T.f_draw.m T.f_draw.F.kp b_draw .nil B8 (K1 (pv 0) (A2 (A1 (pv 1)) C4 A0) A0) (he:=A0) (hpl:=(A4 A0 A3))))))) (@D5 _ _ _ _ _ _ (V2 (C0 (i:=5) A3c.nd rfl (A8 rfl) (G5 C1))) (@D5 _ _ _ _ _ _ (@O4 _ _ _ _ _ _ (@O0 _ _ _ _ _ _ _ _ M0 rfl (j6 (i7 rfl T.n_range (A5 (C5 (B7 G_draw (hr.mono (by decide)) rfl T.f_draw.m T.f_draw.F.kp b_draw .nil B8 (K1 (pv 0) (A2 (E9 L6 P9 (A1 (pv 2)) B0) C4 F7) A0) (he:=A0) (hpl:=(A4 F7 A3)))) C1 F4))) (R6 (J7 (i:=6) A3c.nd rfl (A8 rfl))) (@D5 _ _ _ _ _ _ (E2 (C0 (i:=7) A3c.nd rfl (A8 rfl) (C5 (B7 G_draw (hr.mono (by decide)) rfl T.f_draw.m T.f_draw.F.kp b_draw .nil B8 (K1 (pv 0) (A2 (A1 (pv 4)) C4 A0) A0) (he:=A0) (hpl:=(A4 A0 A3)))))) (@D5 _ _ _ _ _ _ (E2 (C0 (i:=8) A3c.nd rfl (A8 rfl) (C5 (B7 G_draw (hr.mono (by decide)) rfl T.f_draw.m T.f_draw.F.kp b_draw .nil B8 (K1 (pv 0) (A2 (A1 (pv 4)) C4 A0) A0) (he:=A0) (hpl:=(A4 A0 A3)))))) (@D5 _ _ _ _ _ _ (@A39 _ _ _ _ (@K6 _ _ _ _ _ _ _ _ _ (F6 (N3 (K3 hr)) N5 (C5 (B7 G_draw (hr.mono (by decide)) rfl T.f_draw.m T.f_draw.F.kp b_draw .nil B8 (K1 (pv 0) (A2 B0 C4 E5) A0) (he:=A0) (hpl:=(A4 E5 A3)))) B0 (D0 _)) (B1 (E2 (C0 (i:=8) A3c.nd rfl (A8 rfl) (E9 i8 B65 (E9 L6 P9 (A1 (pv 7)) B0) (A1 (pv 4)))))) K5)) (@B1 _ _ _ _ (@d3 _ _ _ _ _ _ (@S4 _ _ _ _ (@T6 _ _ _ _ _ _ _ _ _ _ _ _ U6 Y4 Y5 V8 (pv 5) (@B3 _ _ _ _ _ (@O3 _ _ _ _ _ _ (@A5 _ _ _ _ _ _ (A1 (pv 7)) (@A5 _ _ _ _ _ _ (A1 (pv 8)) (@A5 _ _ _ _ _ _ (@C5 _ _ _ _ _ _ _ (@B7 _ _ _ _ _ _ _ _ _ _ _ _ _ _ _ _ G_change (hr.mono (by decide)) rfl T.f_change.m T.f_change.F.kp b_change .nil B8 (K1 (pv 0) (A2 (K0 (E1 (G5 (A5 (A1 (pv 3)) (A5 (A1 (pv 3)) (A5 B0 C1 E5) A0) A0))) (C5 (B7 G_draw (hr.mono (by decide)) rfl T.f_draw.m T.f_draw.F.kp b_draw .nil B8 (K1 (pv 0) (A2 B0 C4 E5) A0) (he:=A0) (hpl:=(A4 E5 A3)))) (fun _ _=>rfl)) C4 B4) A0) (by decide) A0 ((A4 B4 A3)))) C1 F4) A0) A0)) C6 A1o) (by rfl) (by rfl) (by rfl) (by rfl) (by rfl)) (by rfl))))))) (by intro _;rfl))) (B1 (D7 (O3 (A5 (A1 (pv 4)) (A5 (A1 (pv 5)) C1 A0) A0))))))),fun ds Q hl h=>?_⟩)
 obtain⟨d,pl,wn,sc,rfl,p1,p2,w2,s0,s1,q⟩:=h
 left
 refine⟨rfl,_,rfl,by omega,by omega,fun r r0 r1=>?_⟩
 left
 obtain⟨m,hm,mp,m1⟩:∃m:Nat,1 + r=((m:Nat):Int)/\m<=pl/\1<=m/\m<=12:=⟨(1 + r).toNat,by omega,by omega,by omega,by omega⟩
 rw[hm]
 refine go ?_;left
 refine⟨by decide,?_⟩
 refine go ?_;array_mem_dec
 refine⟨rfl,_,rfl,by omega,by omega,fun c c0 c1=>?_⟩
 array_mem_dec
 refine⟨⟨by omega,by omega⟩,fun r ρ=>∃(ws:List Wy) (z6 z7 z8:Sl),ρ=[Sl.hd,Sl.sh (.int (pl:Nat)),Sl.sh (.int (wn:Nat)),Sl.sh (.int sc),Sl.sh (.int (m:Nat)),Sl.ow (ws.map T1),z6,z7,z8]/\r.length + ws.length<=wn/\∀w∈ws,WyB m sc w,⟨[],_,_,_,rfl,by unfold J3;simp;omega,fun w hw=>nomatch hw⟩,?_,?_⟩
 ·rintro x r ρ ⟨ws,z6,z7,z8,rfl,hl2,hw⟩
  sizeOf_list_dec
  refine⟨rfl,_,rfl,by omega,by omega,fun a a0 a1=>?_⟩
  refine go ?_;left
  refine⟨rfl,_,rfl,by omega,by omega,fun b b0 b1=>?_⟩
  refine go ?_
  unfold V9
  obtain⟨a',rfl,ha⟩:=A51 a0 a1
  obtain⟨b',rfl,hb⟩:=A51 b0 b1
  refine⟨fun ρ=>∃e:Nat,e < m/\ρ=[Sl.hd,Sl.sh (.int (pl:Nat)),Sl.sh (.int (wn:Nat)),Sl.sh (.int sc),Sl.sh (.int (m:Nat)),Sl.ow (ws.map T1),Sl.sh x,Sl.sh (.int (a':Nat)),Sl.sh (.int (e:Nat))],?_,?_⟩
  ·left
   refine⟨rfl,_,rfl,by decide,by decide,fun u u0 u1=>?_⟩
   left
   refine⟨rfl,rfl,N1 _ _,?_⟩
   rw[P3]
   cases (u == 0) with
   | true=>
    left
    refine⟨by omega,?_⟩
    obtain⟨e,he,hem⟩:=A51 (r:=(((a':Nat):Int) + 1) % ((m:Nat):Int)) (m:=m) (B5g _ (by omega)) (B5h _ (by omega))
    rw[he]
    exact⟨e,hem,rfl⟩
   | false=>
    left
    exact⟨b',hb,rfl⟩
  ·rintro ρ ⟨e,he,rfl⟩
   refine go ?_;left
   refine⟨rfl,by show 3<=1000;decide,rfl,_,rfl,by decide,by decide,fun u u0 u1=>?_⟩
   left
   obtain⟨sc',hsc,hs0,hs1⟩:∃sc':Int,atI [PyData.int sc,.int sc,.int 1] u=some (.int sc')/\0<=sc'/\sc'<=sc:=by
    have hu:u=0\/u=1\/u=2:=by omega
    rcases hu with rfl | rfl | rfl
    ·exact⟨sc,rfl,by omega,by omega⟩
    ·exact⟨sc,rfl,by omega,by omega⟩
    ·exact⟨1,rfl,by decide,by omega⟩
   rw[hsc]
   left
   refine⟨_,sc',rfl,hs0,by omega,fun v v0 v1=>?_⟩
   left
   refine⟨by decide,by rw[C7];simp at hl2;omega,ws++[(a',e,v)],_,_,_,by rw[P6];rfl,by simp at hl2 ⊢;omega,fun w hw'=>?_⟩
   rcases K7.mp hw' with z | z
   ·exact hw w z
   ·have:w=(a',e,v):=by simpa using z
    subst this
    exact⟨ha,he,show -sc<=v by omega,show v<=sc by omega⟩
 ·rintro ρ ⟨ws,z6,z7,z8,rfl,hl2,hw⟩
  refine go ?_;left
  refine⟨by decide,?_⟩
  exact q m ws ⟨m1.1,m1.2,by simp at hl2;omega,fun w h=>(hw w h).1,fun w h=>(hw w h).2.1,fun w h=>by have:=(hw w h).2.2.1;omega,fun w h=>by have:=(hw w h).2.2.2;omega⟩ mp (by simp at hl2;omega) fun w h=>(hw w h).2.2
end
theorem B38 (n:Nat):J3 0 n=(L0 n).map fun k=>PyData.int ((k:Nat):Int):=by
 unfold J3
 congr 1
 funext i
 rw[Int.zero_add]
def D1 (n:Nat) (d:PyData):Prop:=d.canLay0=true/\d.depth<=n
theorem D1.all {n:Nat}:∀{ds:List PyData},(∀d∈ds,D1 n d)->PyData.canLayAll0 ds=true/\PyData.depthAll ds<=n
 | [],_=>⟨rfl,L4 _⟩
 | d::ds,h=>by
  obtain⟨a,b⟩:=D1.all fun x hx=>h x (A9 _ hx)
  obtain⟨a1,b1⟩:=h d B2
  constructor
  ·show (PyData.canLay0 d&&PyData.canLayAll0 ds)=true
   rw[a,a1];rfl
  ·show max (PyData.depth d) (PyData.depthAll ds)<=n
   omega
theorem D1.lst {n:Nat} {ds:List PyData} (h:∀d∈ds,D1 n d):D1 (n + 1) (.list ds):=by
 obtain⟨a,b⟩:=D1.all h
 refine⟨by rw[PyData.canLay0];exact a,?_⟩
 show PyData.depthAll ds + 1<=n + 1
 omega
theorem D1.tup {n:Nat} {ds:List PyData} (h:∀d∈ds,D1 n d):D1 (n + 1) (.tuple ds):=by
 obtain⟨a,b⟩:=D1.all h
 refine⟨by rw[PyData.canLay0];exact a,?_⟩
 show PyData.depthAll ds + 1<=n + 1
 omega
theorem D1.int {n:Nat} (i:Int):D1 n (.int i):=⟨rfl,L4 _⟩
theorem D1.str {n:Nat} {i:Str} (h:(PyData.str i).canLay0=true):D1 n (.str i):=⟨h,L4 _⟩
theorem D1.way (w:Wy):D1 1 (T1 w):=D1.tup fun d hd=>by
 rcases N2.mp hd with rfl | hd
 ·exact .int _
 rcases N2.mp hd with rfl | hd
 ·exact .int _
 rw[L9.mp hd];exact .int _
theorem D1.land (m:Nat) (ws:List Wy):D1 3 (E8 m ws):=D1.tup fun d hd=>by
 rcases N2.mp hd with rfl | hd
 ·exact .int _
 rw[L9.mp hd]
 exact D1.lst fun d hd=>by
  obtain⟨w,_,rfl⟩:=O9.mp hd
  exact .way w
theorem D1.two {n:Nat} {a b:PyData} (ha:D1 n a) (hb:D1 n b):∀d∈[a,b],D1 n d:=fun d hd=>by
 rcases N2.mp hd with rfl | hd
 ·exact ha
 rw[L9.mp hd];exact hb
theorem D1.dep {n:Nat} {a:PyData} (h:D1 n a) (l:n<=64) (b:PyData):min a.depth b.depth<=64:=by have:=h.2;omega
theorem D1.same {n:Nat} {a:PyData} (h:D1 n a):PyData.eqv a a=true:=PySem.SeqAt.eqv_refl _ h.1
def S0 (ts:List Tb):List PyData:=ts.map fun t=>.list (D6 t)
theorem C0i {N k:Nat} {x:PyData} {r:List PyData} (h:x::r=(J3 0 N).drop k):x=.int (k:Nat)/\r=(J3 0 N).drop (k + 1)/\k < N:=by
 have hk:k < (J3 0 N).length:=by
  rcases c4 k (J3 0 N).length with c | c
  ·exact c
  ·rw[A1a c] at h;cases h
 rw[g6 hk] at h
 injection h with h1 h2
 obtain⟨hk',e⟩:=B7r (J6 hk)
 exact⟨by rw[h1,e,Int.zero_add],h2,hk'⟩
theorem C0j {N k:Nat} (h:[]=(J3 0 N).drop k):N<=k:=by
 have:=congrArg A6b h
 unfold J3 at this
 simp at this
 omega
section
variable {P:Program} {w:World} {K:A7} {mg:Str->Option Value} {base:Heap}
end
def G1 (q:Sp2):PyData:=.tuple [.int (q.1:Nat),.int q.2]
def sIn (s k:Nat):Bool:=decide (s / 2 ^ k % 2=1)
def tbs (ts:List Tb) (s:Nat):Tb:=(ts[s]?).getD []
def lvG (st:Int) (ts:List Tb) (r:Nat) (q:Sp2):Option Int:=(gt (tbs ts r) q.1).bind fun x=>E4 st x q.2
def j8 (n s:Nat):List Nat:=(L0 n).filter (sIn s)
structure W2 (m:Nat) (sp:List Sp2):Prop where
 few:sp.length<=4
 pl:∀q∈sp,q.1 < m
 gf:∀q∈sp,0<=q.2
structure Bas (m:Nat) (st:Int) (sp:List Sp2) (ts:List Tb) (s:Nat) (ks:List Nat) (c:Tb):Prop where
 tab:F1 m st c
 up:∀k∈ks,∀q,sp[k]?=some q->leO (lvG st ts (s - 2 ^ k) q) (gt c q.1)
 le:∀L:Tb,(∀k∈ks,∀q,sp[k]?=some q->leO (lvG st ts (s - 2 ^ k) q) (gt L q.1))->leT c L
def A04 (m:Nat) (st:Int) (sp:List Sp2) (ts:List Tb) (b:Tb) (s:Nat) (c:Tb):Prop:=(s=0/\c=b)\/(0 < s/\Bas m st sp ts s (j8 sp.length s) c)
theorem C93 {m:Nat} {st:Int}:F1 m st (D9 m none):=⟨k6,fun p x e=>by rw[A0n] at e;cases e⟩
theorem Bas.nil {m:Nat} {st:Int} {sp:List Sp2} {ts:List Tb} {s:Nat}:Bas m st sp ts s [] (D9 m none):=
 ⟨C93,fun k hk=>(nomatch hk),fun L _ p=>by rw[A0n];exact A20⟩
theorem C94 {st:Int} {ts:List Tb} {r:Nat} {q:Sp2} {x:Int} (h0:0<=st) (h:lvG st ts r q=some x):0<=x/\x<=st:=by
 unfold lvG at h
 cases e:gt (tbs ts r) q.1 with
 | none=>rw[e] at h;cases h
 | some l=>rw[e] at h;exact A7c h0 h
theorem Bas.put {m:Nat} {st:Int} {sp:List Sp2} {ts:List Tb} {s:Nat} {ks:List Nat} {c:Tb} {k:Nat} {q:Sp2} (h0:0<=st) (B:Bas m st sp ts s ks c) (hq:sp[k]?=some q) (hm:q.1 < m) (h:R7 (lvG st ts (s - 2 ^ k) q) (gt c q.1)=true):Bas m st sp ts s (ks++[k]) (c.set q.1 (lvG st ts (s - 2 ^ k) q)):=by
 have hl:q.1 < c.length:=by rw[B.tab.len];exact hm
 have hle:leT c (c.set q.1 (lvG st ts (s - 2 ^ k) q)):=fun p=>by
  rw[Z4 hl]
  split
  ·rename_i e;cases e;exact B77 h
  ·exact d4 _
 refine⟨⟨by rw[O8];exact B.tab.len,fun p x e=>?_⟩,fun j hj r hr=>?_,fun L hL p=>?_⟩
 ·rw[Z4 hl] at e
  split at e
  ·exact C94 h0 e
  ·exact B.tab.bd p x e
 ·rcases K7.mp hj with z | z
  ·exact V3 (B.up j z r hr) (hle _)
  ·have:j=k:=by simpa using z
   subst this
   rw[hq] at hr
   cases hr
   rw[Z4 hl,if_pos rfl]
   exact d4 _
 ·rw[Z4 hl]
  split
  ·rename_i e
   cases e
   exact hL k (S1 _ B2) q hq
  ·exact B.le L (fun j hj=>hL j (f8 _ hj)) p
theorem Bas.keep {m:Nat} {st:Int} {sp:List Sp2} {ts:List Tb} {s:Nat} {ks:List Nat} {c:Tb} {k:Nat} {q:Sp2} (B:Bas m st sp ts s ks c) (hq:sp[k]?=some q) (h:leO (lvG st ts (s - 2 ^ k) q) (gt c q.1)):Bas m st sp ts s (ks++[k]) c:=by
 refine⟨B.tab,fun j hj r hr=>?_,fun L hL=>B.le L fun j hj=>hL j (f8 _ hj)⟩
 rcases K7.mp hj with z | z
 ·exact B.up j z r hr
 ·have:j=k:=by simpa using z
  subst this
  rw[hq] at hr
  cases hr
  exact h
theorem B39 {s k:Nat} (h:sIn s k=true):2 ^ k<=s:=by
 have h1:s / 2 ^ k % 2=1:=of_decide_eq_true h
 rcases c4 s (2 ^ k) with c | c
 ·rw[Nat.div_eq_of_lt c] at h1;cases h1
 ·exact c
theorem B4a {n s k:Nat} (h:k∈j8 n s):k < n/\sIn s k=true:=by
 obtain⟨h1,h2⟩:=k0.mp h
 exact⟨N9.mp h1,h2⟩
theorem Bas.cong {m:Nat} {st:Int} {sp:List Sp2} {ts us:List Tb} {s n:Nat} {c:Tb} (h:∀r,r < s->tbs ts r=tbs us r) (B:Bas m st sp ts s (j8 n s) c):Bas m st sp us s (j8 n s) c:=by
 have e:∀k∈j8 n s,∀q,lvG st ts (s - 2 ^ k) q=lvG st us (s - 2 ^ k) q:=fun k hk q=>by
  have h2:=B39 (B4a hk).2
  have h3:0 < 2 ^ k:=C1r (by simp)
  unfold lvG
  rw[h (s - 2 ^ k) (by omega)]
 exact⟨B.tab,fun k hk q hq=>by rw[<-e k hk];exact B.up k hk q hq,fun L hL=>B.le L fun k hk q hq=>by rw[e k hk];exact hL k hk q hq⟩
theorem A04.cong {m:Nat} {st:Int} {sp:List Sp2} {ts us:List Tb} {s:Nat} {b c:Tb} (h:∀r,r < s->tbs ts r=tbs us r) (B:A04 m st sp ts b s c):A04 m st sp us b s c:=by
 rcases B with z | ⟨z,B⟩
 ·exact .inl z
 ·exact .inr ⟨z,B.cong h⟩
theorem A04.tab {m:Nat} {st:Int} {sp:List Sp2} {ts:List Tb} {s:Nat} {b c:Tb} (hb:F1 m st b) (B:A04 m st sp ts b s c):F1 m st c:=by
 rcases B with ⟨_,rfl⟩ | ⟨_,B⟩
 ·exact hb
 ·exact B.tab
def A7q (m:Nat) (ws:List Wy) (st:Int) (sp:List Sp2) (b:Tb) (ts:List Tb):Prop:=∀s,s < ts.length->∃c,A04 m st sp ts b s c/\T8 m ws st c (tbs ts s)
structure u8 (m:Nat) (ws:List Wy) (st:Int) (sp:List Sp2) (b:Tb) (ts:List Tb):Prop where
 len:ts.length=2 ^ sp.length
 all:A7q m ws st sp b ts
theorem B4b {ts us:List Tb} {r:Nat} (h:r < ts.length):tbs (ts++us) r=tbs ts r:=by
 unfold tbs
 rw[b7 h]
theorem B4c {ts:List Tb} {r:Nat} (h:r < ts.length):ts[r]?=some (tbs ts r):=by
 unfold tbs
 rw[J6 h]
 rfl
theorem B4d {ts:List Tb} {t:Tb} (h:t∈ts):∃s,s < ts.length/\tbs ts s=t:=by
 obtain⟨p,hp,e⟩:=A6e.mp h
 exact⟨p,hp,by unfold tbs;rw[J6 hp,e];rfl⟩
theorem B4e {ts:List Tb} {s:Nat} (h:s < ts.length):tbs ts s∈ts:=Q8 (B4c h)
theorem A7q.snoc {m:Nat} {ws:List Wy} {st:Int} {sp:List Sp2} {b:Tb} {ts:List Tb} {c t:Tb} (h:A7q m ws st sp b ts) (B:A04 m st sp ts b ts.length c) (L:T8 m ws st c t):A7q m ws st sp b (ts++[t]):=fun s hs=>by
 rw[F5,A07] at hs
 rcases c4 s ts.length with z | z
 ·obtain⟨c,B',L'⟩:=h s z
  exact⟨c,B'.cong fun r hr=>(B4b (by omega)).symm,by rw[B4b z];exact L'⟩
 ·have:s=ts.length:=by omega
  subst this
  refine⟨c,B.cong fun r hr=>(B4b hr).symm,?_⟩
  have e:tbs (ts++[t]) ts.length=t:=by unfold tbs;simp
  rw[e]
  exact L
structure B4f (m:Nat) (ws:List Wy) (st:Int) (sp:List Sp2) (b:Tb) (ts:List Tb):Prop where
 len:ts.length=2 ^ sp.length
 tab:∀t∈ts,F1 m st t
 cl:∀t∈ts,A0p ws st t
 b0:leT b (tbs ts 0)
 use:∀s,s < ts.length->∀k q,sp[k]?=some q->sIn s k=true->leO (lvG st ts (s - 2 ^ k) q) (gt (tbs ts s) q.1)
theorem A52 (n:Nat):0 < 2 ^ n:=C1r (by simp)
theorem C0k {sp:List Sp2} {k:Nat} {q:Sp2} (h:sp[k]?=some q):k < sp.length:=by
 rcases c4 k sp.length with c | c
 ·exact c
 ·rw[Y2 c] at h;cases h
theorem C95 {n s k:Nat} (h:k < n) (h2:sIn s k=true):k∈j8 n s:=k0.mpr ⟨N9.mpr h,h2⟩
theorem C96 {s k:Nat} (h:sIn s k=true):0 < s:=Q7 (A52 k) (B39 h)
theorem u8.lid {m:Nat} {ws:List Wy} {st:Int} {sp:List Sp2} {b:Tb} {ts:List Tb} (h:u8 m ws st sp b ts):B4f m ws st sp b ts:=by
 refine⟨h.len,fun t ht=>?_,fun t ht=>?_,?_,fun s hs k q hq hk=>?_⟩
 ·obtain⟨s,hs,rfl⟩:=B4d ht
  obtain⟨c,_,L⟩:=h.all s hs
  exact L.tab
 ·obtain⟨s,hs,rfl⟩:=B4d ht
  obtain⟨c,_,L⟩:=h.all s hs
  exact L.cl
 ·obtain⟨c,B,L⟩:=h.all 0 (by rw[h.len];exact A52 _)
  rcases B with ⟨_,rfl⟩ | ⟨z,_⟩
  ·exact L.up
  ·exact absurd z (by decide)
 ·obtain⟨c,B,L⟩:=h.all s hs
  rcases B with ⟨z,_⟩ | ⟨_,B⟩
  ·have:=C96 hk;omega
  ·exact V3 (B.up k (C95 (C0k hq) hk) q hq) (L.up _)
theorem C0l:∀n,n < 5->∀k,k < n->∀s,s < 2 ^ n->sIn s k=false->sIn (s + 2 ^ k) k=true/\s + 2 ^ k < 2 ^ n:=by decide
theorem C97:∀k,k < 4->∀s,s < 16->decide (Builtin.bitAnd ((s:Nat):Int) ((2 ^ k:Nat):Int)=0)=!sIn s k:=by decide
theorem B4f.next {m:Nat} {ws:List Wy} {st:Int} {sp:List Sp2} {b:Tb} {ts:List Tb} {s k:Nat} {q:Sp2} (hf:sp.length<=4) (g:B4f m ws st sp b ts) (hs:s < ts.length) (hq:sp[k]?=some q) (h:sIn s k=false):s + 2 ^ k < ts.length/\leO (lvG st ts s q) (gt (tbs ts (s + 2 ^ k)) q.1):=by
 obtain⟨h1,h2⟩:=C0l sp.length (by omega) k (C0k hq) s (by rw[<-g.len];exact hs) h
 have h3:s + 2 ^ k < ts.length:=by rw[g.len];exact h2
 have:=g.use (s + 2 ^ k) h3 k q hq h1
 rw[Nat.add_sub_cancel] at this
 exact⟨h3,this⟩
theorem B4g (ts:List Tb):(S0 ts).length=ts.length:=C7 _
theorem C98 {ts:List Tb} {r:Nat} (h:r < ts.length):atI (S0 ts) ((r:Nat):Int)=some (.list (D6 (tbs ts r))):=j0 (by unfold S0;rw[O7,B4c h];rfl)
theorem B4h {sp:List Sp2} {k:Nat} {q:Sp2} (h:sp[k]?=some q):atI (sp.map G1) ((k:Nat):Int)=some (G1 q):=j0 (by rw[O7,h];rfl)
theorem C0m {sp:List Sp2} {k:Nat} (h:k < sp.length):∃q,sp[k]?=some q:=⟨_,J6 h⟩
def C99:DSp:=fun ds Q=>∃k:Nat,ds=[.int (k:Nat)]/\k<=900/\Q (.int ((2 ^ k:Nat):Int))
def D0a:DSp:=fun ds Q=>∃(sp:List Sp2) (s:Nat),ds=[.list (sp.map G1),.int (s:Nat)]/\sp.length<=4/\s < 2 ^ sp.length/\Q (.list (numL (j8 sp.length s)))
def D0b:DSp:=fun ds Q=>∃(m:Nat) (st:Int) (sp:List Sp2) (ts:List Tb) (s k:Nat) (q:Sp2),ds=[.int st,.list (sp.map G1),.list (S0 ts),.int (s:Nat),.int (k:Nat)]/\k<=900/\sp[k]?=some q/\2 ^ k<=s/\s - 2 ^ k < ts.length/\q.1 < m/\(∀t∈ts,F1 m st t)/\Q (oD (lvG st ts (s - 2 ^ k) q))
def D0c:DSp:=fun ds Q=>∃(m:Nat) (st:Int) (sp:List Sp2) (ts:List Tb) (b:Tb) (s:Nat),ds=[.int st,.list (sp.map G1),.list (S0 ts),.list (D6 b),.int (s:Nat)]/\W2 m sp/\0<=st/\F1 m st b/\m<=900/\s < 2 ^ sp.length/\s<=ts.length/\(∀t∈ts,F1 m st t)/\∀c,A04 m st sp ts b s c->Q (.list (D6 c))
def D0d:DSp:=fun ds Q=>∃(m:Nat) (ws:List Wy) (st:Int) (sp:List Sp2) (b:Tb),ds=[E8 m ws,.int st,.list (sp.map G1),.list (D6 b)]/\F9 m ws/\0<=st/\st<=1000000000000000000000/\W2 m sp/\F1 m st b/\∀ts,u8 m ws st sp b ts->Q (.list (S0 ts))
theorem pw4:∀n,n < 5->2 ^ n<=16:=by decide
theorem ixS {ts:List Tb} {s k:Nat} (h:2 ^ k<=s):((s:Nat):Int) - ((2 ^ k:Nat):Int)=((s - 2 ^ k:Nat):Int):=by omega
section
variable {P:Program} {w:World} {K:A7} {mg:Str->Option Value} {base:Heap}
theorem B4i (T:Txt K mg):C9 P w K mg base CX0 1 T.f_alone.a T.f_alone.d ["number"] (spD [.sh] C99):=by
 refine F2 T.f_alone.F C7u rfl (fun C cdv A outer s H E hr=>⟨_,(B1 (D7 (E9 B04 B2h B0 (A1 (pv 0))))),fun ds Q hl h=>?_⟩)
 obtain⟨k,rfl,hk,q⟩:=h
 left
 refine⟨⟨by omega,by omega,by decide⟩,?_⟩
 rw[show (1:Int) * 2 ^ (((k:Nat):Int)).toNat=((2 ^ k:Nat):Int) by rw[Int.one_mul,k7,Int.natCast_pow];rfl]
 exact q
theorem D0e (T:Txt K mg):C9 P w K mg base CX0 2 T.f_numbers_in.a T.f_numbers_in.d ["springs", "some"] (spD [.sh,.sh] D0a):=by
 have G_alone:=@B4i P w K mg base T
 have b_alone:=T.f_alone.b
 refine F2 T.f_numbers_in.F C7v rfl (fun C cdv A outer s H E hr=>⟨_,(@B1 _ _ _ _ (@D7 _ _ _ _ _ (@E1 _ _ _ _ (@o8 _ _ _ _ _ _ _ _ rfl (@j2 _ _ _ _ _ _ _ _ _ _ _ _ _ _ _ (O1.new (N:=["springs", "some"]) (osc:=C2 A9u) (by decide +kernel)) rfl (j6 (i7 rfl T.n_range (A5 (X1 (F8 S5 rfl T.n_len S7 (B3 (pv 0) C6 A0) (he:=A0) (hpl:=A3))) C1 F4))) (fun _=>(A8y (F6 (A1l (K3 hr)) N5 (E9 x6 A0r (A1 (pv 1)) (C5 (B7 G_alone (hr.mono (by decide)) rfl T.f_alone.m T.f_alone.F.kp b_alone .nil B8 (A2 (A1 (pv 2)) C4 A0) (he:=A0) (hpl:=A3)))) B0 (D0 _)))) (fun _=>(A1 (pv 2))) (by rfl) (by rfl) (by intro _;rfl)))))),fun ds Q hl h=>?_⟩)
 obtain⟨sp,s,rfl,few,hs,q⟩:=h
 have s16:=pw4 sp.length (by omega)
 array_mem_dec
 rw[C7]
 refine⟨⟨by omega,by omega⟩,⟨rfl,by unfold J3;rw[C7,U5];omega⟩,?_⟩
 rw[k7,B38]
 refine A7b (p:=fun k=>sIn s k) (f:=fun k=>.int ((k:Nat):Int)) (fun k hk Q' q'=>?_) (fun k hk _ Q' q'=>?_) ?_
 ·have hk:=N9.mp hk
  left
  refine⟨k,rfl,by omega,?_⟩
  left
  refine⟨rfl,rfl,N1 _ _,?_⟩
  rw[P3]
  have e:=C97 k (by omega) s (by omega)
  have e2:(Builtin.bitAnd ((s:Nat):Int) ((2 ^ k:Nat):Int) == 0)=!sIn s k:=e
  rw[e2]
  left
  rw[Bool.not_not]
  exact q'
 ·left
  exact q'
 ·rw[Q1]
  exact q
theorem D0f (T:Txt K mg):C9 P w K mg base CX0 2 T.f_level_by_spring.a T.f_level_by_spring.d ["store", "springs", "tables", "some", "number"] (spD [.sh,.sh,.bo,.sh,.sh] D0b):=by
 have G_alone:=@B4i P w K mg base T
 have b_alone:=T.f_alone.b
 have G_stepped:=@B34 P w K mg base T
 have b_stepped:=T.f_stepped.b
 refine F2 T.f_level_by_spring.F B94 rfl (fun C cdv A outer s H E hr=>⟨_,(@F0 _ _ _ _ _ _ (@E2 _ _ _ _ _ (@C0 _ _ 5 _ _ _ _ B94.nd rfl (A8 rfl) (K0 (B5 (pv 2) (E9 A8m A86 (A1 (pv 3)) (C5 (B7 G_alone (hr.mono (by decide)) rfl T.f_alone.m T.f_alone.F.kp b_alone .nil B8 (A2 (A1 (pv 4)) C4 A0) (he:=A0) (hpl:=A3)))) (fun _ _=>rfl)) (K0 (B5 (pv 1) (A1 (pv 4)) (fun _ _=>rfl)) (D4 (D3 (v:=V.int 0) rfl T.mg_PLACE_springs ⟨_,rfl⟩)) (fun _ _=>rfl)) (fun _ _=>rfl)) (by rfl) (by first | exact .inl rfl | exact .inr rfl | assumption))) (@B1 _ _ _ _ (@D7 _ _ _ _ _ (@A31 _ _ _ _ _ _ _ _ _ (F6 l6 A0e (A1 (pv 5)) G0 (D0 _)) G0 (C5 (B7 G_stepped (hr.mono (by decide)) rfl T.f_stepped.m T.f_stepped.F.kp b_stepped .nil B8 (A2 (A1 (pv 0)) (A2 (A1 (pv 5)) (A2 (K0 (B5 (pv 1) (A1 (pv 4)) (fun _ _=>rfl)) (D4 (D3 (v:=V.int 1) rfl T.mg_GIFT ⟨_,rfl⟩)) (fun _ _=>rfl)) C4 B4) A0) A0) (he:=A0) (hpl:=(A4 A0 (A4 B4 A3))))))))),fun ds Q hl h=>?_⟩)
 obtain⟨m,st,sp,ts,s,k,p,rfl,hk,hp,hle,hlt,hm,hT,q⟩:=h
 have tl:=(hT _ (B4e hlt)).len
 left
 refine⟨k,rfl,by omega,?_⟩
 left
 rw[ixS (ts:=ts) hle,C98 hlt]
 left
 rw[B4h hp]
 unfold G1
 left
 rw[A03 (by rw[tl];exact hm)]
 left
 unfold lvG at q
 cases e:gt (tbs ts (s - 2 ^ k)) p.1 with
 | none=>
  rw[e] at q
  right
  exact q
 | some x=>
  rw[e] at q
  right
  exact M4 ⟨st,x,p.2,rfl,q⟩
theorem D0g (T:Txt K mg):C9 P w K mg base CX0 3 T.f_base_by.a T.f_base_by.d ["store", "springs", "tables", "base", "some"] (spD [.sh,.sh,.bo,.sh,.sh] D0c):=by
 have G_numbers_in:=@D0e P w K mg base T
 have b_numbers_in:=T.f_numbers_in.b
 have G_level_by_spring:=@D0f P w K mg base T
 have b_level_by_spring:=T.f_level_by_spring.b
 have G_is_more:=@B97 P w K mg base T
 have b_is_more:=T.f_is_more.b
 refine F2 T.f_base_by.F A94 rfl (fun C cdv A outer s H E hr=>⟨_,(@D5 _ _ _ _ _ _ (A39 (K6 (F6 (N3 (K3 hr)) N5 (A1 (pv 4)) B0 (D0 _))
   (B1 (D7 (A1 (pv 3))))
   K5)) (@D5 _ _ _ _ _ _ (V2 (C0 (i:=5) A94.nd rfl (A8 rfl) (A88 (E1 (G5 (A5 G0 C1 E5))) (X1 (F8 S5 rfl T.n_len S7 (B3 (pv 3) C6 A0) (he:=A0) (hpl:=A3)))))) (@D5 _ _ _ _ _ _ (@A39 _ _ _ _ (@O4 _ _ _ _ _ _ (@O0 _ _ _ _ _ _ _ _ M0 rfl (A2r (C5 (B7 G_numbers_in (hr.mono (by decide)) rfl T.f_numbers_in.m T.f_numbers_in.F.kp b_numbers_in .nil B8 (A2 (A1 (pv 1)) (A2 (A1 (pv 4)) C4 A0) A0) (he:=A0) (hpl:=(A4 A0 A3))))) (R6 (J7 (i:=6) A94.nd rfl (A8 rfl))) (@D5 _ _ _ _ _ _ (@E2 _ _ _ _ _ (@C0 _ _ 7 _ _ _ _ A94.nd rfl (A8 rfl) (C5 (B7 G_level_by_spring (hr.mono (by decide)) rfl T.f_level_by_spring.m T.f_level_by_spring.F.kp b_level_by_spring .nil B8 (A2 (A1 (pv 0)) (A2 (A1 (pv 1)) (K1 (pv 2) (A2 (A1 (pv 4)) (A2 (A1 (pv 6)) C4 A0) A0) A0) A0) A0) (he:=A0) (hpl:=(A4 A0 (A4 A0 (A4 A0 (A4 A0 A3))))))) (by rfl) (by first | exact .inl rfl | exact .inr rfl | assumption))) (@B1 _ _ _ _ (@K6 _ _ _ _ _ _ _ _ _ (A0c (C5 (B7 G_is_more (hr.mono (by decide)) rfl T.f_is_more.m T.f_is_more.F.kp b_is_more .nil B8 (A2 (A1 (pv 7)) (A2 (B5 (pv 5) (K0 (B5 (pv 1) (A1 (pv 6)) (fun _ _=>rfl)) (D4 (D3 (v:=V.int 0) rfl T.mg_PLACE_springs ⟨_,rfl⟩)) (fun _ _=>rfl)) (fun _ _=>rfl)) C4 B4) A0) (he:=A0) (hpl:=(A4 B4 A3))))) (B1 (A4b (U8 (A1 (pv 7)) (W6 (pv 5) (K0 (B5 (pv 1) (A1 (pv 6)) (fun _ _=>rfl)) (D4 (D3 (v:=V.int 0) rfl T.mg_PLACE_springs ⟨_,rfl⟩)) (fun _ _=>rfl)) U9)))) K5))) (by intro _;rfl)))) (B1 (D7 (A1 (pv 5))))))),fun ds Q hl h=>?_⟩)
 obtain⟨m,st,sp,ts,b,s,rfl,ok,s0,hb,m2,hs,hl2,hT,q⟩:=h
 have few:=ok.few
 have bl:=hb.len
 (try unfold V9);(try unfold A38)
 refine⟨fun ρ'=>0 < s/\ρ'=[Sl.sh (.int st),Sl.sh (.list (sp.map G1)),Sl.bo (S0 ts),Sl.sh (.list (D6 b)),Sl.sh (.int (s:Nat)),.no,.no,.no],?_,?_⟩
 ·left
  refine⟨rfl,rfl,N1 _ _,?_⟩
  rw[P3]
  by_cases c:s=0
  ·subst c
   refine L5 ?_
   exact q b (.inl ⟨rfl,rfl⟩)
  ·rw[show (((s:Nat):Int) == 0)=false from beq_eq_false_iff_ne.mpr (by omega)]
   exact M4 ⟨by omega,rfl⟩
 rintro ρ ⟨hs0,rfl⟩
 try dsimp only
 refine go ?_;left
 refine⟨by decide,⟨by rw[r8];omega,by rw[r8];omega,by decide⟩,?_⟩
 rw[r8,bl,k7,B99]
 refine go ?_
 (try unfold V9);(try unfold A38)
 refine⟨fun ρ'=>∃(c:Tb) (z6 z7:Sl),Bas m st sp ts s (j8 sp.length s) c/\ρ'=[Sl.sh (.int st),Sl.sh (.list (sp.map G1)),Sl.bo (S0 ts),Sl.sh (.list (D6 b)),Sl.sh (.int (s:Nat)),Sl.ow (D6 c),z6,z7],?_,?_⟩
 ·array_get_dec
  refine⟨sp,s,rfl,few,hs,?_⟩
  array_get_dec
  refine⟨fun r ρ=>∃(ks R:List Nat) (c:Tb) (z6 z7:Sl),r=numL R/\ks++R=j8 sp.length s/\Bas m st sp ts s ks c/\ρ=[Sl.sh (.int st),Sl.sh (.list (sp.map G1)),Sl.bo (S0 ts),Sl.sh (.list (D6 b)),Sl.sh (.int (s:Nat)),Sl.ow (D6 c),z6,z7],⟨[],_,_,_,_,rfl,rfl,Bas.nil,rfl⟩,?_,?_⟩
  ·rintro x r ρ ⟨ks,R,c,z6,z7,h1,h2,B,rfl⟩
   cases R with
   | nil=>cases h1
   | cons k R=>
    cases (show x::r=PyData.int ((k:Nat):Int)::numL R from h1)
    have hk:=B4a (n:=sp.length) (s:=s) (k:=k) (by rw[<-h2];exact S1 _ B2)
    obtain⟨p,hp⟩:=C0m hk.1
    have hpm:=ok.pl p (Q8 hp)
    have hle:=B39 hk.2
    have hpp:=A52 k
    have cl:=B.tab.len
    have h3:(ks++[k])++R=j8 sp.length s:=by rw[L1];exact h2
    sizeOf_list_dec
    refine⟨rfl,m,st,sp,ts,s,k,p,rfl,by omega,hp,hle,by omega,hpm,hT,?_⟩
    refine go ?_;left
    rw[B4h hp]
    unfold G1
    left
    rw[A03 (by rw[cl];exact hpm)]
    left
    refine⟨_,_,rfl,?_⟩
    cases e:R7 (lvG st ts (s - 2 ^ k) p) (gt c p.1) with
    | false=>
     left
     exact⟨ks++[k],R,c,_,_,rfl,h3,B.keep hp e,rfl⟩
    | true=>
     left
     rw[A5y (by rw[r8,cl];exact hpm)]
     left
     rw[B0a]
     exact⟨ks++[k],R,_,_,_,rfl,h3,B.put s0 hp hpm e,rfl⟩
  ·rintro ρ ⟨ks,R,c,z6,z7,h1,h2,B,rfl⟩
   cases R with
   | cons k R=>cases h1
   | nil=>
    rw[Q0] at h2
    rw[h2] at B
    exact⟨c,z6,z7,B,rfl⟩
 rintro ρ ⟨c,z6,z7,B,rfl⟩
 try dsimp only
 refine go ?_;left
 exact q c (.inr ⟨hs0,B⟩)
theorem D0h (T:Txt K mg):C9 P w K mg base CX0 9 T.f_highest_by.a T.f_highest_by.d ["land", "store", "springs", "base"] (spD [.sh,.sh,.sh,.sh] D0d):=by
 have G_alone:=@B4i P w K mg base T
 have b_alone:=T.f_alone.b
 have G_base_by:=@D0g P w K mg base T
 have b_base_by:=T.f_base_by.b
 have G_highest:=@C9y P w K mg base T
 have b_highest:=T.f_highest.b
 refine F2 T.f_highest_by.F B30 rfl (fun C cdv A outer s H E hr=>⟨_,(@D5 _ _ _ _ _ _ (V2 (C0 (i:=4) B30.nd rfl (A8 rfl) (G5 C1))) (@D5 _ _ _ _ _ _ (@O4 _ _ _ _ _ _ (@O0 _ _ _ _ _ _ _ _ M0 rfl (j6 (i7 rfl T.n_range (A5 (C5 (B7 G_alone (hr.mono (by decide)) rfl T.f_alone.m T.f_alone.F.kp b_alone .nil B8 (A2 (X1 (F8 S5 rfl T.n_len S7 (B3 (pv 2) C6 A0) (he:=A0) (hpl:=A3))) C4 F4) (he:=F4) (hpl:=A3))) C1 F4))) (R6 (J7 (i:=5) B30.nd rfl (A8 rfl))) (@B1 _ _ _ _ (@d3 _ _ _ _ _ _ (@S4 _ _ _ _ (@T6 _ _ _ _ _ _ _ _ _ _ _ _ U6 Y4 Y5 V8 (pv 4) (@B3 _ _ _ _ _ (@C5 _ _ _ _ _ _ _ (@B7 _ _ _ _ _ _ _ _ _ _ _ _ _ _ _ _ G_highest (hr.mono (by decide)) rfl T.f_highest.m T.f_highest.F.kp b_highest .nil B8 (@A2 _ _ _ _ _ _ (A1 (pv 0)) (@A2 _ _ _ _ _ _ (A1 (pv 1)) (A2 (C5 (B7 G_base_by (hr.mono (by decide)) rfl T.f_base_by.m T.f_base_by.F.kp b_base_by .nil B8 (A2 (A1 (pv 1)) (A2 (A1 (pv 2)) (K1 (pv 4) (A2 (A1 (pv 3)) (A2 (A1 (pv 5)) C4 A0) A0) A0) A0) A0) (he:=A0) (hpl:=(A4 A0 (A4 A0 (A4 A0 (A4 A0 A3))))))) C4 F4) A0) A0) (by decide) A0 ((A4 A0 (A4 F4 A3))))) C6 F4) (by rfl) (by rfl) (by rfl) (by rfl) (by rfl)) (by rfl)))) (by intro _;rfl))) (B1 (D7 (A1 (pv 4)))))),fun ds Q hl h=>?_⟩)
 obtain⟨m,ws,st,sp,b,rfl,ok,s0,s1,so,hb,q⟩:=h
 have m2:=ok.m2
 have few:=so.few
 have p16:=pw4 sp.length (by omega)
 have pp:=A52 sp.length
 left
 refine⟨by decide,?_⟩
 refine go ?_;array_mem_dec
 rw[C7]
 refine⟨sp.length,rfl,by omega,?_⟩
 array_get_dec
 refine⟨⟨by omega,by omega⟩,?_⟩
 rw[k7]
 refine⟨fun r ρ=>∃(ts:List Tb) (z5:Sl),r=(J3 0 (2 ^ sp.length)).drop ts.length/\ρ=[Sl.sh (E8 m ws),Sl.sh (.int st),Sl.sh (.list (sp.map G1)),Sl.sh (.list (D6 b)),Sl.ow (S0 ts),z5]/\A7q m ws st sp b ts/\ts.length<=2 ^ sp.length,⟨[],_,rfl,rfl,fun s hs=>absurd hs (Nat.not_lt_zero _),L4 _⟩,?_,?_⟩
 ·rintro x r ρ ⟨ts,z5,h1,rfl,hP,hle⟩
  obtain⟨rfl,rfl,hk⟩:=C0i h1
  have hT:∀t∈ts,F1 m st t:=fun t ht=>by
   obtain⟨s,hs,rfl⟩:=B4d ht
   obtain⟨c,_,L⟩:=hP s hs
   exact L.tab
  sizeOf_list_dec
  refine⟨rfl,m,st,sp,ts,b,ts.length,rfl,so,s0,hb,by omega,hk,D2 _,hT,fun c B=>?_⟩
  left
  refine⟨m,ws,st,c,rfl,ok,s0,s1,B.tab hb,fun t L=>?_⟩
  left
  refine⟨by rw[B4g];omega,ts++[t],Sl.sh (.int (ts.length:Nat)),?_,?_,hP.snoc B L,?_⟩
  ·rw[F5,A07]
  ·unfold S0;rw[P6];rfl
  ·rw[F5,A07];omega
 ·rintro ρ ⟨ts,z5,h1,rfl,hP,hle⟩
  have:=C0j h1
  refine go ?_;left
  exact q ts ⟨by omega,hP⟩
end
def D0i:DSp:=fun ds Q=>∃(d:PyData) (m:Nat) (st:Int) (mo:Nat),ds=[d,.int (m:Nat),.int st,.int (mo:Nat)]/\1<=m/\m<=12/\0<=st/\st<=100000000000000000000/\mo<=4/\∀sp,W2 m sp->Q (.list (sp.map G1))
section
variable {P:Program} {w:World} {K:A7} {mg:Str->Option Value} {base:Heap}
theorem D0j (T:Txt K mg):C9 P w K mg base CX0 4 T.f_springs.a T.f_springs.d ["_law_hand_here", "_law_many", "_law_store", "_law_most"] (spD [.hd,.sh,.sh,.sh] D0i):=by
 have G_draw:=@A7n P w K mg base T
 have b_draw:=T.f_draw.b
 refine F2 T.f_springs.F A96 rfl (fun C cdv A outer s H E hr=>⟨_,(@D5 _ _ _ _ _ _ (V2 (C0 (i:=4) A96.nd rfl (A8 rfl) (G5 C1))) (@D5 _ _ _ _ _ _ (@O4 _ _ _ _ _ _ (@O0 _ _ _ _ _ _ _ _ M0 rfl (j6 (i7 rfl T.n_range (A5 (C5 (B7 G_draw (hr.mono (by decide)) rfl T.f_draw.m T.f_draw.F.kp b_draw .nil B8 (K1 (pv 0) (A2 (E9 L6 P9 (A1 (pv 3)) B0) C4 F7) A0) (he:=A0) (hpl:=(A4 F7 A3)))) C1 F4))) (R6 (J7 (i:=5) A96.nd rfl (A8 rfl))) (@D5 _ _ _ _ _ _ (@E2 _ _ _ _ _ (@C0 _ _ 6 _ _ _ _ A96.nd rfl (A8 rfl) (@E9 _ _ _ _ _ _ _ _ _ _ L6 P9 B0 (@C5 _ _ _ _ _ _ _ (@B7 _ _ _ _ _ _ _ _ _ _ _ _ _ _ _ _ G_draw (hr.mono (by decide)) rfl T.f_draw.m T.f_draw.F.kp b_draw .nil B8 (@K1 _ _ _ _ _ _ (pv 0) (@A2 _ _ _ _ _ _ (K0 (E1 (G5 (A5 B0 (A5 (E9 L6 P9 (A1 (pv 2)) B0) (A5 (E9 A6r A87 B0 B0) C1 F7) F7) E5))) (C5 (B7 G_draw (hr.mono (by decide)) rfl T.f_draw.m T.f_draw.F.kp b_draw .nil B8 (K1 (pv 0) (A2 B0 C4 E5) A0) (he:=A0) (hpl:=(A4 E5 A3)))) (fun _ _=>rfl)) C4 B4) A0) (by decide) A0 ((A4 B4 A3))))) (by rfl) (by first | exact .inl rfl | exact .inr rfl | assumption))) (@B1 _ _ _ _ (@d3 _ _ _ _ _ _ (@S4 _ _ _ _ (@T6 _ _ _ _ _ _ _ _ _ _ _ _ U6 Y4 Y5 V8 (pv 4) (@B3 _ _ _ _ _ (@O3 _ _ _ _ _ _ (@A5 _ _ _ _ _ _ (C5 (B7 G_draw (hr.mono (by decide)) rfl T.f_draw.m T.f_draw.F.kp b_draw .nil B8 (K1 (pv 0) (A2 (A1 (pv 1)) C4 A0) A0) (he:=A0) (hpl:=(A4 A0 A3)))) (A5 (S8 A2b (F8 (A1h rfl) rfl T.n_min A1m (A5 (E9 A6r A87 B0 B0) (A5 (A1 (pv 6)) C1 A0) F7) (he:=F7) (hpl:=(A4 A0 A3)))) C1 F4) F4)) C6 A1o) (by rfl) (by rfl) (by rfl) (by rfl) (by rfl)) (by rfl))))) (by intro _;rfl))) (B1 (D7 (A1 (pv 4)))))),fun ds Q hl h=>?_⟩)
 obtain⟨d,m,st,mo,rfl,m1,m2,s0,s1,h4,q⟩:=h
 left
 refine⟨by decide,?_⟩
 refine go ?_;array_mem_dec
 refine⟨rfl,_,rfl,by omega,by omega,fun c c0 c1=>?_⟩
 array_mem_dec
 refine⟨⟨by omega,by omega⟩,fun r ρ=>∃(sp:List Sp2) (z5 z6:Sl),ρ=[Sl.hd,Sl.sh (.int (m:Nat)),Sl.sh (.int st),Sl.sh (.int (mo:Nat)),Sl.ow (sp.map G1),z5,z6]/\r.length + sp.length<=4/\∀p∈sp,p.1 < m/\0<=p.2,⟨[],_,_,rfl,by unfold J3;simp;omega,fun w hw=>nomatch hw⟩,?_,?_⟩
 ·rintro x r ρ ⟨sp,z5,z6,rfl,hl2,hw⟩
  sizeOf_list_dec
  refine⟨rfl,⟨by decide,by decide,by decide⟩,by show 3<=1000;decide,rfl,_,rfl,by decide,by decide,fun u u0 u1=>?_⟩
  left
  obtain⟨g,hg,hg0,hg1⟩:∃g:Int,atI [PyData.int 3,.int (st + 1),.int 1000000000000000000] u=some (.int g)/\0 < g/\g<=100000000000000000001:=by
   have hu:u=0\/u=1\/u=2:=by omega
   rcases hu with rfl | rfl | rfl
   ·exact⟨3,rfl,by decide,by decide⟩
   ·exact⟨st + 1,rfl,by omega,by omega⟩
   ·exact⟨1000000000000000000,rfl,by decide,by decide⟩
  rw[show ((10:Int) ^ (18:Int).toNat)=1000000000000000000 from rfl,hg]
  left
  refine⟨g,rfl,hg0,by omega,fun v v0 v1=>?_⟩
  refine go ?_;left
  refine⟨rfl,_,rfl,by omega,by omega,fun a a0 a1=>?_⟩
  left
  obtain⟨a',rfl,ha⟩:=A51 a0 a1
  refine⟨⟨by decide,by decide,by decide⟩,by decide,by rw[C7];simp at hl2;omega,sp++[(a',if 1 + v < 10 ^ A8b 18 then 1 + v else 10 ^ A8b 18)],_,_,by rw[P6];rfl,by simp at hl2 ⊢;omega,fun p hp=>?_⟩
  rcases K7.mp hp with z | z
  ·exact hw p z
  ·have z:=L9.mp z
   subst z
   refine⟨ha,?_⟩
   show (0:Int)<=if 1 + v < 10 ^ A8b 18 then 1 + v else 10 ^ A8b 18
   split
   ·omega
   ·decide
 ·rintro ρ ⟨sp,z5,z6,rfl,hl2,hw⟩
  refine go ?_;left
  exact q sp ⟨by simp at hl2;omega,fun p h=>(hw p h).1,fun p h=>(hw p h).2⟩
end
inductive RcT (ws:List Wy) (S:Int) (t0:Tb):Nat->Int->Prop
 | base {p:Nat} {x:Int}:gt t0 p=some x->RcT ws S t0 p x
 | step {p q:Nat} {x c y:Int}:RcT ws S t0 p x->(p,q,c)∈ws->E4 S x c=some y->RcT ws S t0 q y
theorem B4j {S x c y:Int} (h:E4 S x c=some y):0<=x + c/\y=if S < x + c then S else x + c:=by
 unfold E4 at h
 split at h
 ·cases h
 ·cases h;exact⟨by omega,rfl⟩
theorem RcT.bd {m:Nat} {ws:List Wy} {S:Int} {t0:Tb} {p:Nat} {x:Int} (ok:F9 m ws) (h0:0<=S) (tb:F1 m S t0) (h:RcT ws S t0 p x):p < m/\0<=x/\x<=S:=by
 cases h with
 | base e=>
  refine⟨?_,tb.bd _ _ e⟩
  rcases c4 p t0.length with z | z
  ·rw[<-tb.len];exact z
  ·rw[A21 z] at e;cases e
 | step _ hw e=>
  obtain⟨e1,e2⟩:=B4j e
  refine⟨ok.en _ hw,?_⟩
  split at e2 <;> omega
theorem C0n {P:Int->Prop} {S:Int} (hb:∀x,P x->x<=S):∀(n:Nat) (x:Int),P x->(S - x).toNat<=n->∃y,P y/\∀z,P z->z<=y
 | 0,x,h,hn=>⟨x,h,fun z hz=>by have:=hb z hz;have:=hb x h;omega⟩
 | n + 1,x,h,hn=>by
  by_cases c:∃z,P z/\x < z
  ·obtain⟨z,hz,hx⟩:=c
   have:=hb z hz
   exact C0n hb n z hz (by omega)
  ·exact⟨x,h,fun z hz=>by
    rcases Int.lt_or_le x z with q | q
    ·exact absurd ⟨z,hz,q⟩ c
    ·exact q⟩
theorem D0k {m:Nat} {ws:List Wy} {S:Int} {t0:Tb} {p:Nat} (ok:F9 m ws) (h0:0<=S) (tb:F1 m S t0) (h:∃x,RcT ws S t0 p x):∃x,RcT ws S t0 p x/\∀z,RcT ws S t0 p z->z<=x:=by
 obtain⟨x,hx⟩:=h
 exact C0n (fun z hz=>(hz.bd ok h0 tb).2.2) _ x hx (D2 _)
def MxR (ws:List Wy) (S:Int) (t0:Tb) (m:Nat) (u:Tb):Prop:=u.length=m/\∀p,p < m->(gt u p=none/\¬ ∃x,RcT ws S t0 p x)\/∃x,gt u p=some x/\RcT ws S t0 p x/\∀z,RcT ws S t0 p z->z<=x
theorem MxR.least {m:Nat} {ws:List Wy} {S:Int} {t0 u:Tb} (ok:F9 m ws) (h0:0<=S) (tb:F1 m S t0) (h:MxR ws S t0 m u):T8 m ws S t0 u:=by
 have at1:∀p x,gt u p=some x->p < m/\RcT ws S t0 p x:=fun p x e=>by
  have hp:p < m:=by
   rcases c4 p u.length with z | z
   ·rw[<-h.1];exact z
   ·rw[A21 z] at e;cases e
  rcases h.2 p hp with ⟨z,_⟩ | ⟨y,ey,hy,_⟩
  ·rw[z] at e;cases e
  ·rw[ey] at e;cases e;exact⟨hp,hy⟩
 have top:∀p x,RcT ws S t0 p x->leO (some x) (gt u p):=fun p x hx=>by
  rcases h.2 p (hx.bd ok h0 tb).1 with ⟨_,z⟩ | ⟨y,ey,_,hy⟩
  ·exact absurd ⟨x,hx⟩ z
  ·rw[ey];exact M9.mpr (hy x hx)
 refine⟨⟨h.1,fun p x e=>((at1 p x e).2.bd ok h0 tb).2⟩,fun p=>?_,fun w hw=>?_,fun L hL h1 h2 p=>?_⟩
 ·cases e:gt t0 p with
  | none=>exact A20
  | some x=>exact top p x (.base e)
 ·unfold K9
  cases e:gt u w.1 with
  | none=>exact A20
  | some x=>
   show leO (E4 S x w.2.2) _
   cases q:E4 S x w.2.2 with
   | none=>exact A20
   | some y=>exact top _ y (.step (at1 _ x e).2 (show (w.1,w.2.1,w.2.2)∈ws from hw) q)
 ·cases e:gt u p with
  | none=>exact A20
  | some x=>
   have hx:=(at1 p x e).2
   clear e
   induction hx with
   | base e=>rw[<-e];exact h1 _
   | @step p q x c y _ hw e ih=>
    have cl:=h2 _ hw
    unfold K9 at cl
    cases g:gt L p with
    | none=>rw[g] at ih;exact absurd ih X3
    | some z=>
     rw[g] at ih
     have hz:x<=z:=M9.mp ih
     have cl:leO (match gt L p with | none=>none | some l=>E4 S l c) (gt L q):=cl
     rw[g] at cl
     have cl:leO (E4 S z c) (gt L q):=cl
     obtain⟨e1,e2⟩:=B4j e
     refine V3 ?_ cl
     unfold E4
     rw[if_neg (by omega)]
     refine M9.mpr ?_
     rw[e2]
     split <;> split <;> omega
open Classical in
theorem D0l {m:Nat} {ws:List Wy} {S:Int} {t0:Tb} (ok:F9 m ws) (h0:0<=S) (tb:F1 m S t0):∃u,MxR ws S t0 m u:=by
 let f:Nat->Option Int:=fun p=>if h:∃x,RcT ws S t0 p x/\∀z,RcT ws S t0 p z->z<=x then some h.choose else none
 refine⟨(L0 m).map f,by rw[C7,U5],fun p hp=>?_⟩
 have e:gt ((L0 m).map f) p=f p:=by unfold gt;rw[O7,B0m hp];rfl
 rw[e]
 by_cases h:∃x,RcT ws S t0 p x/\∀z,RcT ws S t0 p z->z<=x
 ·exact .inr ⟨h.choose,dif_pos h,h.choose_spec.1,h.choose_spec.2⟩
 ·exact .inl ⟨dif_neg h,fun z=>h (D0k ok h0 tb z)⟩
theorem D0m {m:Nat} {ws:List Wy} {S:Int} {t0 t:Tb} (ok:F9 m ws) (h0:0<=S) (tb:F1 m S t0) (h:T8 m ws S t0 t):MxR ws S t0 m t:=by
 obtain⟨u,hu⟩:=D0l ok h0 tb
 rw[h.uniq (hu.least ok h0 tb)];exact hu
theorem C0o {α:Type} [BEq α] [LawfulBEq α]:∀{xs ys:List α},xs.Nodup->(∀x∈xs,x∈ys)->xs.length<=ys.length
 | [],_,_,_=>L4 _
 | x::xs,ys,nd,h=>by
  have nd':=A3e.mp nd
  have hx:=h x B2
  have ih:=C0o (xs:=xs) (ys:=ys.erase x) nd'.2 fun z hz=>(List.mem_erase_of_ne (show z≠x from fun e=>nd'.1 (e▸hz))).mpr (h z (A9 _ hz))
  rw[List.length_erase_of_mem hx] at ih
  have:0 < ys.length:=List.length_pos_of_mem hx
  rw[F3]
  omega
def A7r (m:Nat) (S:Int):List Sp2:=(L0 m).flatMap fun p=>(L0 (S.toNat + 1)).map fun (l:Nat)=>(p,(l:Int))
theorem D0n (m:Nat) (S:Int):(A7r m S).length=m * (S.toNat + 1):=by
 unfold A7r
 induction m with
 | zero=>simp
 | succ m ih=>
  rw[B5i (n:=m),B5j,F5,ih,Nat.add_mul]
  simp
theorem D0o {m:Nat} {S:Int} {s:Sp2} (h1:s.1 < m) (h2:0<=s.2) (h3:s.2<=S):s∈A7r m S:=by
 unfold A7r
 refine B0r.mpr ⟨s.1,N9.mpr h1,O9.mpr ⟨s.2.toNat,N9.mpr (by omega),?_⟩⟩
 rw[Int.toNat_of_nonneg h2]
structure WkI (m:Nat) (ws:List Wy) (S:Int) (t0:Tb) (fd td:List Sp2):Prop where
 nd:fd.Nodup
 rc:∀s∈fd,RcT ws S t0 s.1 s.2
 bs:∀p x,gt t0 p=some x->(p,x)∈fd
 sub:∀s∈td,s∈fd
 cl:∀s∈fd,s∈td\/∀q c y,(s.1,q,c)∈ws->E4 S s.2 c=some y->(q,y)∈fd
structure WkJ (m:Nat) (ws:List Wy) (S:Int) (t0:Tb) (s:Sp2) (dn:List Wy) (fd td:List Sp2):Prop where
 nd:fd.Nodup
 rc:∀s∈fd,RcT ws S t0 s.1 s.2
 bs:∀p x,gt t0 p=some x->(p,x)∈fd
 sub:∀s∈td,s∈fd
 me:s∈fd
 cl:∀s'∈fd,s'≠s->s'∈td\/∀q c y,(s'.1,q,c)∈ws->E4 S s'.2 c=some y->(q,y)∈fd
 cs:∀q c y,(s.1,q,c)∈dn->E4 S s.2 c=some y->(q,y)∈fd
def bsK (t0:Tb) (k:Nat):List Sp2:=(L0 k).filterMap fun p=>(gt t0 p).map fun x=>(p,x)
theorem C0p {t0:Tb} {k:Nat} {s:Sp2}:s∈bsK t0 k↔s.1 < k/\gt t0 s.1=some s.2:=by
 unfold bsK
 rw[C1e]
 constructor
 ·rintro ⟨p,hp,e⟩
  obtain⟨x,hx,rfl⟩:=B5k.mp e
  exact⟨N9.mp hp,hx⟩
 ·rintro ⟨h1,h2⟩
  exact⟨s.1,N9.mpr h1,by rw[h2];rfl⟩
theorem D0p (t0:Tb) (k:Nat):(bsK t0 k).length<=k:=by
 unfold bsK
 exact V5 (List.length_filterMap_le _ _) (by rw[U5];exact D2 _)
theorem D0q {α:Type} (xs:List α) (x:α):(xs++[x])[(xs++[x]).length - 1]?=some x:=by simp
theorem D0r {α:Type} (xs:List α):xs=[]\/∃ys y,xs=ys++[y]:=by
 cases xs with
 | nil=>exact .inl rfl
 | cons x xs=>exact .inr ⟨(x::xs).dropLast,(x::xs).getLast (by simp),(List.dropLast_concat_getLast (by simp)).symm⟩
abbrev Sp3:=Nat×Int×Nat
def s3D (s:Sp3):PyData:=.tuple [.int (s.1:Nat),.int s.2.1,.int (s.2.2:Nat)]
def k3 (s:Sp3):List Int:=[((s.1:Nat):Int),s.2.1,((s.2.2:Nat):Int)]
theorem D0s {s r:Sp3} (h:k3 s=k3 r):s=r:=by
 unfold k3 at h
 injection h with h1 h2
 injection h2 with h2 h3
 injection h3 with h3 _
 exact Prod.ext (by omega) (Prod.ext h2 (by omega))
theorem C0q {s:Sp3} {fd:List Sp3}:k3 s∈fd.map k3↔s∈fd:=⟨fun h=>by
 obtain⟨r,hr,e⟩:=O9.mp h
 rw[<-D0s e];exact hr,fun h=>O9.mpr ⟨s,h,rfl⟩⟩
theorem C0r (s:Sp3) (fd:List Sp3):(fd.map k3).contains (k3 s)=decide (s∈fd):=by
 by_cases h:s∈fd
 ·rw[decide_eq_true h];exact List.contains_iff_mem.mpr (C0q.mpr h)
 ·rw[decide_eq_false h]
  cases q:(fd.map k3).contains (k3 s) with
  | false=>rfl
  | true=>exact absurd (C0q.mp (List.contains_iff_mem.mp q)) h
theorem D0t {s:Sp3} {fd:List Sp3} (h:s∉fd):A41 (fd.map k3) (k3 s)=(fd++[s]).map k3:=by
 unfold A41
 rw[C0r,decide_eq_false h,if_neg G6,P6];rfl
def X8 (S:Int) (s:Sp3) (w:Wy):List Sp3:=if w.1=s.1 then ((E4 S s.2.1 w.2.2).map fun y=>(w.2.1,y,s.2.2)).toList else []
def e8 (S:Int) (sp:List Sp2) (s:Sp3) (k:Nat):List Sp3:=match sp[k]? with
 | some q=>if q.1=s.1/\sIn s.2.2 k=false then [(s.1,(if S < s.2.1 + q.2 then S else s.2.1 + q.2),s.2.2 + 2 ^ k)] else []
 | none=>[]
def L8 (S:Int) (s:Sp3) (ws:List Wy):List Sp3:=ws.flatMap (X8 S s)
def Q4 (S:Int) (sp:List Sp2) (s:Sp3) (n:Nat):List Sp3:=(L0 n).flatMap (e8 S sp s)
theorem C0s (S:Int) (s:Sp3) (w:Wy):(X8 S s w).length<=1:=by
 unfold X8
 split
 ·cases E4 S s.2.1 w.2.2 <;> simp
 ·exact L4 _
theorem C0t (S:Int) (sp:List Sp2) (s:Sp3) (k:Nat):(e8 S sp s k).length<=1:=by
 unfold e8
 split
 ·split
  ·exact D2 _
  ·exact L4 _
 ·exact L4 _
theorem A7s {α β:Type} {f:α->List β} (h:∀a,(f a).length<=1):∀xs:List α,(xs.flatMap f).length<=xs.length
 | []=>L4 _
 | x::xs=>by
  rw[List.flatMap_cons,F5,F3]
  have:=h x
  have:=A7s h xs
  omega
inductive RcS (ws:List Wy) (S:Int) (sp:List Sp2) (t0:Tb):Sp3->Prop
 | base {p:Nat} {x:Int}:gt t0 p=some x->RcS ws S sp t0 (p,x,0)
 | nx {s r:Sp3}:RcS ws S sp t0 s->r∈L8 S s ws++Q4 S sp s sp.length->RcS ws S sp t0 r
theorem B4k {S:Int} {s r:Sp3} {ws:List Wy}:r∈L8 S s ws↔∃w∈ws,w.1=s.1/\∃y,E4 S s.2.1 w.2.2=some y/\r=(w.2.1,y,s.2.2):=by
 unfold L8
 rw[B0r]
 constructor
 ·rintro ⟨w,hw,h⟩
  unfold X8 at h
  split at h
  ·rename_i e
   cases q:E4 S s.2.1 w.2.2 with
   | none=>rw[q] at h;cases h
   | some y=>
    rw[q] at h
    exact⟨w,hw,e,y,q,by simpa using h⟩
  ·cases h
 ·rintro ⟨w,hw,e,y,q,rfl⟩
  refine⟨w,hw,?_⟩
  unfold X8
  rw[if_pos e,q]
  simp
theorem B4l {S:Int} {sp:List Sp2} {s r:Sp3} {n:Nat} (hn:n<=sp.length):r∈Q4 S sp s n↔∃k,k < n/\∃q,sp[k]?=some q/\q.1=s.1/\sIn s.2.2 k=false/\r=(s.1,(if S < s.2.1 + q.2 then S else s.2.1 + q.2),s.2.2 + 2 ^ k):=by
 unfold Q4
 rw[B0r]
 constructor
 ·rintro ⟨k,hk,h⟩
  unfold e8 at h
  split at h
  ·rename_i q hq
   split at h
   ·rename_i e
    exact⟨k,N9.mp hk,q,hq,e.1,e.2,by simpa using h⟩
   ·cases h
  ·cases h
 ·rintro ⟨k,hk,q,hq,e1,e2,rfl⟩
  refine⟨k,N9.mpr hk,?_⟩
  unfold e8
  rw[hq]
  dsimp only
  rw[if_pos ⟨e1,e2⟩]
  exact B2
theorem RcS.bd {m:Nat} {ws:List Wy} {S:Int} {sp:List Sp2} {t0:Tb} {s:Sp3} (ok:F9 m ws) (h0:0<=S) (tb:F1 m S t0) (so:W2 m sp) (h:RcS ws S sp t0 s):s.1 < m/\0<=s.2.1/\s.2.1<=S/\s.2.2 < 2 ^ sp.length:=by
 induction h with
 | @base p x e=>
  have:=(RcT.base (ws:=ws) e).bd ok h0 tb
  exact⟨this.1,this.2.1,this.2.2,A52 _⟩
 | @nx s r _ hr ih=>
  rcases K7.mp hr with z | z
  ·obtain⟨w,hw,e,y,q,rfl⟩:=B4k.mp z
   obtain⟨a,b⟩:=A7c h0 q
   exact⟨ok.en w hw,a,b,ih.2.2.2⟩
  ·obtain⟨k,hk,q,hq,e1,e2,rfl⟩:=(B4l (D2 _)).mp z
   have g:=so.gf q (Q8 hq)
   have few:=so.few
   refine⟨ih.1,?_,?_,(C0l sp.length (by omega) k hk s.2.2 ih.2.2.2 e2).2⟩
   ·have:=ih.2.1
    show (0:Int)<=if S < s.2.1 + q.2 then S else s.2.1 + q.2
    split <;> omega
   ·show (if S < s.2.1 + q.2 then S else s.2.1 + q.2)<=S
    split <;> omega
structure WkS (ws:List Wy) (S:Int) (sp:List Sp2) (t0:Tb) (fd td:List Sp3):Prop where
 nd:fd.Nodup
 rc:∀s∈fd,RcS ws S sp t0 s
 rt:∀s∈td,RcS ws S sp t0 s
 bs:∀p x,gt t0 p=some x->(p,x,0)∈fd\/(p,x,0)∈td
 cl:∀s∈fd,∀r∈L8 S s ws++Q4 S sp s sp.length,r∈fd\/r∈td
theorem WkS.fin {ws:List Wy} {S:Int} {sp:List Sp2} {t0:Tb} {fd:List Sp3} (h:WkS ws S sp t0 fd []) {s:Sp3} (r:RcS ws S sp t0 s):s∈fd:=by
 induction r with
 | base e=>
  rcases h.bs _ _ e with z | z
  ·exact z
  ·cases z
 | nx _ hr ih=>
  rcases h.cl _ ih _ hr with z | z
  ·exact z
  ·cases z
theorem WkS.old {ws:List Wy} {S:Int} {sp:List Sp2} {t0:Tb} {fd td:List Sp3} {s:Sp3} (h:WkS ws S sp t0 fd (td++[s])) (hs:s∈fd):WkS ws S sp t0 fd td:=by
 have mv:∀r,r∈fd\/r∈td++[s]->r∈fd\/r∈td:=fun r hr=>by
  rcases hr with z | z
  ·exact .inl z
  ·rcases K7.mp z with z | z
   ·exact .inr z
   ·rw[L9.mp z];exact .inl hs
 exact⟨h.nd,h.rc,fun r hr=>h.rt r (f8 _ hr),fun p x e=>mv _ (h.bs p x e),fun r hr u hu=>mv _ (h.cl r hr u hu)⟩
theorem WkS.new {ws:List Wy} {S:Int} {sp:List Sp2} {t0:Tb} {fd td:List Sp3} {s:Sp3} (h:WkS ws S sp t0 fd (td++[s])) (hs:s∉fd):WkS ws S sp t0 (fd++[s]) (td++L8 S s ws++Q4 S sp s sp.length):=by
 have rs:RcS ws S sp t0 s:=h.rt s (S1 _ B2)
 have mv:∀r,r∈fd\/r∈td++[s]->r∈fd++[s]\/r∈td++L8 S s ws++Q4 S sp s sp.length:=fun r hr=>by
  rcases hr with z | z
  ·exact .inl (f8 _ z)
  ·rcases K7.mp z with z | z
   ·exact .inr (f8 _ (f8 _ z))
   ·exact .inl (S1 _ z)
 refine⟨?_,fun r hr=>?_,fun r hr=>?_,fun p x e=>mv _ (h.bs p x e),fun r hr u hu=>?_⟩
 ·refine List.nodup_append.mpr ⟨h.nd,A3e.mpr ⟨(fun z=>nomatch z),A74⟩,fun a ha b hb=>?_⟩
  rw[L9.mp hb]
  exact fun z=>hs (z▸ha)
 ·rcases K7.mp hr with z | z
  ·exact h.rc r z
  ·rw[L9.mp z];exact rs
 ·rcases K7.mp hr with z | z
  ·rcases K7.mp z with z | z
   ·exact h.rt r (f8 _ z)
   ·exact .nx rs (f8 _ z)
  ·exact .nx rs (S1 _ z)
 ·rcases K7.mp hr with z | z
  ·exact mv _ (h.cl r z u hu)
  ·rw[L9.mp z] at hu
   rw[L1]
   exact .inr (S1 _ hu)
def C0u (m:Nat) (S:Int) (n:Nat):List Sp3:=(L0 n).flatMap fun s=>(A7r m S).map fun q=>(q.1,q.2,s)
theorem D0u (m:Nat) (S:Int) (n:Nat):(C0u m S n).length=n * (m * (S.toNat + 1)):=by
 unfold C0u
 induction n with
 | zero=>simp
 | succ n ih=>
  rw[B5i,B5j,F5,ih,Nat.succ_mul]
  simp [D0n]
theorem WkS.few {m:Nat} {ws:List Wy} {S:Int} {sp:List Sp2} {t0:Tb} {fd:List Sp3} (ok:F9 m ws) (h0:0<=S) (tb:F1 m S t0) (so:W2 m sp) (nd:fd.Nodup) (rc:∀s∈fd,RcS ws S sp t0 s):fd.length<=2 ^ sp.length * (m * (S.toNat + 1)):=by
 rw[<-D0u]
 refine C0o nd fun s hs=>?_
 obtain⟨a,b,c,d⟩:=(rc s hs).bd ok h0 tb so
 exact B0r.mpr ⟨s.2.2,N9.mpr d,O9.mpr ⟨(s.1,s.2.1),D0o a b c,rfl⟩⟩
def lvK (st:Int) (sp:List Sp2) (ts:List Tb) (s p:Nat) (k:Nat):Option Int:=match sp[k]? with
 | some q=>if q.1=p then lvG st ts (s - 2 ^ k) q else none
 | none=>none
def mxK (st:Int) (sp:List Sp2) (ts:List Tb) (s p:Nat):List Nat->Option Int
 | []=>none
 | k::ks=>match lvK st sp ts s p k,mxK st sp ts s p ks with
  | none,o=>o
  | some x,none=>some x
  | some x,some y=>if x < y then some y else some x
theorem C0v {st:Int} {sp:List Sp2} {ts:List Tb} {s p:Nat}:∀{ks:List Nat} {k:Nat},k∈ks->leO (lvK st sp ts s p k) (mxK st sp ts s p ks)
 | j::ks,k,h=>by
  unfold mxK
  rcases N2.mp h with rfl | h
  ·cases e:lvK st sp ts s p k with
   | none=>exact A20
   | some x=>
    cases mxK st sp ts s p ks with
    | none=>exact d4 _
    | some y=>
     dsimp only
     split
     ·exact M9.mpr (by omega)
     ·exact d4 _
  ·have ih:=C0v (st:=st) (sp:=sp) (ts:=ts) (s:=s) (p:=p) h
   cases e:lvK st sp ts s p j with
   | none=>exact ih
   | some x=>
    cases q:mxK st sp ts s p ks with
    | none=>
     rw[q] at ih
     cases z:lvK st sp ts s p k with
     | none=>exact A20
     | some y=>rw[z] at ih;exact absurd ih X3
    | some y=>
     rw[q] at ih
     dsimp only
     split
     ·exact ih
     ·exact V3 ih (M9.mpr (by omega))
theorem B4m {st:Int} {sp:List Sp2} {ts:List Tb} {s p:Nat}:∀{ks:List Nat} {x:Int},mxK st sp ts s p ks=some x->∃k∈ks,lvK st sp ts s p k=some x
 | [],x,h=>nomatch h
 | j::ks,x,h=>by
  unfold mxK at h
  cases e:lvK st sp ts s p j with
  | none=>
   rw[e] at h
   obtain⟨k,hk,z⟩:=B4m (show mxK st sp ts s p ks=some x from h)
   exact⟨k,A9 _ hk,z⟩
  | some y=>
   cases q:mxK st sp ts s p ks with
   | none=>
    rw[e,q] at h
    cases h
    exact⟨j,B2,e⟩
   | some z=>
    rw[e,q] at h
    dsimp only at h
    split at h
    ·cases h
     obtain⟨k,hk,z⟩:=B4m q
     exact⟨k,A9 _ hk,z⟩
    ·cases h
     exact⟨j,B2,e⟩
theorem Bas.is {m:Nat} {st:Int} {sp:List Sp2} {ts:List Tb} {s:Nat} {ks:List Nat} {c:Tb} (B:Bas m st sp ts s ks c) {p:Nat} {x:Int} (e:gt c p=some x):∃k∈ks,∃q,sp[k]?=some q/\q.1=p/\lvG st ts (s - 2 ^ k) q=some x:=by
 have hp:p < c.length:=by
  rcases c4 p c.length with z | z
  ·exact z
  ·rw[A21 z] at e;cases e
 have h1:leT c (c.set p (mxK st sp ts s p ks)):=B.le _ fun k hk q hq=>by
  rw[Z4 hp]
  split
  ·rename_i e1
   have:=C0v (st:=st) (sp:=sp) (ts:=ts) (s:=s) (p:=p) hk
   unfold lvK at this
   rw[hq] at this
   dsimp only at this
   rw[if_pos e1.symm] at this
   exact this
  ·exact B.up k hk q hq
 have h1:=h1 p
 rw[Z4 hp,if_pos rfl,e] at h1
 cases z:mxK st sp ts s p ks with
 | none=>rw[z] at h1;exact absurd h1 X3
 | some y=>
  rw[z] at h1
  have h1:=M9.mp h1
  obtain⟨k,hk,hl⟩:=B4m z
  unfold lvK at hl
  cases hq:sp[k]? with
  | none=>rw[hq] at hl;cases hl
  | some q=>
   rw[hq] at hl
   dsimp only at hl
   split at hl
   ·rename_i e1
    have h2:=B.up k hk q hq
    rw[hl,e1,e] at h2
    have h2:=M9.mp h2
    exact⟨k,hk,q,hq,e1,by rw[hl];congr 1;omega⟩
   ·cases hl
theorem D0v:∀n,n < 5->∀k,k < n->∀s,s < 2 ^ n->sIn s k=true->sIn (s - 2 ^ k) k=false/\s - 2 ^ k + 2 ^ k=s/\s - 2 ^ k < s:=by decide
theorem D0w {S x g y:Int} (h0:0<=x) (hg:0<=g) (h:E4 S x g=some y):y=if S < x + g then S else x + g:=(B4j h).2
theorem D0x {m:Nat} {ws:List Wy} {S:Int} {sp:List Sp2} {b:Tb} {ts:List Tb} (ok:F9 m ws) (h0:0<=S) (hb:F1 m S b) (so:W2 m sp) (h:u8 m ws S sp b ts):∀s,s < ts.length->∀p x,gt (tbs ts s) p=some x->RcS ws S sp b (p,x,s):=fun s=>by
 induction s using Nat.strongRecOn with
 | _ s ih=>
  intro hs p x e
  obtain⟨c,B,L⟩:=h.all s hs
  have tc:F1 m S c:=B.tab hb
  have M:=D0m ok h0 tc L
  have hp:p < m:=by
   rcases c4 p (tbs ts s).length with z | z
   ·rw[<-L.tab.len];exact z
   ·rw[A21 z] at e;cases e
  have bs:∀q y,gt c q=some y->RcS ws S sp b (q,y,s):=fun q y ec=>by
   rcases B with ⟨rfl,rfl⟩ | ⟨_,B⟩
   ·exact .base ec
   ·obtain⟨k,hk,r,hr,e1,e2⟩:=B.is ec
    obtain⟨k1,k2⟩:=B4a hk
    have few:=so.few
    obtain⟨b1,b2,b3⟩:=D0v sp.length (by omega) k k1 s (by rw[<-h.len];exact hs) k2
    unfold lvG at e2
    cases z:gt (tbs ts (s - 2 ^ k)) r.1 with
    | none=>rw[z] at e2;cases e2
    | some l=>
     rw[z] at e2
     have hr1:=ih (s - 2 ^ k) b3 (by omega) r.1 l z
     have bd:=hr1.bd ok h0 hb so
     have ey:=D0w bd.2.1 (so.gf r (Q8 hr)) e2
     refine .nx hr1 (S1 _ ((B4l (D2 _)).mpr ⟨k,k1,r,hr,rfl,b1,?_⟩))
     rw[ey,<-e1]
     show (r.1,_,s)=(r.1,_,s - 2 ^ k + 2 ^ k)
     rw[b2]
  have all:∀{p:Nat} {x:Int},RcT ws S c p x->RcS ws S sp b (p,x,s):=fun {p x} hy=>by
   induction hy with
   | base e=>exact bs _ _ e
   | @step p q x c' y hr hw e ih2=>
    exact .nx (s:=(p,x,s)) ih2 (f8 _ (B4k.mpr ⟨_,hw,rfl,y,e,rfl⟩))
  rcases M.2 p hp with ⟨z,_⟩ | ⟨y,z,hy,_⟩
  ·rw[z] at e;cases e
  ·rw[z] at e
   cases e
   exact all hy
theorem C0w {m:Nat} {ws:List Wy} {S:Int} {sp:List Sp2} {b:Tb} {ts:List Tb} (ok:F9 m ws) (h0:0<=S) (hb:F1 m S b) (so:W2 m sp) (h:u8 m ws S sp b ts) {s:Sp3} (r:RcS ws S sp b s):leO (some s.2.1) (gt (tbs ts s.2.2) s.1):=by
 have g:=h.lid
 induction r with
 | @base p x e=>
  have:=g.b0 p
  rw[e] at this
  exact this
 | @nx s r hs hr ih=>
  have bd:=hs.bd ok h0 hb so
  have hl:s.2.2 < ts.length:=by rw[g.len];exact bd.2.2.2
  cases z:gt (tbs ts s.2.2) s.1 with
  | none=>rw[z] at ih;exact absurd ih X3
  | some l=>
   rw[z] at ih
   have ih:=M9.mp ih
   rcases K7.mp hr with mm | mm
   ·obtain⟨w,hw,e,y,q,rfl⟩:=B4k.mp mm
    have cl:=g.cl _ (B4e hl) w hw
    have cl:leO (match gt (tbs ts s.2.2) w.1 with | none=>none | some l=>E4 S l w.2.2) (gt (tbs ts s.2.2) w.2.1):=cl
    rw[e,z] at cl
    refine V3 ?_ cl
    show leO (some y) (E4 S l w.2.2)
    rw[<-q]
    exact A9d ih
   ·obtain⟨k,hk,q,hq,e1,e2,rfl⟩:=(B4l (D2 _)).mp mm
    obtain⟨_,nx⟩:=g.next so.few hl hq e2
    have gf:=so.gf q (Q8 hq)
    unfold lvG at nx
    rw[e1,z] at nx
    refine V3 ?_ nx
    show leO (some (if S < s.2.1 + q.2 then S else s.2.1 + q.2)) (E4 S l q.2)
    have:E4 S s.2.1 q.2=some (if S < s.2.1 + q.2 then S else s.2.1 + q.2):=by unfold E4;rw[if_neg (by have:=bd.2.1;omega)]
    rw[<-this]
    exact A9d ih
def D0y:p6:=fun ds Q=>∃(m:Nat) (ws:List Wy) (S:Int) (sp:List Sp2) (t0:Tb),ds=[E8 m ws,.int S,.list (sp.map G1),.list (D6 t0)]/\F9 m ws/\0<=S/\2 ^ sp.length * (m * (S.toNat + 1))<=900/\W2 m sp/\F1 m S t0/\∀fd:List Sp3,(∀s,s∈fd↔RcS ws S sp t0 s)->fd.Nodup->Q (.di false (fd.map k3))
theorem B4n {α:Type} {tt:DT} {te:DE} {ρ:List Sl} {Q:List PyData->Prop} {j:Nat} {g f:α->PyData} {p:α->Bool}:∀{xs:List α} {acc:List PyData},(∀x∈xs,∀Q':Bool->List Sl->Prop,Q' (p x) (ρ.set j (.sh (g x)))->tt (ρ.set j (.sh (g x))) Q')->(∀x∈xs,p x=true->∀Q':PyData->List Sl->Prop,Q' (f x) (ρ.set j (.sh (g x)))->te (ρ.set j (.sh (g x))) Q')->
  Q (acc++(xs.filter p).map f)->A40 j tt te ρ Q (xs.map g) acc
 | [],acc,_,_,q=>by
  have q':Q (acc++[]):=q
  rw[Q0] at q'
  exact q'
 | x::r,acc,h1,h2,q=>by
  refine h1 x B2 _ ⟨rfl,?_⟩
  cases e:p x with
  | true=>
   rw[if_pos rfl]
   refine h2 x B2 e _ ⟨rfl,B4n (fun y hy=>h1 y (A9 _ hy)) (fun y hy=>h2 y (A9 _ hy)) ?_⟩
   rw[A6g e] at q
   rw[L1]
   exact q
  | false=>
   rw[if_neg G6]
   refine B4n (fun y hy=>h1 y (A9 _ hy)) (fun y hy=>h2 y (A9 _ hy)) ?_
   rw[A3l (by rw[e];exact G6)] at q
   exact q
def bs3 (t0:Tb) (m:Nat):List Sp3:=(bsK t0 m).map fun s=>(s.1,s.2,0)
theorem D0z (t0:Tb) (m:Nat):((L0 m).filter fun k=>(gt t0 k).isSome).map (fun k=>PyData.tuple [.int ((k:Nat):Int),oD (gt t0 k),.int 0])=(bs3 t0 m).map s3D:=by
 unfold bs3 bsK
 induction L0 m with
 | nil=>rfl
 | cons k r ih=>
  cases e:gt t0 k with
  | none=>
   rw[A3l (by rw[e];decide),B0g,e]
   exact ih
  | some x=>
   rw[A6g (by rw[e];rfl),B0g,e,U4,e,ih]
   rfl
theorem D00 {m:Nat} {ws:List Wy} {S:Int} {sp:List Sp2} {t0:Tb} (tb:F1 m S t0):WkS ws S sp t0 [] (bs3 t0 m):=by
 refine⟨A74,fun s h=>(nomatch h),fun s hs=>?_,fun p x e=>.inr ?_,fun s h=>(nomatch h)⟩
 ·obtain⟨r,hr,rfl⟩:=O9.mp hs
  exact .base (C0p.mp hr).2
 ·refine O9.mpr ⟨(p,x),C0p.mpr ⟨?_,e⟩,rfl⟩
  rcases c4 p t0.length with z | z
  ·show p < m
   rw[<-tb.len];exact z
  ·rw[A21 z] at e;cases e
theorem D01 (t0:Tb) (m:Nat):(bs3 t0 m).length<=m:=by unfold bs3;rw[C7];exact D0p t0 m
theorem D02 (s:Sp3):A9j (s3D s)=some (k3 s):=rfl
theorem D03 (s k:Nat):(((s:Nat):Int) / ((2 ^ k:Nat):Int) % 2 == 0)=!sIn s k:=by
 rw[show ((s:Nat):Int) / ((2 ^ k:Nat):Int) % 2=((s / 2 ^ k % 2:Nat):Int) by omega]
 unfold sIn
 rcases Nat.mod_two_eq_zero_or_one (s / 2 ^ k) with h | h <;> rw[h] <;> rfl
theorem D04 (k:Nat):(1:Int) * 2 ^ (((k:Nat):Int)).toNat=((2 ^ k:Nat):Int):=by rw[Int.one_mul,k7,Int.natCast_pow];rfl
theorem C0x (S y:Int):(if y < S then y else S)=if S < y then S else y:=by split <;> split <;> omega
section
variable {P:Program} {w:World} {K:A7} {mg:Str->Option Value} {base:Heap}
theorem D05 (T:Txt K mg):C9 P w K mg base CX0 2 T.f_by_sets.a T.f_by_sets.d ["_law_land_here", "_law_store", "_law_springs_here", "_law_base"] (A7i [.sh,.sh,.sh,.sh] D0y):=by
 refine B83 T.f_by_sets.F d9 rfl (fun C cdv A outer s H E hr=>⟨_,(@D5 _ _ _ _ _ _ (C6m (C0 (i:=4) d9.nd rfl (A8 rfl) C6b)) (@D5 _ _ _ _ _ _ (@C6s _ _ _ _ _ _ _ _ _ (@A6x _ _ _ _ _ _ _ _ _ _ _ _ _ 5 _ _ _ _ _ d9.nd rfl (A8 rfl) (O1.old (N:=["_law_land_here", "_law_store", "_law_springs_here", "_law_base", "_law_found", "_law_todo", "_law_spot", "_law_place", "_law_level", "_law_some", "_law_start", "_law_end", "_law_change_here", "_law_k"]) (osc:=C2 A9x) (j:=13) (by decide +kernel)) rfl (j6 (i7 rfl T.n_range (A5 (B5 (pv 0) B0 (fun _ _=>rfl)) C1 B4))) (fun _=>(A8y (F6 l7 m7 (B5 (pv 3) (A1 (pv 13)) (fun _ _=>rfl)) G0 (D0 _)))) (fun _=>(O3 (A5 (A1 (pv 13)) (A5 (B5 (pv 3) (A1 (pv 13)) (fun _ _=>rfl)) (A5 B0 C1 E5) B4) A0))) (by rfl) (by first | exact .inl rfl | exact .inr rfl | assumption) (by rfl) (by rfl) (by intro _;rfl))) (@D5 _ _ _ _ _ _ (@A39 _ _ _ _ (@A9b _ _ _ _ _ (@A6n _ _ _ _ _ _ M0 (F6 A1g A32 (X1 (F8 S5 rfl T.n_len S7 (B3 (pv 5) C6 A0) (he:=A0) (hpl:=A3))) B0 (D0 _)) (@D5 _ _ _ _ _ _ (E2 (C0 (i:=6) d9.nd rfl (A8 rfl) (C6q (C3i U6 PySem.F.slot_list_pop PySem.F.type_list_pop C3l (pv 5))))) (@B1 _ _ _ _ (@K6 _ _ _ _ _ _ _ _ _ (C6p (u1 (K3 hr)) (A1 (pv 6)) (pv 4) (by with_unfolding_all rfl)) (@D5 _ _ _ _ _ _ (C6n (C59 (u1 (K3 hr)) (pv 4) (A1 (pv 6)) B0t (by rfl))) (@D5 _ _ _ _ _ _ (B7w (U8 (A1 (pv 6)) (B7v (A3s (n:=3) rfl (V6 (J7 (i:=7) d9.nd rfl (A8 rfl)) (V6 (J7 (i:=8) d9.nd rfl (A8 rfl)) (V6 (J7 (i:=9) d9.nd rfl (A8 rfl)) A3r))))))) (@D5 _ _ _ _ _ _ (@A39 _ _ _ _ (@O4 _ _ _ _ _ _ (@O0 _ _ _ _ _ _ _ _ M0 rfl (A2r (B5 (pv 0) B0 (fun _ _=>rfl))) (B7v (A3s (n:=3) rfl (V6 (J7 (i:=10) d9.nd rfl (A8 rfl)) (V6 (J7 (i:=11) d9.nd rfl (A8 rfl)) (V6 (J7 (i:=12) d9.nd rfl (A8 rfl)) A3r))))) (@B1 _ _ _ _ (@K6 _ _ _ _ _ _ _ _ _ (PW.pt (A61 (F6 (N3 (K3 hr)) N5 (A1 (pv 10)) (A1 (pv 7)) (D0 _)) (A60 (F6 A8o B1u (E9 L6 P9 (A1 (pv 8)) (A1 (pv 12))) B0 (D0 _))))) (@B1 _ _ _ _ (@B84 _ _ _ _ _ _ (@S4 _ _ _ _ (@T6 _ _ _ _ _ _ _ _ _ _ _ _ U6 Y4 Y5 V8 (pv 5) (B3 (O3 (A5 (A1 (pv 11)) (A5 (S8 A2b (F8 (A1h rfl) rfl T.n_min A1m (A5 (A1 (pv 1)) (A5 (E9 L6 P9 (A1 (pv 8)) (A1 (pv 12))) C1 F7) A0) (he:=A0) (hpl:=(A4 F7 A3)))) (A5 (A1 (pv 9)) C1 A0) F4) A0)) C6 A1o) (by rfl) (by rfl) (by rfl) (by rfl) (by rfl)) (by rfl)))) K5)) (by intro _;rfl)))) (@B1 _ _ _ _ (@O4 _ _ _ _ _ _ (@O0 _ _ _ _ _ _ _ _ M0 rfl (j6 (i7 rfl T.n_range (A5 (X1 (F8 S5 rfl T.n_len S7 (B3 (pv 2) C6 A0) (he:=A0) (hpl:=A3))) C1 F4))) (R6 (J7 (i:=13) d9.nd rfl (A8 rfl))) (@B1 _ _ _ _ (@K6 _ _ _ _ _ _ _ _ _ (PW.pt (A61 (F6 (N3 (K3 hr)) N5 (K0 (B5 (pv 2) (A1 (pv 13)) (fun _ _=>rfl)) B0 (fun _ _=>rfl)) (A1 (pv 7)) (D0 _)) (A60 (F6 (N3 (K3 hr)) N5 (E9 i8 B65 (E9 B1l B66 (A1 (pv 9)) (E9 B04 B2h B0 (A1 (pv 13)))) B0) B0 (D0 _))))) (@B1 _ _ _ _ (@B84 _ _ _ _ _ _ (@S4 _ _ _ _ (@T6 _ _ _ _ _ _ _ _ _ _ _ _ U6 Y4 Y5 V8 (pv 5) (@B3 _ _ _ _ _ (@O3 _ _ _ _ _ _ (@A5 _ _ _ _ _ _ (A1 (pv 7)) (@A5 _ _ _ _ _ _ (S8 A2b (F8 (A1h rfl) rfl T.n_min A1m (A5 (A1 (pv 1)) (A5 (E9 L6 P9 (A1 (pv 8)) (K0 (B5 (pv 2) (A1 (pv 13)) (fun _ _=>rfl)) B0 (fun _ _=>rfl))) C1 F7) A0) (he:=A0) (hpl:=(A4 F7 A3)))) (A5 (E9 L6 P9 (A1 (pv 9)) (E9 B04 B2h B0 (A1 (pv 13)))) C1 F7) F4) A0)) C6 A1o) (by rfl) (by rfl) (by rfl) (by rfl) (by rfl)) (by rfl)))) K5)) (by intro _;rfl))))))) K5)))))) (B1 (B74 (pv 4)))))),fun ds Q hl h=>?_⟩)
 obtain⟨m,ws,S,sp,t0,rfl,ok,h0,hN,so,tb,q⟩:=h
 have m1:=ok.m1
 have m2:=ok.m2
 have few:=ok.few
 have sf:=so.few
 right
 refine go ?_;left
 array_mem_dec
 refine⟨⟨by omega,by omega⟩,⟨rfl,rfl,by unfold J3;rw[C7,U5];omega⟩,?_⟩
 rw[show ((m:Nat):Int).toNat=m by simp,B38 m]
 refine B4n (p:=fun k=>(gt t0 k).isSome) (f:=fun k=>PyData.tuple [.int ((k:Nat):Int),oD (gt t0 k),.int 0]) (fun k hk Q' q'=>?_) (fun k hk e Q' q'=>?_) ?_
 ·have:=N9.mp hk
  left
  rw[A03 (by rw[tb.len];exact this)]
  left
  cases e:gt t0 k with
  | none=>rw[e] at q';exact q'
  | some x=>rw[e] at q';exact q'
 ·have:=N9.mp hk
  left
  rw[A03 (by rw[tb.len];exact this)]
  left
  exact⟨by decide,q'⟩
 rw[Q1,D0z]
 refine go ?_
 (try unfold V9);(try unfold A38)
 refine⟨fun ρ'=>∃(fd:List Sp3) (z6 z7 z8 z9 z10 z11 z12 z13:Sl),ρ'=[Sl.sh (E8 m ws),Sl.sh (.int S),Sl.sh (.list (sp.map G1)),Sl.sh (.list (D6 t0)),.di false (fd.map k3),.ow [],z6,z7,z8,z9,z10,z11,z12,z13]/\WkS ws S sp t0 fd [],?_,?_⟩
 ·unfold A69
  refine⟨fun μ ρ=>∃(fd td:List Sp3) (z6 z7 z8 z9 z10 z11 z12 z13:Sl),ρ=[Sl.sh (E8 m ws),Sl.sh (.int S),Sl.sh (.list (sp.map G1)),Sl.sh (.list (D6 t0)),.di false (fd.map k3),.ow (td.map s3D),z6,z7,z8,z9,z10,z11,z12,z13]/\WkS ws S sp t0 fd td/\td.length<=12 + 44 * fd.length/\μ=45 * (900 - fd.length) + td.length,⟨_,[],bs3 t0 m,_,_,_,_,_,_,_,_,rfl,D00 tb,by have:=D01 t0 m;omega,rfl⟩,?_⟩
  rintro μ ρ ⟨fd,td,z6,z7,z8,z9,z10,z11,z12,z13,rfl,I,hl,rfl⟩
  rcases D0r td with rfl | ⟨td',s,rfl⟩
  ·left
   exact⟨fd,_,_,_,_,_,_,_,_,rfl,I⟩
  ·rw[P6] at *
   rw[F5] at hl
   left
   rw[decide_eq_true (show 0 < (((g9 s3D td'++g9 s3D [s]).length:Nat):Int) by rw[F5];simp)]
   left
   try dsimp only[Blk]
   rw[show g9 s3D td'++g9 s3D [s]=g9 s3D td'++[s3D s] from rfl]
   left
   rw[D0q,List.dropLast_concat]
   right
   have fl:=WkS.few ok h0 tb so I.nd I.rc
   refine go ?_
   left
   rw[D02]
   left
   rw[C0r]
   by_cases c:s∈fd
   ·rw[decide_eq_true c]
    left
    rw[if_neg (by decide)]
    exact⟨45 * (900 - fd.length) + td'.length,by rw[F5];simp,fd,td',_,_,_,_,_,_,_,_,rfl,I.old c,by simp at hl;omega,rfl⟩
   ·rw[decide_eq_false c]
    left
    rw[if_pos (show (!false)=true from rfl),D0t c]
    have I2:=I.new c
    have fl2:(fd++[s]).length<=900:=V5 (WkS.few ok h0 tb so I2.nd I2.rc) hN
    rw[F5] at fl2
    have fl3:fd.length + 1<=900:=fl2
    have sW:=A7s (C0s S s) ws
    have sS:=A7s (C0t S sp s) (L0 sp.length)
    rw[U5] at sS
    have hl':td'.length + 1<=12 + 44 * fd.length:=hl
    have lw:(L8 S s ws).length<=40:=by unfold L8;omega
    have ls:(Q4 S sp s sp.length).length<=4:=by unfold Q4;omega
    refine⟨by rw[C7];omega,?_⟩
    refine go ?_;left
    try dsimp only[s3D]
    left
    refine go ?_
    (try unfold V9);(try unfold A38)
    refine⟨fun ρ'=>∃z10 z11 z12:Sl,ρ'=[Sl.sh (E8 m ws),Sl.sh (.int S),Sl.sh (.list (sp.map G1)),Sl.sh (.list (D6 t0)),.di false ((fd++[s]).map k3),.ow ((td'++L8 S s ws).map s3D),Sl.sh (s3D s),Sl.sh (.int (s.1:Nat)),Sl.sh (.int s.2.1),Sl.sh (.int (s.2.2:Nat)),z10,z11,z12,z13],?_,?_⟩
    ·array_mem_dec
     refine⟨fun r ρ=>∃(dn rs:List Wy) (z10 z11 z12:Sl),ws=dn++rs/\r=rs.map T1/\ρ=[Sl.sh (E8 m ws),Sl.sh (.int S),Sl.sh (.list (sp.map G1)),Sl.sh (.list (D6 t0)),.di false ((fd++[s]).map k3),.ow ((td'++L8 S s dn).map s3D),Sl.sh (s3D s),Sl.sh (.int (s.1:Nat)),Sl.sh (.int s.2.1),Sl.sh (.int (s.2.2:Nat)),z10,z11,z12,z13],⟨[],ws,_,_,_,rfl,rfl,by rw[show L8 S s []=[] from rfl,Q0];rfl⟩,?_,?_⟩
     ·rintro x r ρ ⟨dn,rs,z10,z11,z12,hws,hr,rfl⟩
      cases rs with
      | nil=>cases hr
      | cons v rs=>
       obtain⟨rfl,rfl⟩:=List.cons.inj hr
       have hv:v∈ws:=by rw[hws];exact S1 _ B2
       have ews:ws=(dn++[v])++rs:=by rw[hws,L1];rfl
       have esn:L8 S s (dn++[v])=L8 S s dn++X8 S s v:=by unfold L8;rw[B5j];simp
       have esm:td'++L8 S s (dn++[v])=td'++(L8 S s dn++X8 S s v):=by rw[esn]
       have ln:(L8 S s dn).length<=40:=by
        have:=A7s (C0s S s) dn
        have:dn.length<=ws.length:=by rw[hws,F5];omega
        unfold L8
        omega
       sizeOf_list_dec
       refine⟨rfl,rfl,N1 _ _,?_⟩
       rw[P3]
       by_cases c1:v.1=s.1
       ·rw[c1,beq_self_eq_true]
        left
        by_cases c2:0<=s.2.1 + v.2.2
        ·rw[decide_eq_true c2]
         have e1:X8 S s v=[(v.2.1,(if s.2.1 + v.2.2 < S then s.2.1 + v.2.2 else S),s.2.2)]:=by
          unfold X8 E4
          rw[if_pos c1,if_neg (by omega),C0x]
          rfl
         left
         rw[e1,<-L1] at esm
         rw[show g9 s3D (td'++L8 S s dn)++[PyData.tuple [.int (v.2.1:Nat),.int (if s.2.1 + v.2.2 < S then s.2.1 + v.2.2 else S),.int (s.2.2:Nat)]]=g9 s3D (td'++L8 S s (dn++[v])) by rw[esm,P6 (f:=s3D) (l₁:=td'++L8 S s dn)];rfl]
         exact⟨by decide,by rw[C7,F5];omega,dn++[v],rs,_,_,_,ews,rfl,rfl⟩
        ·rw[decide_eq_false c2]
         have e1:X8 S s v=[]:=by
          unfold X8 E4
          rw[if_pos c1,if_pos (by omega)]
          rfl
         left
         exact⟨dn++[v],rs,_,_,_,ews,rfl,by rw[esn,e1,Q0]⟩
       ·rw[show (((v.1:Nat):Int) == ((s.1:Nat):Int))=false from beq_eq_false_iff_ne.mpr (by omega)]
        have e1:X8 S s v=[]:=by unfold X8;rw[if_neg c1]
        left
        exact⟨dn++[v],rs,_,_,_,ews,rfl,by rw[esn,e1,Q0]⟩
     ·rintro ρ ⟨dn,rs,z10,z11,z12,hws,hr,rfl⟩
      cases rs with
      | cons v rs=>cases hr
      | nil=>
       rw[Q0] at hws
       subst hws
       exact⟨_,_,_,rfl⟩
    rintro ρ ⟨z10,z11,z12,rfl⟩
    try dsimp only
    refine go ?_
    array_mem_dec
    rw[C7]
    refine⟨⟨by omega,by omega⟩,fun r ρ=>∃(k:Nat) (z13:Sl),r=(J3 0 sp.length).drop k/\k<=sp.length/\ρ=[Sl.sh (E8 m ws),Sl.sh (.int S),Sl.sh (.list (sp.map G1)),Sl.sh (.list (D6 t0)),.di false ((fd++[s]).map k3),.ow ((td'++L8 S s ws++Q4 S sp s k).map s3D),Sl.sh (s3D s),Sl.sh (.int (s.1:Nat)),Sl.sh (.int s.2.1),Sl.sh (.int (s.2.2:Nat)),z10,z11,z12,z13],⟨0,_,by rw[k7];rfl,L4 _,by rw[show Q4 S sp s 0=[] from rfl,Q0];rfl⟩,?_,?_⟩
    ·rintro x r ρ ⟨k,z13,hr,hk,rfl⟩
     obtain⟨rfl,rfl,hk'⟩:=C0i hr
     obtain⟨p,hp⟩:=C0m hk'
     have esn:Q4 S sp s (k + 1)=Q4 S sp s k++e8 S sp s k:=by unfold Q4;rw[B5i,B5j];simp
     have ln:(Q4 S sp s k).length<=4:=by
      have:=A7s (C0t S sp s) (L0 k)
      rw[U5] at this
      unfold Q4
      omega
     sizeOf_list_dec
     rw[B4h hp]
     try dsimp only[G1]
     left
     have keep:e8 S sp s k=[]->∀y13:Sl,∃(k_1:Nat) (z13:Sl),List.drop (k + 1) (J3 0 sp.length)=List.drop k_1 (J3 0 sp.length)/\k_1<=sp.length/\[Sl.sh (E8 m ws),Sl.sh (.int S),Sl.sh (.list (sp.map G1)),Sl.sh (.list (D6 t0)),Sl.di false (g9 k3 (fd++[s])),Sl.ow (g9 s3D (td'++L8 S s ws++Q4 S sp s k)),Sl.sh (s3D s),Sl.sh (.int (s.1:Nat)),Sl.sh (.int s.2.1),Sl.sh (.int (s.2.2:Nat)),z10,z11,z12,y13]=[Sl.sh (E8 m ws),Sl.sh (.int S),Sl.sh (.list (sp.map G1)),Sl.sh (.list (D6 t0)),Sl.di false (g9 k3 (fd++[s])),Sl.ow (g9 s3D (td'++L8 S s ws++Q4 S sp s k_1)),Sl.sh (s3D s),Sl.sh (.int (s.1:Nat)),Sl.sh (.int s.2.1),Sl.sh (.int (s.2.2:Nat)),z10,z11,z12,z13]:=fun e y13=>⟨k + 1,y13,rfl,hk',by rw[esn,e,Q0]⟩
     refine⟨rfl,rfl,N1 _ _,?_⟩
     rw[P3]
     by_cases c1:p.1=s.1
     ·rw[c1,beq_self_eq_true]
      left
      refine⟨⟨by omega,by omega,by decide⟩,?_⟩
      rw[D04]
      refine⟨?_,by decide,rfl,rfl,N1 _ _,?_⟩
      ·have h1:=A52 k
       have h2:=pw4 k (by omega)
       exact⟨by omega,by omega⟩
      rw[P3,D03]
      cases e:sIn s.2.2 k with
      | true=>
       left
       exact keep (by unfold e8;rw[hp];dsimp only;rw[if_neg fun z=>by rw[e] at z;exact absurd z.2 (by decide)]) _
      | false=>
       left
       have e1:e8 S sp s k=[(s.1,(if s.2.1 + p.2 < S then s.2.1 + p.2 else S),s.2.2 + 2 ^ k)]:=by
        unfold e8;rw[hp];dsimp only;rw[if_pos ⟨c1,e⟩,C0x]
       refine⟨⟨by omega,by omega,by decide⟩,by decide,by rw[C7,F5,F5];omega,k + 1,Sl.sh (.int (k:Nat)),rfl,hk',?_⟩
       rw[esn,e1,<-L1,P6 (f:=s3D) (l₁:=td'++L8 S s ws++Q4 S sp s k)]
       show _=[_,_,_,_,_,Sl.ow (_++[s3D (s.1,(if s.2.1 + p.2 < S then s.2.1 + p.2 else S),s.2.2 + 2 ^ k)]),_,_,_,_,_,_,_,_]
       unfold s3D
       rw[Int.natCast_add]
     ·rw[show (((p.1:Nat):Int) == ((s.1:Nat):Int))=false from beq_eq_false_iff_ne.mpr (by omega)]
      left
      exact keep (by unfold e8;rw[hp];dsimp only;rw[if_neg fun z=>c1 z.1]) _
    ·rintro ρ ⟨k,z13,hr,hk,rfl⟩
     have:=C0j hr
     have:k=sp.length:=by omega
     subst this
     exact⟨45 * (900 - (fd++[s]).length) + (td'++L8 S s ws++Q4 S sp s sp.length).length,by
      simp only[F5,F3,c5]
      omega,fd++[s],_,_,_,_,_,_,_,_,_,rfl,I2,by
      simp only[F5,F3,c5]
      omega,rfl⟩
 rintro ρ ⟨fd,z6,z7,z8,z9,z10,z11,z12,z13,rfl,I⟩
 try dsimp only
 refine go ?_;left
 exact q fd (fun s=>⟨fun hs=>I.rc s hs,fun r=>I.fin r⟩) I.nd
end
def Q5 (a b:Nat):Bool:=decide (a &&&b=a)
def djN (a b:Nat):Bool:=decide (a &&&b=0)
theorem A53 (a b:Nat):Builtin.bitAnd ((a:Nat):Int) ((b:Nat):Int)=((a &&&b:Nat):Int):=by
 unfold Builtin.bitAnd
 rw[decide_eq_true (C1s a),decide_eq_true (C1s b)]
 rfl
theorem B4o (a b:Nat):Builtin.bitOr ((a:Nat):Int) ((b:Nat):Int)=((a |||b:Nat):Int):=by
 unfold Builtin.bitOr Builtin.bitAnd Builtin.bitNot
 rw[decide_eq_false (by omega),decide_eq_false (by omega)]
 show -(-(((-(-((a:Nat):Int) - 1) - 1).toNat |||(-(-((b:Nat):Int) - 1) - 1).toNat:Nat):Int) - 1) - 1=_
 rw[show -(-((a:Nat):Int) - 1) - 1=((a:Nat):Int) by omega,show -(-((b:Nat):Int) - 1) - 1=((b:Nat):Int) by omega,k7,k7]
 omega
def U1 (g:Sp2):Nat->List Nat->List Tb->List Nat
 | _,acc,[]=>acc
 | s,acc,t::ts=>U1 g (s + 1) (if enF t g=true/\(acc.any fun n=>Q5 n s)=false then acc++[s] else acc) ts
structure NdO (s:Nat) (acc:List Nat):Prop where
 lt:∀n∈acc,n < s
 pw:acc.Pairwise fun a b=>a < b/\Q5 a b=false
theorem NdO.put {s:Nat} {acc:List Nat} (h:NdO s acc) (hn:(acc.any fun n=>Q5 n s)=false):NdO (s + 1) (acc++[s]):=by
 refine⟨fun n hn=>?_,?_⟩
 ·rcases K7.mp hn with z | z
  ·exact B49 (h.lt n z)
  ·rw[L9.mp z];exact Nat.lt_succ_self _
 ·refine A09.mpr ⟨h.pw,B0n _ _,fun a ha b hb=>?_⟩
  rw[L9.mp hb]
  refine⟨h.lt a ha,?_⟩
  have:=List.any_eq_false.mp hn a ha
  simpa using this
theorem NdO.keep {s:Nat} {acc:List Nat} (h:NdO s acc):NdO (s + 1) acc:=⟨fun n hn=>B49 (h.lt n hn),h.pw⟩
theorem C0y (g:Sp2):∀(ts:List Tb) (s:Nat) (acc:List Nat),NdO s acc->NdO (s + ts.length) (U1 g s acc ts)
 | [],s,acc,h=>h
 | t::ts,s,acc,h=>by
  unfold U1
  rw[show s + (t::ts).length=(s + 1) + ts.length by rw[F3];omega]
  refine C0y g ts _ _ ?_
  split
  ·rename_i c;exact h.put c.2
  ·exact h.keep
def chN (a:Nat):Nat:=[0,0,1,0,2,4,1,0,3,3,5,3,2,2,1,0].getD a 0
theorem D06:∀a,a < 16->∀b,b < 16->a < b->chN a=chN b->Q5 a b=true:=by decide
theorem D07 (a:Nat) (h:a < 16):chN a < 6:=by
 have:∀a,a < 16->chN a < 6:=by decide
 exact this a h
theorem D08 {acc:List Nat} (h:NdO 16 acc):acc.length<=6:=by
 have nd:(acc.map chN).Nodup:=by
  refine List.pairwise_map.mpr ?_
  have hp:acc.Pairwise fun a b=>a < 16/\b < 16/\a < b/\Q5 a b=false:=by
   refine B46.imp_of_mem ?_ h.pw
   intro a b ha hb hab
   exact⟨h.lt a ha,h.lt b hb,hab⟩
  refine hp.imp ?_
  rintro a b ⟨h1,h2,h3,h4⟩ e
  rw[D06 a h1 b h2 h3 e] at h4
  cases h4
 have:=A9g 6 _ nd fun x hx=>by
  obtain⟨a,ha,rfl⟩:=O9.mp hx
  exact D07 a (h.lt a ha)
 rw[C7] at this
 exact this
def orA (one:List Nat):Nat:=one.foldl (fun a k=>a |||k) 0
theorem D09 (one:List Nat) (k:Nat):orA (one++[k])=orA one |||k:=by unfold orA;rw[List.foldl_append];rfl
theorem D1a (s a b:Nat):djN s (a |||b)=(djN s a&&djN s b):=by
 unfold djN
 rw[Nat.and_or_distrib_left]
 by_cases h1:s &&&a=0
 ·rw[h1,Nat.zero_or]
  simp
 ·have:¬ (s &&&a |||s &&&b=0):=fun z=>h1 (by
   have:=Nat.left_le_or (n:=s &&&a) (m:=s &&&b)
   omega)
  rw[decide_eq_false this,decide_eq_false h1]
  rfl
theorem C0z (s:Nat):∀(one:List Nat) (u:Nat),(djN s u&&one.all fun k=>djN s k)=djN s (one.foldl (fun a k=>a |||k) u)
 | [],u=>by simp
 | k::one,u=>by
  rw[B45,<-C0z s one (u |||k),D1a,B0k,Bool.and_assoc]
theorem D1b (s:Nat) (one:List Nat):(one.all fun k=>djN s k)=djN s (orA one):=by
 have:=C0z s one 0
 rw[show djN s 0=true by unfold djN;simp,Bool.true_and] at this
 exact this
def ext:List (List Nat)->List Nat->List (List Nat)
 | [],one=>[one]
 | n::ns,one=>(n.filter fun s=>one.all fun k=>djN s k).flatMap fun s=>ext ns (one++[s])
def Q6 (n:List Nat) (one:List Nat):List (List Nat):=(n.filter fun s=>one.all fun k=>djN s k).map fun s=>one++[s]
def asG:List (List Nat)->List (List Nat)->List (List Nat)
 | [],ls=>ls
 | n::ns,ls=>asG ns (ls.flatMap (Q6 n))
theorem C00:∀(ns ls:List (List Nat)),asG ns ls=ls.flatMap (ext ns)
 | [],ls=>by
  show ls=ls.flatMap fun one=>[one]
  simp
 | n::ns,ls=>by
  show asG ns (ls.flatMap (Q6 n))=_
  rw[C00 ns,List.flatMap_assoc]
  congr 1
  funext one
  unfold Q6
  rw[List.flatMap_map]
  rfl
def fsF:List (List Nat)->Nat->Option (List Nat)
 | [],_=>some []
 | n::ns,u=>n.findSome? fun s=>if djN s u=true then (fsF ns (u |||s)).map (s::·) else none
theorem B4p {α β:Type} (p:α->Bool) (f:α->Option β):∀l:List α,(l.filter p).findSome? f=l.findSome? fun a=>if p a=true then f a else none
 | []=>rfl
 | a::l=>by
  rw[List.filter_cons]
  by_cases h:p a=true
  ·rw[if_pos h,A3o,A3o,if_pos h,B4p p f l]
  ·rw[if_neg h,A3o,if_neg h,B4p p f l]
theorem C01 {α β γ:Type} (g:β->γ) (f:α->Option β):∀l:List α,(l.findSome? fun a=>(f a).map g)=(l.findSome? f).map g
 | []=>rfl
 | a::l=>by
  rw[A3o,A3o,C01 g f l]
  cases f a <;> rfl
theorem C02:∀(ns:List (List Nat)) (one:List Nat),(ext ns one).head?=(fsF ns (orA one)).map (one++·)
 | [],one=>by show some one=some (one++[]);rw[Q0]
 | n::ns,one=>by
  show ((n.filter fun s=>one.all fun k=>djN s k).flatMap fun s=>ext ns (one++[s])).head?=_
  rw[List.head?_flatMap,B4p]
  show _=(n.findSome? fun s=>if djN s (orA one)=true then (fsF ns (orA one |||s)).map (s::·) else none).map (one++·)
  rw[<-C01]
  congr 1
  funext s
  rw[D1b]
  split
  ·rw[C02 ns,D09,Option.map_map]
   congr 1
   funext r
   show (one++[s])++r=one++(s::r)
   rw[L1]
   rfl
  ·rfl
theorem D1c (ns:List (List Nat)):(asG ns [[]]).head?=fsF ns 0:=by
 rw[C00,show ([[]]:List (List Nat)).flatMap (ext ns)=ext ns [] by simp,C02]
 show Option.map (fun r=>[]++r) (fsF ns 0)=_
 cases fsF ns 0 <;> rfl
theorem D1d (n one:List Nat):(Q6 n one).length<=n.length:=by
 unfold Q6
 rw[C7]
 exact C1t _ _
def E6 (ns:List (List Nat)):List PyData:=ns.map fun n=>.list (numL n)
def D1e:DSp:=fun ds Q=>∃(m:Nat) (b:Sp2),ds=[.int (m:Nat),N7 b]/\b.1 < m/\m<=900/\Q (.list (D6 (U0 m b)))
def D1f:DSp:=fun ds Q=>∃(t:Tb) (g:Sp2),ds=[.list (D6 t),N7 g]/\g.1 < t.length/\Q (.bool (enF t g))
def D1g:DSp:=fun ds Q=>∃a b:Nat,ds=[.int (a:Nat),.int (b:Nat)]/\Q (.bool (Q5 a b))
def D1h:p6:=fun ds Q=>∃(m:Nat) (ws:List Wy) (st:Int) (sp:List Sp2) (b g:Sp2),ds=[E8 m ws,.int st,.list (sp.map G1),.tuple [N7 b,N7 g]]/\F9 m ws/\0<=st/\st<=1000000000000000000000/\W2 m sp/\b.1 < m/\g.1 < m/\0<=b.2/\b.2<=st/\∀ts,u8 m ws st sp (U0 m b) ts->Q (.ow (numL (U1 g 0 [] ts)))
def rsO:Option (List Nat)->PyData
 | none=>.none
 | some r=>.list (numL r)
def A7t (d:Nat):DSp:=fun ds Q=>∃(ns:List (List Nat)) (u:Nat),ds=[.list (E6 ns),.int (u:Nat)]/\ns.length<=d/\(∀n∈ns,n.length<=16)/\Q (rsO (fsF ns u))
theorem A7u (a b:Nat):((((a:Nat):Int)) == ((b:Nat):Int))=decide (a=b):=by
 by_cases h:a=b
 ·subst h;simp
 ·rw[decide_eq_false h];exact beq_eq_false_iff_ne.mpr (by omega)
theorem B4q {x:PyData} {xs:List PyData}:S9 (x::xs) (some 1) none=xs:=by
 unfold S9
 rw[show (some (1:Int))=some (((1:Nat):Int)) from rfl,HT.sIx_nat,HT.sIx_none,F3,A08 (by omega),List.drop_succ_cons,A3m,v5 (by omega)]
theorem B0c (a:Nat):(((a:Nat):Int) == 0)=decide (a=0):=A7u a 0
abbrev D1i:DSp:=A7t 3
def wkD (x:Sp2×Sp2):PyData:=.tuple [N7 x.1,N7 x.2]
def B4r (m:Nat) (ws:List Wy) (st:Int) (sp:List Sp2) (x:Sp2×Sp2) (n:List Nat):Prop:=∃ts,u8 m ws st sp (U0 m x.1) ts/\n=U1 x.2 0 [] ts
def A54 (m:Nat) (st:Int) (x:Sp2×Sp2):Prop:=x.1.1 < m/\x.2.1 < m/\0<=x.1.2/\x.1.2<=st
theorem A55 {α β:Type} {R:α->β->Prop}:∀{as:List α} {bs:List β},O5 R as bs->bs.length=as.length
 | _,_,.nil=>rfl
 | _,_,.cons _ t=>by rw[F3,F3,A55 t]
theorem B4s {m:Nat} {ws:List Wy} {st:Int} {sp:List Sp2} (so:W2 m sp):∀{wk:List (Sp2×Sp2)} {nss:List (List Nat)},O5 (B4r m ws st sp) wk nss->∀n∈nss,n.length<=6
 | _,_,.nil,n,h=>nomatch h
 | x::_,_::_,.cons r t,n,h=>by
  rcases N2.mp h with e | e
  ·obtain⟨ts,hT,hn⟩:=r
   have hO:=C0y x.2 ts 0 [] ⟨fun n hn=>(nomatch hn),B46.nil⟩
   rw[e,hn]
   have:=pw4 sp.length (by have:=so.few;omega)
   have:=hT.len
   exact D08 ⟨fun n hn=>Q7 (hO.lt n hn) (by omega),hO.pw⟩
  ·exact B4s so t n e
theorem A7v:∀(ns:List (List Nat)) (u:Nat) (r:List Nat),fsF ns u=some r->r.length=ns.length
 | [],u,r,e=>by cases e;rfl
 | n::ns,u,r,e=>by
  obtain⟨a,_,h⟩:=List.exists_of_findSome?_eq_some (show (n.findSome? fun s=>if djN s u=true then (fsF ns (u |||s)).map (s::·) else none)=some r from e)
  split at h
  ·cases ef:fsF ns (u |||a) with
   | none=>rw[ef] at h;cases h
   | some rs=>rw[ef] at h;cases h;rw[F3,F3,A7v ns _ _ ef]
  ·cases h
theorem A56 {m:Nat} {b:Sp2} {st:Int} (hb:b.1 < m) (h0:0<=b.2) (h1:b.2<=st):F1 m st (U0 m b):=⟨B8m,fun p x e=>by
 unfold U0 at e
 rw[Z4 (by rw[k6];exact hb),A0n] at e
 split at e
 ·cases e;exact⟨h0,h1⟩
 ·cases e⟩
theorem D1j {ts:List Tb} {k:Nat} {x:PyData} {r:List PyData} (h:x::r=(Q3 (S0 ts)).drop k):k < ts.length/\x=.tuple [.int ((k:Nat):Int),.list (D6 (tbs ts k))]/\r=(Q3 (S0 ts)).drop (k + 1):=by
 have hl:(Q3 (S0 ts)).length=ts.length:=by unfold Q3;rw[C7,B5b,B4g]
 have hk:k < (Q3 (S0 ts)).length:=by
  rcases c4 k (Q3 (S0 ts)).length with c | c
  ·exact c
  ·rw[A1a c] at h;cases h
 rw[g6 hk] at h
 injection h with h1 h2
 refine⟨by omega,?_,h2⟩
 obtain⟨y,e1,e2⟩:=B7t (J6 hk)
 unfold S0 at e1
 rw[O7,B4c (by omega)] at e1
 cases e1
 rw[h1,e2]
theorem A7w {α:Type} (f:α->Bool):∀xs:List α,A2c (xs.map fun x=>PyData.bool (f x))=some (xs.map f)
 | []=>rfl
 | x::xs=>by
  show (A2c (xs.map fun x=>PyData.bool (f x))).map (f x::·)=_
  rw[A7w f xs];rfl
theorem any_map {α:Type} (f:α->Bool) (xs:List α):(xs.map f).any id=xs.any f:=by rw[List.any_map];rfl
theorem B4t {α:Type} (f:α->Bool) (xs:List α):(xs.map f).all id=xs.all f:=by rw[List.all_map];rfl
theorem B4u (ns:List Nat) (k:Nat):numL (ns++[k])=numL ns++[.int ((k:Nat):Int)]:=by unfold numL;rw[P6];rfl
theorem D1k {ts:List Tb} {k:Nat} (h:k < ts.length):ts.drop k=tbs ts k::ts.drop (k + 1):=by
 rw[g6 h]
 unfold tbs
 rw[J6 h]
 rfl
theorem C03 {g:Sp2} {ts:List Tb} {k:Nat} {acc:List Nat} (h:k < ts.length):U1 g k acc (ts.drop k)=U1 g (k + 1) (if enF (tbs ts k) g=true/\(acc.any fun n=>Q5 n k)=false then acc++[k] else acc) (ts.drop (k + 1)):=by
 rw[D1k h];rfl
section
variable {P:Program} {w:World} {K:A7} {mg:Str->Option Value} {base:Heap}
theorem D1l {a:Addr} {d:FuncData} {lev:Nat} {ps:List Str} {ms:List Md}:C9 P w K mg base CX0 lev a d ps (spD ms fun _ _=>False):=by
 exact⟨fun vs H Q E h=>by obtain⟨F,hand,ds,Qd,_,_,_,_,z,_⟩:=h;exact z.elim,fun A outer s H args us vs Q E hr _ _ _ h=>by obtain⟨F,hand,ds,Qd,_,_,_,_,z,_⟩:=h;exact z.elim⟩
theorem D1m (T:Txt K mg):C9 P w K mg base CX0 1 T.f_base_at.a T.f_base_at.d ["many", "spot"] (spD [.sh,.sh] D1e):=by
 refine F2 T.f_base_at.F B9y rfl (fun C cdv A outer s H E hr=>⟨_,(@F0 _ _ _ _ _ _ (V2 (C0 (i:=2) B9y.nd rfl (A8 rfl) (A88 (E1 (G5 (A5 G0 C1 E5))) (A1 (pv 0))))) (F0 (A4b (U8 (B5 (pv 1) (D4 (D3 (v:=V.int 1) rfl T.mg_LEVEL ⟨_,rfl⟩)) (fun _ _=>rfl)) (W6 (pv 2) (B5 (pv 1) (D4 (D3 (v:=V.int 0) rfl T.mg_PLACE_spots ⟨_,rfl⟩)) (fun _ _=>rfl)) U9)))
   (B1 (D7 (A1 (pv 2)))))),fun ds Q hl h=>?_⟩)
 obtain⟨m,b,rfl,hb,hm,q⟩:=h
 right
 refine⟨by decide,⟨by omega,by omega,by decide⟩,?_⟩
 rw[show ((m:Nat):Int).toNat=m by simp,B99]
 right
 rw[A5y (by rw[r8,k6];exact hb)]
 right
 rw[show PyData.int b.2=oD (some b.2) from rfl,B0a]
 exact q
theorem D1n (T:Txt K mg):C9 P w K mg base CX0 1 T.f_has_enough.a T.f_has_enough.d ["table", "goal"] (spD [.sh,.sh] D1f):=by
 refine F2 T.f_has_enough.F B9z rfl (fun C cdv A outer s H E hr=>⟨_,(@F0 _ _ _ _ _ _ (E2 (C0 (i:=2) B9z.nd rfl (A8 rfl) (B5 (pv 0) (B5 (pv 1) (D4 (D3 (v:=V.int 0) rfl T.mg_PLACE_spots ⟨_,rfl⟩)) (fun _ _=>rfl)) (fun _ _=>rfl)))) (B1 (D7 (A30 (c8 l7 m7 (A1 (pv 2)) G0 (D0 _)) (A1u (c8 A8o B1u (A1 (pv 2)) (B5 (pv 1) (D4 (D3 (v:=V.int 1) rfl T.mg_LEVEL ⟨_,rfl⟩)) (fun _ _=>rfl)) (D0 _))))))),fun ds Q hl h=>?_⟩)
 obtain⟨t,g,rfl,hg,q⟩:=h
 unfold enF at q
 right
 rw[A03 hg]
 cases e:gt t g.1 with
 | none=>
  rw[e] at q
  right
  exact q
 | some l=>
  rw[e] at q
  right
  exact q
theorem D1o (T:Txt K mg):C9 P w K mg base CX0 1 T.f_is_part.a T.f_is_part.d ["one", "other"] (spD [.sh,.sh] D1g):=by
 refine F2 T.f_is_part.F C7w rfl (fun C cdv A outer s H E hr=>⟨_,(B1 (D7 (c8 (N3 (K3 hr)) N5 (E9 x6 A0r (A1 (pv 0)) (A1 (pv 1))) (A1 (pv 0)) (D0 _)))),fun ds Q hl h=>?_⟩)
 obtain⟨a,b,rfl,q⟩:=h
 left
 refine⟨rfl,rfl,N1 _ _,?_⟩
 rw[A53,P3,A7u]
 exact q
theorem D1p (T:Txt K mg):C9 P w K mg base CX0 10 T.f_needs_of.a T.f_needs_of.d ["land", "store", "springs", "walker"] (A7i [.sh,.sh,.sh,.sh] D1h):=by
 have G_base_at:=@D1m P w K mg base T
 have b_base_at:=T.f_base_at.b
 have G_highest_by:=@D0h P w K mg base T
 have b_highest_by:=T.f_highest_by.b
 have G_has_enough:=@D1n P w K mg base T
 have b_has_enough:=T.f_has_enough.b
 have G_is_part:=@D1o P w K mg base T
 have b_is_part:=T.f_is_part.b
 refine B83 T.f_needs_of.F A95 rfl (fun C cdv A outer s H E hr=>⟨_,(@D5 _ _ _ _ _ _ (V2 (C0 (i:=4) A95.nd rfl (A8 rfl) (G5 C1))) (@D5 _ _ _ _ _ _ (@O4 _ _ _ _ _ _ (@O0 _ _ _ _ _ _ _ _ M0 rfl (@B12 _ _ _ _ _ _ (@B1o _ _ _ _ _ _ _ _ rfl T.n_enumerate (@B3 _ _ _ _ _ (@C5 _ _ _ _ _ _ _ (@B7 _ _ _ _ _ _ _ _ _ _ _ _ _ _ _ _ G_highest_by (hr.mono (by decide)) rfl T.f_highest_by.m T.f_highest_by.F.kp b_highest_by .nil B8 (@A2 _ _ _ _ _ _ (A1 (pv 0)) (@A2 _ _ _ _ _ _ (A1 (pv 1)) (@A2 _ _ _ _ _ _ (A1 (pv 2)) (@A2 _ _ _ _ _ _ (C5 (B7 G_base_at (hr.mono (by decide)) rfl T.f_base_at.m T.f_base_at.F.kp b_base_at .nil B8 (A2 (B5 (pv 0) (D4 (D3 (v:=V.int 0) rfl T.mg_MANY ⟨_,rfl⟩)) (fun _ _=>rfl)) (A2 (B5 (pv 3) (D4 (D3 (v:=V.int 0) rfl T.mg_BEGIN ⟨_,rfl⟩)) (fun _ _=>rfl)) C4 B4) B4) (he:=B4) (hpl:=(A4 B4 A3)))) C4 F4) A0) A0) A0) (by decide) A0 ((A4 A0 (A4 A0 (A4 F4 A3)))))) C6 F4) (by rfl))) (A9a (A3s (n:=2) rfl (V6 (J7 (i:=5) A95.nd rfl (g4 rfl)) (V6 (J7 (i:=6) A95.nd rfl (A8 rfl)) A3r)))) (@B1 _ _ _ _ (@K6 _ _ _ _ _ _ _ _ _ (PW.pt (@A61 _ _ _ _ _ _ _ _ (A0c (C5 (B7 G_has_enough (hr.mono (by decide)) rfl T.f_has_enough.m T.f_has_enough.F.kp b_has_enough .nil B8 (A2 (A1 (pv 6)) (A2 (B5 (pv 3) (D4 (D3 (v:=V.int 1) rfl T.mg_GOAL ⟨_,rfl⟩)) (fun _ _=>rfl)) C4 B4) A0) (he:=A0) (hpl:=(A4 B4 A3))))) (@A60 _ _ _ _ _ (@B1s _ _ _ _ _ (@A0c _ _ _ _ (@S8 _ _ _ _ _ _ C4o (@F8 _ _ _ _ _ _ _ _ _ (C35 rfl) rfl T.n_any C31 (@A5 _ _ _ _ _ _ (@E1 _ _ _ _ (@B8o _ _ _ _ _ _ _ (fun C=>(@o8 _ _ _ _ _ _ _ _ rfl (@j2 _ _ _ _ _ _ _ _ _ _ _ _ _ _ _ (O1.new (N:=["land", "store", "springs", "walker", "needs", "some", "table"]) (osc:=C2 A9v) (by decide +kernel)) rfl (Z2 (pv 4)) (fun _=>A0i) (fun _=>(C5 (B7 G_is_part (hr.mono (by decide)) rfl T.f_is_part.m T.f_is_part.F.kp b_is_part .nil B8 (A2 (A1 (pv 7)) (A2 (A1 (pv 5)) C4 A0) A0) (he:=A0) (hpl:=(A4 A0 A3))))) (by rfl) (by rfl) (by intro _;rfl)))))) C1 Z1) (by decide) (by decide) Z1 A3)) (by intro _;rfl)))))) (B1 (d3 (S4 (T6 U6 Y4 Y5 V8 (pv 4) (B3 (A1 (pv 5)) C6 A0))))) K5)) (by intro _;rfl))) (B1 (B74 (pv 4))))),fun ds Q hl h=>?_⟩)
 obtain⟨m,ws,st,sp,b,g,rfl,ok,s0,s1,so,hb,hg,b0,b1,q⟩:=h
 have m2:=ok.m2
 have sf:=so.few
 have p16:=pw4 sp.length (by omega)
 left
 refine⟨by decide,?_⟩
 refine go ?_;array_mem_dec
 refine⟨m,b,rfl,hb,by omega,?_⟩
 array_get_dec
 refine⟨m,ws,st,sp,U0 m b,rfl,ok,s0,s1,so,A56 hb b0 b1,fun ts hT=>?_⟩
 have tl:=hT.len
 array_get_dec
 refine⟨fun r ρ=>∃(k:Nat) (acc:List Nat) (z5 z6:Sl),r=(Q3 (S0 ts)).drop k/\ρ=[Sl.sh (E8 m ws),Sl.sh (.int st),Sl.sh (.list (sp.map G1)),Sl.sh (.tuple [N7 b,N7 g]),Sl.ow (numL acc),z5,z6]/\U1 g k acc (ts.drop k)=U1 g 0 [] ts/\NdO k acc/\k<=ts.length/\acc.length<=k,⟨0,[],_,_,rfl,rfl,rfl,⟨fun n hn=>(nomatch hn),B46.nil⟩,L4 _,D2 _⟩,?_,?_⟩
 ·rintro x r ρ ⟨k,acc,z5,z6,h1,rfl,hN,hO,hk,hal⟩
  obtain⟨hk',rfl,rfl⟩:=D1j h1
  rw[C03 hk'] at hN
  have tlen:=(hT.lid.tab _ (B4e hk')).len
  sizeOf_list_dec
  refine⟨tbs ts k,g,rfl,by rw[tlen];exact hg,?_⟩
  cases e1:enF (tbs ts k) g with
  | false=>
   rw[e1,if_neg (fun z=>by cases z.1)] at hN
   left
   exact⟨k + 1,acc,_,_,rfl,rfl,hN,hO.keep,hk',by omega⟩
  | true=>
   left
   unfold A9i
   left
   refine⟨⟨rfl,rfl,by rw[W1];omega⟩,?_⟩
   rw[show numL acc=acc.map fun n=>PyData.int ((n:Nat):Int) from rfl]
   refine o9 (f:=fun n=>.bool (Q5 n k)) (fun n hn Q' q'=>?_) ?_
   ·left
    exact⟨n,k,rfl,q'⟩
   rw[Q1]
   try unfold gBs
   left
   rw[A7w]
   left
   rw[any_map]
   cases e2:acc.any (fun n=>Q5 n k) with
   | true=>
    rw[e2,if_neg (fun z=>by cases z.2)] at hN
    exact M4 ⟨k + 1,acc,_,_,rfl,rfl,hN,hO.keep,hk',by omega⟩
   | false=>
    rw[e1,e2,if_pos ⟨rfl,rfl⟩] at hN
    refine L5 ?_
    left
    refine⟨by rw[C7];omega,k + 1,acc++[k],Sl.sh (.int ((k:Nat):Int)),Sl.sh (.list (D6 (tbs ts k))),rfl,?_,hN,hO.put e2,hk',by rw[F5,A07];omega⟩
    rw[B4u]
    rfl
 ·rintro ρ ⟨k,acc,z5,z6,h1,rfl,hN,hO,hk,hal⟩
  have:k=ts.length:=by
   have:=congrArg A6b h1
   unfold Q3 at this
   rw[A70,C7,B5b,B4g] at this
   have this:0=ts.length - k:=this
   omega
  subst this
  rw[A1a (D2 _)] at hN
  have hN:acc=U1 g 0 [] ts:=hN
  refine go ?_;left
  rw[hN]
  exact q ts hT
theorem D1q (T:Txt K mg):C9 P w K mg base CX0 1 T.f_first_shares.a T.f_first_shares.d ["needs", "used"] (spD [.sh,.sh] (A7t 0)):=by
 have G_first_shares:C9 P w K mg base CX0 0 T.f_first_shares.a T.f_first_shares.d ["needs", "used"] (spD [.sh,.sh] fun _ _=>False):=D1l
 have b_first_shares:=T.f_first_shares.b
 refine F2 T.f_first_shares.F a9 rfl (fun C cdv A outer s H E hr=>⟨_,(@D5 _ _ _ _ _ _ (K6 (F6 (N3 (K3 hr)) N5 (X1 (F8 S5 rfl T.n_len S7 (B3 (pv 0) C6 A0) (he:=A0) (hpl:=A3))) B0 (D0 _))
   (B1 (D7 (E1 (G5 C1))))
   K5) (@D5 _ _ _ _ _ _ (@O4 _ _ _ _ _ _ (@O0 _ _ _ _ _ _ _ _ M0 rfl (A2r (B5 (pv 0) B0 (fun _ _=>rfl))) (R6 (J7 (i:=2) a9.nd rfl (A8 rfl))) (@D5 _ _ _ _ _ _ (@E2 _ _ _ _ _ (@C0 _ _ 3 _ _ _ _ a9.nd rfl (A8 rfl) (@A31 _ _ _ _ _ _ _ _ _ (F6 (N3 (K3 hr)) N5 (E9 x6 A0r (A1 (pv 2)) (A1 (pv 1))) B0 (D0 _)) (C5 (B7 G_first_shares (hr.mono (by decide)) rfl T.f_first_shares.m T.f_first_shares.F.kp b_first_shares .nil B8 (A2 (E1 (A35 (pv 0) (m9 B0) A2h)) (A2 (E9 A8n A9h (A1 (pv 1)) (A1 (pv 2))) C4 F7) B4) (he:=B4) (hpl:=(A4 F7 A3)))) G0) (by rfl) (by first | exact .inl rfl | exact .inr rfl | assumption))) (B1 (K6 (F6 l7 m7 (A1 (pv 3)) G0 (D0 _))
   (B1 (D7 (E1 (n4 (E1 (G5 (A5 (A1 (pv 2)) C1 A0))) (A1 (pv 3))))))
   K5))) (by intro _;rfl))) (B1 (D7 G0)))),fun ds Q hl h=>?_⟩)
 obtain⟨ns,u,rfl,hd,hb,q⟩:=h
 cases ns with
 | cons n ns=>rw[F3] at hd;omega
 | nil=>
  left
  refine⟨rfl,rfl,N1 _ _,?_⟩
  refine L5 ?_
  left
  exact⟨by decide,q⟩
theorem D1r (T:Txt K mg):C9 P w K mg base CX0 2 T.f_first_shares.a T.f_first_shares.d ["needs", "used"] (spD [.sh,.sh] (A7t 1)):=by
 have G_first_shares:=@D1q P w K mg base T
 have b_first_shares:=T.f_first_shares.b
 refine F2 T.f_first_shares.F a9 rfl (fun C cdv A outer s H E hr=>⟨_,(@D5 _ _ _ _ _ _ (K6 (F6 (N3 (K3 hr)) N5 (X1 (F8 S5 rfl T.n_len S7 (B3 (pv 0) C6 A0) (he:=A0) (hpl:=A3))) B0 (D0 _))
   (B1 (D7 (E1 (G5 C1))))
   K5) (@D5 _ _ _ _ _ _ (@O4 _ _ _ _ _ _ (@O0 _ _ _ _ _ _ _ _ M0 rfl (A2r (B5 (pv 0) B0 (fun _ _=>rfl))) (R6 (J7 (i:=2) a9.nd rfl (A8 rfl))) (@D5 _ _ _ _ _ _ (@E2 _ _ _ _ _ (@C0 _ _ 3 _ _ _ _ a9.nd rfl (A8 rfl) (@A31 _ _ _ _ _ _ _ _ _ (F6 (N3 (K3 hr)) N5 (E9 x6 A0r (A1 (pv 2)) (A1 (pv 1))) B0 (D0 _)) (C5 (B7 G_first_shares (hr.mono (by decide)) rfl T.f_first_shares.m T.f_first_shares.F.kp b_first_shares .nil B8 (A2 (E1 (A35 (pv 0) (m9 B0) A2h)) (A2 (E9 A8n A9h (A1 (pv 1)) (A1 (pv 2))) C4 F7) B4) (he:=B4) (hpl:=(A4 F7 A3)))) G0) (by rfl) (by first | exact .inl rfl | exact .inr rfl | assumption))) (B1 (K6 (F6 l7 m7 (A1 (pv 3)) G0 (D0 _))
   (B1 (D7 (E1 (n4 (E1 (G5 (A5 (A1 (pv 2)) C1 A0))) (A1 (pv 3))))))
   K5))) (by intro _;rfl))) (B1 (D7 G0)))),fun ds Q hl h=>?_⟩)
 obtain⟨ns,u,rfl,hd,hb,q⟩:=h
 cases ns with
 | nil=>
  left
  refine⟨rfl,rfl,N1 _ _,?_⟩
  refine L5 ?_
  left
  exact⟨by decide,q⟩
 | cons n ns=>
  left
  refine⟨rfl,rfl,N1 _ _,?_⟩
  rw[P3,show ((((E6 (n::ns)).length:Nat):Int) == 0)=false from rfl]
  refine M4 ?_
  refine go ?_
  array_get_dec
  rw[show atI (E6 (n::ns)) 0=some (.list (numL n)) from A7a]
  array_get_dec
  have hn16:=hb n B2
  rw[F3] at hd
  have q:Q (rsO (n.findSome? fun s=>if djN s u=true then (fsF ns (u |||s)).map (s::·) else none)):=q
  refine⟨fun r ρ=>∃(R:List Nat) (z2 z3:Sl),r=numL R/\ρ=[Sl.sh (.list (E6 (n::ns))),Sl.sh (.int (u:Nat)),z2,z3]/\(n.findSome? fun s=>if djN s u=true then (fsF ns (u |||s)).map (s::·) else none)=R.findSome? fun s=>if djN s u=true then (fsF ns (u |||s)).map (s::·) else none,⟨n,_,_,rfl,rfl,rfl⟩,?_,?_⟩
  ·rintro x r ρ ⟨R,z2,z3,h1,rfl,hR⟩
   cases R with
   | nil=>cases h1
   | cons k R=>
    cases (show x::r=PyData.int ((k:Nat):Int)::numL R from h1)
    rw[A3o] at hR
    sizeOf_list_dec
    refine⟨rfl,rfl,N1 _ _,?_⟩
    rw[A53,P3,B0c]
    cases ed:djN k u with
    | false=>
     rw[show decide (k &&&u=0)=false from ed]
     rw[ed,if_neg G6] at hR
     left
     refine go ?_;left
     exact⟨R,_,_,rfl,rfl,hR⟩
    | true=>
     rw[show decide (k &&&u=0)=true from ed]
     rw[ed,if_pos rfl] at hR
     left
     rw[show S9 (E6 (n::ns)) (some 1) none=E6 ns from B4q,B4o]
     refine⟨ns,u |||k,rfl,by omega,fun n' h=>hb n' (A9 _ h),?_⟩
     cases ef:fsF ns (u |||k) with
     | none=>
      rw[ef] at hR
      refine go ?_;right
      exact⟨R,_,_,rfl,rfl,hR⟩
     | some rs=>
      rw[ef] at hR
      have hR:_=some (k::rs):=hR
      rw[hR] at q
      refine go ?_;right
      refine L5 ⟨by decide,?_⟩
      have hl2:=A7v ns _ _ ef
      exact⟨by rw[W1];omega,q⟩
  ·rintro ρ ⟨R,z2,z3,h1,rfl,hR⟩
   cases R with
   | cons k R=>cases h1
   | nil=>
    rw[hR] at q
    refine go ?_;left
    exact q
theorem D1s (T:Txt K mg):C9 P w K mg base CX0 3 T.f_first_shares.a T.f_first_shares.d ["needs", "used"] (spD [.sh,.sh] (A7t 2)):=by
 have G_first_shares:=@D1r P w K mg base T
 have b_first_shares:=T.f_first_shares.b
 refine F2 T.f_first_shares.F a9 rfl (fun C cdv A outer s H E hr=>⟨_,(@D5 _ _ _ _ _ _ (K6 (F6 (N3 (K3 hr)) N5 (X1 (F8 S5 rfl T.n_len S7 (B3 (pv 0) C6 A0) (he:=A0) (hpl:=A3))) B0 (D0 _))
   (B1 (D7 (E1 (G5 C1))))
   K5) (@D5 _ _ _ _ _ _ (@O4 _ _ _ _ _ _ (@O0 _ _ _ _ _ _ _ _ M0 rfl (A2r (B5 (pv 0) B0 (fun _ _=>rfl))) (R6 (J7 (i:=2) a9.nd rfl (A8 rfl))) (@D5 _ _ _ _ _ _ (@E2 _ _ _ _ _ (@C0 _ _ 3 _ _ _ _ a9.nd rfl (A8 rfl) (@A31 _ _ _ _ _ _ _ _ _ (F6 (N3 (K3 hr)) N5 (E9 x6 A0r (A1 (pv 2)) (A1 (pv 1))) B0 (D0 _)) (C5 (B7 G_first_shares (hr.mono (by decide)) rfl T.f_first_shares.m T.f_first_shares.F.kp b_first_shares .nil B8 (A2 (E1 (A35 (pv 0) (m9 B0) A2h)) (A2 (E9 A8n A9h (A1 (pv 1)) (A1 (pv 2))) C4 F7) B4) (he:=B4) (hpl:=(A4 F7 A3)))) G0) (by rfl) (by first | exact .inl rfl | exact .inr rfl | assumption))) (B1 (K6 (F6 l7 m7 (A1 (pv 3)) G0 (D0 _))
   (B1 (D7 (E1 (n4 (E1 (G5 (A5 (A1 (pv 2)) C1 A0))) (A1 (pv 3))))))
   K5))) (by intro _;rfl))) (B1 (D7 G0)))),fun ds Q hl h=>?_⟩)
 obtain⟨ns,u,rfl,hd,hb,q⟩:=h
 cases ns with
 | nil=>
  left
  refine⟨rfl,rfl,N1 _ _,?_⟩
  refine L5 ?_
  left
  exact⟨by decide,q⟩
 | cons n ns=>
  left
  refine⟨rfl,rfl,N1 _ _,?_⟩
  rw[P3,show ((((E6 (n::ns)).length:Nat):Int) == 0)=false from rfl]
  refine M4 ?_
  refine go ?_
  array_get_dec
  rw[show atI (E6 (n::ns)) 0=some (.list (numL n)) from A7a]
  array_get_dec
  have hn16:=hb n B2
  rw[F3] at hd
  have q:Q (rsO (n.findSome? fun s=>if djN s u=true then (fsF ns (u |||s)).map (s::·) else none)):=q
  refine⟨fun r ρ=>∃(R:List Nat) (z2 z3:Sl),r=numL R/\ρ=[Sl.sh (.list (E6 (n::ns))),Sl.sh (.int (u:Nat)),z2,z3]/\(n.findSome? fun s=>if djN s u=true then (fsF ns (u |||s)).map (s::·) else none)=R.findSome? fun s=>if djN s u=true then (fsF ns (u |||s)).map (s::·) else none,⟨n,_,_,rfl,rfl,rfl⟩,?_,?_⟩
  ·rintro x r ρ ⟨R,z2,z3,h1,rfl,hR⟩
   cases R with
   | nil=>cases h1
   | cons k R=>
    cases (show x::r=PyData.int ((k:Nat):Int)::numL R from h1)
    rw[A3o] at hR
    sizeOf_list_dec
    refine⟨rfl,rfl,N1 _ _,?_⟩
    rw[A53,P3,B0c]
    cases ed:djN k u with
    | false=>
     rw[show decide (k &&&u=0)=false from ed]
     rw[ed,if_neg G6] at hR
     left
     refine go ?_;left
     exact⟨R,_,_,rfl,rfl,hR⟩
    | true=>
     rw[show decide (k &&&u=0)=true from ed]
     rw[ed,if_pos rfl] at hR
     left
     rw[show S9 (E6 (n::ns)) (some 1) none=E6 ns from B4q,B4o]
     refine⟨ns,u |||k,rfl,by omega,fun n' h=>hb n' (A9 _ h),?_⟩
     cases ef:fsF ns (u |||k) with
     | none=>
      rw[ef] at hR
      refine go ?_;right
      exact⟨R,_,_,rfl,rfl,hR⟩
     | some rs=>
      rw[ef] at hR
      have hR:_=some (k::rs):=hR
      rw[hR] at q
      refine go ?_;right
      refine L5 ⟨by decide,?_⟩
      have hl2:=A7v ns _ _ ef
      exact⟨by rw[W1];omega,q⟩
  ·rintro ρ ⟨R,z2,z3,h1,rfl,hR⟩
   cases R with
   | cons k R=>cases h1
   | nil=>
    rw[hR] at q
    refine go ?_;left
    exact q
theorem D1t (T:Txt K mg):C9 P w K mg base CX0 4 T.f_first_shares.a T.f_first_shares.d ["needs", "used"] (spD [.sh,.sh] (A7t 3)):=by
 have G_first_shares:=@D1s P w K mg base T
 have b_first_shares:=T.f_first_shares.b
 refine F2 T.f_first_shares.F a9 rfl (fun C cdv A outer s H E hr=>⟨_,(@D5 _ _ _ _ _ _ (K6 (F6 (N3 (K3 hr)) N5 (X1 (F8 S5 rfl T.n_len S7 (B3 (pv 0) C6 A0) (he:=A0) (hpl:=A3))) B0 (D0 _))
   (B1 (D7 (E1 (G5 C1))))
   K5) (@D5 _ _ _ _ _ _ (@O4 _ _ _ _ _ _ (@O0 _ _ _ _ _ _ _ _ M0 rfl (A2r (B5 (pv 0) B0 (fun _ _=>rfl))) (R6 (J7 (i:=2) a9.nd rfl (A8 rfl))) (@D5 _ _ _ _ _ _ (@E2 _ _ _ _ _ (@C0 _ _ 3 _ _ _ _ a9.nd rfl (A8 rfl) (@A31 _ _ _ _ _ _ _ _ _ (F6 (N3 (K3 hr)) N5 (E9 x6 A0r (A1 (pv 2)) (A1 (pv 1))) B0 (D0 _)) (C5 (B7 G_first_shares (hr.mono (by decide)) rfl T.f_first_shares.m T.f_first_shares.F.kp b_first_shares .nil B8 (A2 (E1 (A35 (pv 0) (m9 B0) A2h)) (A2 (E9 A8n A9h (A1 (pv 1)) (A1 (pv 2))) C4 F7) B4) (he:=B4) (hpl:=(A4 F7 A3)))) G0) (by rfl) (by first | exact .inl rfl | exact .inr rfl | assumption))) (B1 (K6 (F6 l7 m7 (A1 (pv 3)) G0 (D0 _))
   (B1 (D7 (E1 (n4 (E1 (G5 (A5 (A1 (pv 2)) C1 A0))) (A1 (pv 3))))))
   K5))) (by intro _;rfl))) (B1 (D7 G0)))),fun ds Q hl h=>?_⟩)
 obtain⟨ns,u,rfl,hd,hb,q⟩:=h
 cases ns with
 | nil=>
  left
  refine⟨rfl,rfl,N1 _ _,?_⟩
  refine L5 ?_
  left
  exact⟨by decide,q⟩
 | cons n ns=>
  left
  refine⟨rfl,rfl,N1 _ _,?_⟩
  rw[P3,show ((((E6 (n::ns)).length:Nat):Int) == 0)=false from rfl]
  refine M4 ?_
  refine go ?_
  array_get_dec
  rw[show atI (E6 (n::ns)) 0=some (.list (numL n)) from A7a]
  array_get_dec
  have hn16:=hb n B2
  rw[F3] at hd
  have q:Q (rsO (n.findSome? fun s=>if djN s u=true then (fsF ns (u |||s)).map (s::·) else none)):=q
  refine⟨fun r ρ=>∃(R:List Nat) (z2 z3:Sl),r=numL R/\ρ=[Sl.sh (.list (E6 (n::ns))),Sl.sh (.int (u:Nat)),z2,z3]/\(n.findSome? fun s=>if djN s u=true then (fsF ns (u |||s)).map (s::·) else none)=R.findSome? fun s=>if djN s u=true then (fsF ns (u |||s)).map (s::·) else none,⟨n,_,_,rfl,rfl,rfl⟩,?_,?_⟩
  ·rintro x r ρ ⟨R,z2,z3,h1,rfl,hR⟩
   cases R with
   | nil=>cases h1
   | cons k R=>
    cases (show x::r=PyData.int ((k:Nat):Int)::numL R from h1)
    rw[A3o] at hR
    sizeOf_list_dec
    refine⟨rfl,rfl,N1 _ _,?_⟩
    rw[A53,P3,B0c]
    cases ed:djN k u with
    | false=>
     rw[show decide (k &&&u=0)=false from ed]
     rw[ed,if_neg G6] at hR
     left
     refine go ?_;left
     exact⟨R,_,_,rfl,rfl,hR⟩
    | true=>
     rw[show decide (k &&&u=0)=true from ed]
     rw[ed,if_pos rfl] at hR
     left
     rw[show S9 (E6 (n::ns)) (some 1) none=E6 ns from B4q,B4o]
     refine⟨ns,u |||k,rfl,by omega,fun n' h=>hb n' (A9 _ h),?_⟩
     cases ef:fsF ns (u |||k) with
     | none=>
      rw[ef] at hR
      refine go ?_;right
      exact⟨R,_,_,rfl,rfl,hR⟩
     | some rs=>
      rw[ef] at hR
      have hR:_=some (k::rs):=hR
      rw[hR] at q
      refine go ?_;right
      refine L5 ⟨by decide,?_⟩
      have hl2:=A7v ns _ _ ef
      exact⟨by rw[W1];omega,q⟩
  ·rintro ρ ⟨R,z2,z3,h1,rfl,hR⟩
   cases R with
   | cons k R=>cases h1
   | nil=>
    rw[hR] at q
    refine go ?_;left
    exact q
theorem D1u (T:Txt K mg):C9 P w K mg base CX0 4 T.f_first_shares.a T.f_first_shares.d ["needs", "used"] (spD [.sh,.sh] D1i):=D1t T
end
theorem C04 {m:Nat} {ws:List Wy} {S:Int} {sp:List Sp2} {b:Tb} {ts:List Tb} (ok:F9 m ws) (h0:0<=S) (hb:F1 m S b) (so:W2 m sp) (h:u8 m ws S sp b ts) (g:Sp2) {s:Nat} (hs:s < ts.length):enF (tbs ts s) g=true↔∃x,RcS ws S sp b (g.1,x,s)/\g.2<=x:=by
 unfold enF
 cases e:gt (tbs ts s) g.1 with
 | none=>
  refine⟨fun z=>(nomatch z),fun ⟨x,hx,_⟩=>?_⟩
  have:=C0w ok h0 hb so h hx
  rw[show gt (tbs ts (g.1,x,s).2.2) (g.1,x,s).1=none from e] at this
  exact absurd this X3
 | some l=>
  refine⟨fun z=>⟨l,D0x ok h0 hb so h s hs g.1 l e,of_decide_eq_true z⟩,fun ⟨x,hx,hl⟩=>?_⟩
  have:=C0w ok h0 hb so h hx
  rw[show gt (tbs ts (g.1,x,s).2.2) (g.1,x,s).1=some l from e] at this
  exact decide_eq_true (T4 hl (M9.mp this))
def ndP (acc:List Nat) (s:Nat):List Nat:=if (acc.any fun n=>Q5 n s)=true then acc else acc++[s]
theorem D1v (s:Nat):Q5 s s=true:=decide_eq_true (Nat.and_self s)
theorem D1w (acc:List Nat) (s:Nat):ndP (ndP acc s) s=ndP acc s:=by
 by_cases c:(acc.any fun n=>Q5 n s)=true
 ·have e:ndP acc s=acc:=if_pos c
  rw[e,e]
 ·have e:ndP acc s=acc++[s]:=if_neg c
  rw[e]
  exact if_pos (by rw[List.any_append,show ([s].any fun n=>Q5 n s)=true by simp [D1v],Bool.or_true])
theorem C05 (s:Nat):∀(n:Nat) (acc:List Nat),(D9 (n + 1) s).foldl ndP acc=ndP acc s
 | 0,acc=>rfl
 | n + 1,acc=>by
  rw[S2,B45,C05 s n,D1w]
theorem C06:∀{T:List Nat} (k:Nat),T.Pairwise (·<=·)->T.filter (fun s=>decide (k<=s))=T.filter (fun s=>decide (s=k))++T.filter (fun s=>decide (k + 1<=s))
 | [],_,_=>rfl
 | a::T,k,h=>by
  obtain⟨h1,h2⟩:=C1o.mp h
  have ih:=C06 k h2
  rcases Nat.lt_trichotomy a k with c | c | c
  ·rw[A3l (by simp;omega),A3l (by simp;omega),A3l (by simp;omega),ih]
  ·rw[A6g (by simp;omega),A6g (by simp;omega),A3l (by simp;omega),ih,A3j]
  ·have e:T.filter (fun s=>decide (s=k))=[]:=List.filter_eq_nil_iff.mpr fun x hx=>by have:=h1 x hx;simp;omega
   rw[A6g (by simp;omega),A3l (by simp;omega),A6g (by simp;omega),ih,e,Q1,Q1]
theorem C07 {k:Nat}:∀{l:List Nat},(∀x∈l,x=k)->l=D9 l.length k
 | [],_=>rfl
 | a::l,h=>by
  rw[F3,S2,<-C07 fun x hx=>h x (A9 _ hx),h a B2]
theorem C08 {g:Sp2} {ts:List Tb} {T:List Nat} (hT:T.Pairwise (·<=·)) (hm:∀s,s∈T↔s < ts.length/\enF (tbs ts s) g=true):∀(n k:Nat) (acc:List Nat),k + n=ts.length->U1 g k acc (ts.drop k)=(T.filter fun s=>decide (k<=s)).foldl ndP acc
 | 0,k,acc,h=>by
  have e:T.filter (fun s=>decide (k<=s))=[]:=List.filter_eq_nil_iff.mpr fun x hx=>by have:=((hm x).mp hx).1;simp;omega
  rw[A1a (by omega),e];rfl
 | n + 1,k,acc,h=>by
  rw[C03 (by omega),C06 k hT,List.foldl_append]
  have ih:=fun acc=>C08 hT hm n (k + 1) acc (by omega)
  rw[ih]
  congr 1
  have hall:∀x∈T.filter (fun s=>decide (s=k)),x=k:=fun x hx=>by simpa using (k0.mp hx).2
  rw[C07 hall]
  cases el:(T.filter fun s=>decide (s=k)).length with
  | zero=>
   have hn:¬ enF (tbs ts k) g=true:=fun z=>by
    have:k∈T.filter (fun s=>decide (s=k)):=k0.mpr ⟨(hm k).mpr ⟨by omega,z⟩,by simp⟩
    rw[List.length_eq_zero_iff.mp el] at this
    cases this
   rw[if_neg fun z=>hn z.1];rfl
  | succ j=>
   have hy:enF (tbs ts k) g=true:=by
    have:(T.filter fun s=>decide (s=k))≠[]:=fun z=>by rw[z] at el;cases el
    obtain⟨x,hx⟩:=List.exists_mem_of_ne_nil _ this
    have e:=hall x hx
    subst e
    exact ((hm x).mp (k0.mp hx).1).2
   rw[C05]
   unfold ndP
   cases ea:acc.any fun n=>Q5 n k with
   | true=>rw[if_neg (fun z=>by cases z.2),if_pos rfl]
   | false=>rw[if_pos ⟨hy,rfl⟩,if_neg G6]
theorem D1x {g:Sp2} {ts:List Tb} {T:List Nat} (hT:T.Pairwise (·<=·)) (hm:∀s,s∈T↔s < ts.length/\enF (tbs ts s) g=true):T.foldl ndP []=U1 g 0 [] ts:=by
 have:=C08 hT hm ts.length 0 [] (by omega)
 rw[A3m] at this
 rw[this,List.filter_eq_self.mpr fun x _=>by simp]
def A57 (fd:List Sp3) (g:Sp2):List Nat:=(fd.filter fun r=>r.1 == g.1&&decide (g.2<=r.2.1)).map fun r=>r.2.2
def D1y:DSp:=fun ds Q=>∃(m:Nat) (ws:List Wy) (S:Int) (sp:List Sp2) (b g:Sp2),ds=[E8 m ws,.int S,.list (sp.map G1),.tuple [N7 b,N7 g]]/\F9 m ws/\0<=S/\2 ^ sp.length * (m * (S.toNat + 1))<=900/\W2 m sp/\b.1 < m/\0<=b.2/\b.2<=S/\∀T:List Nat,T.Pairwise (·<=·)->(∀s,s∈T↔∃x,RcS ws S sp (U0 m b) (g.1,x,s)/\g.2<=x)->Q (.list (numL (T.foldl ndP [])))
theorem D1z {t:Tb} {m:Nat} (h:t.length=m):[]++(L0 m).map (fun k=>oD (gt t k))=D6 t:=by
 rw[Q1]
 unfold D6
 refine A71 fun k=>?_
 rw[O7,O7]
 rcases c4 k m with z | z
 ·rw[B0m z,A7d (by omega)];rfl
 ·rw[Y2 (by rw[U5];exact z),Y2 (by omega)];rfl
theorem D10 {fd:List Sp3} {g:Sp2} {s:Nat}:s∈A57 fd g↔∃x,(g.1,x,s)∈fd/\g.2<=x:=by
 unfold A57
 rw[O9]
 constructor
 ·rintro ⟨r,hr,rfl⟩
  obtain⟨h1,h2⟩:=k0.mp hr
  obtain⟨h3,h4⟩:=Bool.and_eq_true_iff.mp h2
  have e:r.1=g.1:=by simpa using h3
  refine⟨r.2.1,?_,of_decide_eq_true h4⟩
  rw[<-e];exact h1
 ·rintro ⟨x,h1,h2⟩
  exact⟨(g.1,x,s),k0.mpr ⟨h1,by simp [h2]⟩,rfl⟩
theorem D11 {ns:List Nat} {ms:List Int} (h:ms.Perm (ns.map fun n=>((n:Nat):Int))) (hs:ms.Pairwise (·<=·)):∃T:List Nat,ms.map PyData.int=numL T/\T.Perm ns/\T.Pairwise (·<=·):=by
 have hn:∀x∈ms,0<=x:=fun x hx=>by
  obtain⟨n,_,rfl⟩:=O9.mp (h.mem_iff.mp hx)
  exact C1s n
 refine⟨ms.map A8b,?_,?_,?_⟩
 ·unfold numL
  rw[g7]
  exact List.map_congr_left fun x hx=>by show PyData.int x=PyData.int ((x.toNat:Nat):Int);rw[Int.toNat_of_nonneg (hn x hx)]
 ·have:=h.map A8b
  rw[g7] at this
  refine this.trans (Y3.of_eq ?_)
  conv=>rhs;rw[<-List.map_id ns]
  exact List.map_congr_left fun x _=>by simp
 ·rw[List.pairwise_map]
  exact hs.imp fun {a b} hab=>by omega
theorem D12 {acc:List Nat} {k:Nat}:(acc.all fun n=>!Q5 n k)=!(acc.any fun n=>Q5 n k):=by
 induction acc with
 | nil=>rfl
 | cons a l ih=>rw[B0k,A6c,ih,Bool.not_or]
section
variable {P:Program} {w:World} {K:A7} {mg:Str->Option Value} {base:Heap}
theorem D13 (T:Txt K mg):C9 P w K mg base CX0 3 T.f_needs.a T.f_needs.d ["_law_land_here", "_law_store", "_law_springs_here", "_law_walker_here"] (spD [.sh,.sh,.sh,.sh] D1y):=by
 have G_by_sets:=@D05 P w K mg base T
 have b_by_sets:=T.f_by_sets.b
 refine F2 T.f_needs.F A02 rfl (fun C cdv A outer s H E hr=>⟨_,(@D5 _ _ _ _ _ _ (B7w (U8 (A1 (pv 3)) (A9a (A3s (n:=2) rfl (V6 (J7 (i:=4) A02.nd rfl (g4 rfl)) (V6 (J7 (i:=5) A02.nd rfl (g4 rfl)) A3r)))))) (@D5 _ _ _ _ _ _ (@C46 _ _ _ _ _ _ _ _ _ rfl (@A6x _ _ _ _ _ _ _ _ _ _ _ _ _ 6 _ _ _ _ _ A02.nd rfl (A8 rfl) (O1.new (N:=["_law_land_here", "_law_store", "_law_springs_here", "_law_walker_here", "_law_begin", "_law_goal", "_law_base", "_law_found", "_law_through", "_law_needs_here", "_law_some"]) (osc:=C2 A5u) (by decide +kernel)) rfl (j6 (i7 rfl T.n_range (A5 (B5 (pv 0) B0 (fun _ _=>rfl)) C1 B4))) (fun _=>A0i) (fun _=>(K0 (E1 (G5 (A5 G0 (A5 (B5 (pv 4) B0 (fun _ _=>rfl)) C1 B4) E5))) (S8 B7g (l8 B54 rfl T.n_int A80 (A5 (c8 (N3 (K3 hr)) N5 (A1 (pv 11)) (B5 (pv 4) B0 (fun _ _=>rfl)) (D0 _)) C1 A82) (he:=A82) (hpl:=A3))) (fun _ _=>rfl))) (by rfl) (by first | exact .inl rfl | exact .inr rfl | assumption) (by rfl) (by rfl) (by intro _;rfl))) (@D5 _ _ _ _ _ _ (E2 (C0 (i:=7) A02.nd rfl (A8 rfl) (C6v (B7 G_by_sets (hr.mono (by decide)) rfl T.f_by_sets.m T.f_by_sets.F.kp b_by_sets .nil B8 (A2 (A1 (pv 0)) (A2 (A1 (pv 1)) (A2 (A1 (pv 2)) (A2 (A1 (pv 6)) C4 A0) A0) A0) A0) (he:=A0) (hpl:=(A4 A0 (A4 A0 (A4 A0 A3)))))))) (@D5 _ _ _ _ _ _ (@E2 _ _ _ _ _ (@C0 _ _ 8 _ _ _ _ A02.nd rfl (A8 rfl) (@E1 _ _ _ _ (C7i (@F8 _ _ _ _ _ _ _ _ _ (C7g rfl) rfl T.n_sorted C30 (@B3 _ _ _ _ _ (@E1 _ _ _ _ (@o8 _ _ _ _ _ _ _ _ rfl (@j2 _ _ _ _ _ _ _ _ _ _ _ _ _ _ _ (O1.new (N:=["_law_land_here", "_law_store", "_law_springs_here", "_law_walker_here", "_law_begin", "_law_goal", "_law_base", "_law_found", "_law_through", "_law_needs_here", "_law_some"]) (osc:=C2 A5u) (by decide +kernel)) rfl (C6x (A1 (pv 7))) (fun _=>(A8y (PW.pt (A61 (F6 (N3 (K3 hr)) N5 (B5 (pv 11) B0 (fun _ _=>rfl)) (B5 (pv 5) B0 (fun _ _=>rfl)) (D0 _)) (A60 (F6 A8o B1u (B5 (pv 11) B0 (fun _ _=>rfl)) (B5 (pv 5) B0 (fun _ _=>rfl)) (D0 _))))))) (fun _=>(B5 (pv 11) B0 (fun _ _=>rfl))) (by rfl) (by rfl) (by intro _;rfl)))) C6 Z1) (by decide) (by decide) Z1 A3))) (by rfl) (by first | exact .inl rfl | exact .inr rfl | assumption))) (@D5 _ _ _ _ _ _ (V2 (C0 (i:=9) A02.nd rfl (A8 rfl) (G5 C1))) (@D5 _ _ _ _ _ _ (@A39 _ _ _ _ (@O4 _ _ _ _ _ _ (@O0 _ _ _ _ _ _ _ _ M0 rfl (Z2 (pv 8)) (R6 (J7 (i:=10) A02.nd rfl (g4 rfl))) (@B1 _ _ _ _ (@K6 _ _ _ _ _ _ _ _ _ (@A0c _ _ _ _ (@S8 _ _ _ _ _ _ B1x (@F8 _ _ _ _ _ _ _ _ _ (A8z rfl) rfl T.n_all A81 (@A5 _ _ _ _ _ _ (@E1 _ _ _ _ (@B8o _ _ _ _ _ _ _ (fun C=>(@o8 _ _ _ _ _ _ _ _ rfl (@j2 _ _ _ _ _ _ _ _ _ _ _ _ _ _ _ (O1.new (N:=["_law_land_here", "_law_store", "_law_springs_here", "_law_walker_here", "_law_begin", "_law_goal", "_law_base", "_law_found", "_law_through", "_law_needs_here", "_law_some"]) (osc:=C2 A5u) (by decide +kernel)) rfl (Z2 (pv 9)) (fun _=>A0i) (fun _=>(c8 (A1l (K3 hr)) N5 (A1 (pv 11)) (E9 x6 A0r (A1 (pv 11)) (A1 (pv 10))) (D0 _))) (by rfl) (by rfl) (by intro _;rfl)))))) C1 Z1) (by decide) (by decide) Z1 A3)) (by intro _;rfl)) (B1 (d3 (S4 (T6 U6 Y4 Y5 V8 (pv 9) (B3 (A1 (pv 10)) C6 A0))))) K5)) (by intro _;rfl)))) (B1 (D7 (A1 (pv 9)))))))))),fun ds Q hl h=>?_⟩)
 obtain⟨m,ws,S,sp,b,g,rfl,ok,h0,hN,so,hb,b0,b1,q⟩:=h
 have m1:=ok.m1
 have m2:=ok.m2
 left
 refine go ?_;array_mem_dec
 refine⟨⟨by omega,by omega⟩,⟨rfl,by unfold J3;rw[C7,U5];omega⟩,?_⟩
 rw[show ((m:Nat):Int).toNat=m by simp,B38 m]
 refine o9 (f:=fun k:Nat=>oD (gt (U0 m b) k)) (fun k hk Q' q'=>?_) ?_
 ·have hk:=N9.mp hk
  have gb:gt (U0 m b) k=if b.1=k then some b.2 else none:=by
   unfold U0
   rw[Z4 (by rw[k6];exact hb),A0n]
  rw[gb] at q'
  left
  refine⟨by decide,rfl,rfl,N1 _ _,?_⟩
  rw[P3,A7u]
  by_cases c:k=b.1
  ·rw[decide_eq_true c]
   rw[if_pos c.symm] at q'
   exact q'
  ·rw[decide_eq_false c]
   rw[if_neg (fun z=>c z.symm)] at q'
   exact q'
 rw[D1z B8m]
 refine go ?_;left
 refine⟨m,ws,S,sp,U0 m b,rfl,ok,h0,hN,so,A56 hb b0 b1,fun fd hfd nd=>?_⟩
 have fl:fd.length<=900:=V5 (WkS.few ok h0 (A56 hb b0 b1) so nd fun s hs=>(hfd s).mp hs) hN
 refine go ?_;array_mem_dec
 refine⟨fd.map k3,rfl,⟨rfl,by rw[C7,C7];omega⟩,?_⟩
 rw[g7,show m5 ∘ k3=s3D from rfl]
 refine A7b (p:=fun r:Sp3=>r.1 == g.1&&decide (g.2<=r.2.1)) (f:=fun r=>.int ((r.2.2:Nat):Int)) (fun r hr Q' q2=>?_) (fun r hr e Q' q2=>?_) ?_
 ·try dsimp only[s3D]
  left
  refine⟨rfl,rfl,N1 _ _,?_⟩
  rw[P3,A7u]
  by_cases c:r.1=g.1
  ·rw[decide_eq_true c]
   rw[show (r.1 == g.1)=true from beq_iff_eq.mpr c,Bool.true_and] at q2
   exact q2
  ·rw[decide_eq_false c]
   rw[show (r.1 == g.1)=false from beq_eq_false_iff_ne.mpr c,Bool.false_and] at q2
   exact q2
 ·try dsimp only[s3D]
  left
  exact q2
 rw[Q1]
 refine⟨(A57 fd g).map fun n=>((n:Nat):Int),?_,?_,fun ms p1 p2=>?_⟩
 ·unfold A57
  rw[g7,g7];rfl
 ·rw[C7]
  unfold A57
  rw[C7]
  exact V5 (C1t _ _) (by omega)
 obtain⟨T,eT,pT,sT⟩:=D11 p1 p2
 rw[eT]
 have hq:=q T sT fun s=>by
  rw[pT.mem_iff,D10]
  exact⟨fun ⟨x,a,b⟩=>⟨x,(hfd _).mp a,b⟩,fun ⟨x,a,b⟩=>⟨x,(hfd _).mpr a,b⟩⟩
 have lT:T.length<=900:=by
  rw[pT.length_eq]
  unfold A57
  rw[C7]
  exact V5 (C1t _ _) fl
 refine go ?_;left
 refine⟨by decide,?_⟩
 refine go ?_
 (try unfold V9);(try unfold A38)
 refine⟨fun ρ'=>∃z10:Sl,ρ'=[Sl.sh (E8 m ws),Sl.sh (.int S),Sl.sh (.list (sp.map G1)),Sl.sh (.tuple [N7 b,N7 g]),Sl.sh (N7 b),Sl.sh (N7 g),Sl.sh (.list (D6 (U0 m b))),Sl.sh (fdD (fd.map k3)),Sl.sh (.list (numL T)),Sl.ow (numL (T.foldl ndP [])),z10],?_,?_⟩
 ·array_mem_dec
  refine⟨fun r ρ=>∃(R acc:List Nat) (z10:Sl),r=numL R/\ρ=[Sl.sh (E8 m ws),Sl.sh (.int S),Sl.sh (.list (sp.map G1)),Sl.sh (.tuple [N7 b,N7 g]),Sl.sh (N7 b),Sl.sh (N7 g),Sl.sh (.list (D6 (U0 m b))),Sl.sh (fdD (fd.map k3)),Sl.sh (.list (numL T)),Sl.ow (numL acc),z10]/\R.foldl ndP acc=T.foldl ndP []/\acc.length + R.length<=900,⟨T,[],_,rfl,rfl,rfl,by rw[c5];omega⟩,?_,?_⟩
  ·rintro x r ρ ⟨R,acc,z10,h1,rfl,hR,hl2⟩
   cases R with
   | nil=>cases h1
   | cons k R=>
    cases (show x::r=PyData.int ((k:Nat):Int)::numL R from h1)
    rw[F3] at hl2
    rw[B45] at hR
    sizeOf_list_dec
    unfold A9i
    left
    refine⟨⟨rfl,rfl,by rw[W1];omega⟩,?_⟩
    rw[show numL acc=acc.map fun n=>PyData.int ((n:Nat):Int) from rfl]
    refine o9 (f:=fun n=>.bool (!Q5 n k)) (fun n hn Q' q'=>?_) ?_
    ·left
     refine⟨rfl,rfl,N1 _ _,?_⟩
     rw[A53,P3,A7u,show decide (n=n &&&k)=Q5 n k from decide_eq_decide.mpr ⟨fun z=>z.symm,fun z=>z.symm⟩]
     exact q'
    rw[Q1]
    try unfold gBs
    left
    rw[A7w]
    left
    rw[B4t,D12]
    cases e2:acc.any (fun n=>Q5 n k) with
    | true=>
     rw[show ndP acc k=acc from if_pos e2] at hR
     exact M4 ⟨R,acc,_,rfl,rfl,hR,by omega⟩
    | false=>
     rw[show ndP acc k=acc++[k] from if_neg (by rw[e2];exact G6)] at hR
     refine L5 ?_
     left
     refine⟨by rw[C7];omega,R,acc++[k],Sl.sh (.int ((k:Nat):Int)),rfl,?_,hR,by rw[F5,A07];omega⟩
     rw[B4u]
     rfl
  ·rintro ρ ⟨R,acc,z10,h1,rfl,hR,hl2⟩
   cases R with
   | cons k R=>cases h1
   | nil=>
    have hR:acc=T.foldl ndP []:=hR
    subst hR
    exact⟨_,rfl⟩
 rintro ρ ⟨z10,rfl⟩
 try dsimp only
 refine go ?_;left
 exact hq
end
theorem B4v {H H':Hp} (k:Kq none H H'):Same H H':=fun b o e=>k b o e fun q hq=>nomatch hq
abbrev TT0:Addr->Prop:=fun _=>True
theorem B0d {ms:List Md} {sp:DSp} {vs:List V} {ds:List PyData} {H:Hp} {Q:VK} {E:XK} (Qd:PyData->Prop) (ar:V1 TT0 none H ms vs ds) (h:sp ds Qd) (k:∀d v H',Qd d->ThV TT0 H' v d->Same H H'->Q v H'):spD ms sp vs H Q E:=
 ⟨TT0,none,ds,Qd,⟨fun _ _=>trivial,fun _ _ _=>trivial⟩,fun q hq=>(nomatch hq),fun q hq=>(nomatch hq),ar,h,fun d v H' a b c _=>k d v H' a b (B4v c)⟩
theorem _root_.L2.Same.early {H H':Hp} (s:Same H H') {b:Addr} (h:H' b=none):H b=none:=by
 cases z:H b with
 | none=>rfl
 | some o=>rw[s _ _ z] at h;cases h
theorem D14 {ms:List Md} {sp:p6} {vs:List V} {ds:List PyData} {H:Hp} {Q:VK} {E:XK} (Qd:Sl->Prop) (ar:V1 TT0 none H ms vs ds) (h:sp ds Qd) (k:∀d v H',Qd d->B82 TT0 H H' v d->Same H H'->Q v H'):A7i ms sp vs H Q E:=
 ⟨TT0,none,ds,Qd,⟨fun _ _=>trivial,fun _ _ _=>trivial⟩,fun q hq=>(nomatch hq),fun q hq=>(nomatch hq),ar,h,fun d v H' a b c _=>k d v H' a b (B4v c)⟩
theorem _root_.L2.Same.upd {H:Hp} {p:Addr} {o:HO} (h:H p=none):Same H (upd H p o):=fun b o' e=>by rw[B6 (W5 e h)];exact e
theorem _root_.L2.Same.tr {H H1 H2:Hp} (a:Same H H1) (b:Same H1 H2):Same H H2:=fun c o e=>b _ _ (a _ _ e)
theorem ThV.keep {F:Addr->Prop} {H H':Hp} {v:V} {d:PyData} (t:ThV F H v d) (s:Same H H'):ThV F H' v d:=t.mv fun b o z e=>⟨z,s _ _ e⟩
theorem A6.keep {F:Addr->Prop} {H H':Hp} {v:List V} {d:List PyData} (t:A6 F H v d) (s:Same H H'):A6 F H' v d:=t.mv fun b o z e=>⟨z,s _ _ e⟩
theorem ThV.any {F:Addr->Prop} {H:Hp} {v:V} {d:PyData} (t:ThV F H v d):ThV TT0 H v d:=t.mv fun b o z e=>⟨trivial,e⟩
section
variable {P:Program} {w:World} {K:A7} {mg:Str->Option Value} {base:Heap}
inductive B4w:List Md->Prop
 | nil:B4w []
 | cons {ms}:B4w ms->B4w (.sh::ms)
end
theorem B4x {F:Addr->Prop} {H:Hp}:∀{vs:List V} {ds:List PyData} {i:Nat} {x:V},A6 F H vs ds->vs[i]?=some x->∃d,ds[i]?=some d/\ThV F H x d
 | _,_,_,_,.nil,e=>nomatch e
 | _,_,0,_,.cons x _,e=>by cases e;exact⟨_,rfl,x⟩
 | _,_,i + 1,_,.cons _ t,e=>B4x (i:=i) t e
section
open PySem.Spec PyProof.Rows
variable {X:Cx}
end
section
variable {X:Cx}
theorem A58 (C:DC) {st:Stmt} {d:DS} (h:PS X st (sOf C d)):PS X st (sOf C d):=h
theorem D15 {sts:List Stmt} {t:DC->TS} (h:∀C,PSs X sts (t C)):PSs X sts (fun D σ H=>∃C,t C D σ H):=fun pins s σ H D I zz2=>zz2.elim fun C q=>h C pins s σ H D I q
end
theorem A59 {C:DC} {d:DS} {u:TS} {ρ:List Sl} {σ:L2.St} {H:Hp} {D:l4} (r:Rel C ρ σ [] H) (M:List Sl->Prop) (ht:d { nx:=M,rt:=fun _=>False } ρ) (hu:∀ρ' σ' H',Rel C ρ' σ' [] H'->M ρ'->u D σ' H'):B0x (sOf C d) u D σ H:=
 ⟨ρ,[],{ nx:=M,rt:=fun _=>False },r,ht,⟨fun ρ' σ' H' r' m=>hu ρ' σ' H' r' m,fun _ _ _ _ _ _ h=>h.elim,fun _ _ _ _ h=>h.elim,fun _ _ _ _ h=>h.elim,fun _ _ _ _ _ _ _ _ h=>h.elim⟩⟩
open Classical in
theorem D16 {H:Hp} {hd hl:Addr} {v0:V} {k:Nat} (d:Hd H hd hl):Rel ⟨fun b=>b≠hd,some (hd,hl),H⟩ (.no::.hd::D9 k .no) (some v0::some (.ref hd)::D9 k none) [] H:=by
 refine⟨fun b=>if b=hd then 1 else 0,fun b hb=>?_,fun b hb=>?_,fun q hq=>?_,fun i s e=>?_,fun p hp=>(nomatch hp),Kq.refl,fun q hq=>?_,fun q hq=>?_,⟨fun b hb=>?_,fun b xs hb=>?_⟩,?_⟩
 ·obtain⟨o,e⟩:=d.at1
  exact if_neg fun z=>by rw[z,e] at hb;cases hb
 ·intro z
  have hb':(if b=hd then 1 else 0)=0:=hb
  rw[if_pos z] at hb'
  cases hb'
 ·cases hq
  exact if_pos rfl
 ·match i with
  | 0=>cases e;trivial
  | 1=>cases e;exact⟨(hd,hl),rfl,rfl⟩
  | i + 2=>
   have e':(D9 k Sl.no)[i]?=some s:=e
   rw[B43] at e'
   split at e'
   ·cases e';trivial
   ·cases e'
 ·cases hq;exact d
 ·cases hq;exact d
 ·intro z
  obtain⟨o,e⟩:=d.at1
  rw[z] at hb
  have hb':H hd=none:=hb
  rw[e] at hb';cases hb'
 ·intro z
  obtain⟨_,_,_,_,_,_,_,_,e⟩:=id d
  rw[z] at hb
  have hb':H hd=some (.tup xs):=hb
  rw[e] at hb';cases hb'
 ·simp
theorem D17 {H:Hp} {hd hl:Addr} {v0:V} {k:Nat} {d:DS} {u:DC->TS} {D:l4} (dd:Hd H hd hl) (M:List Sl->Prop) (ht:d { nx:=M,rt:=fun _=>False } (.no::.hd::D9 k .no))
  (hu:∀C ρ' σ' H',C=⟨fun b=>b≠hd,some (hd,hl),H⟩->Rel C ρ' σ' [] H'->M ρ'->u C D σ' H'):∃C,B0x (sOf C d) (u C) D (some v0::some (.ref hd)::D9 k none) H:=
 ⟨_,A59 (D16 dd) M ht fun ρ' σ' H' r m=>hu _ ρ' σ' H' rfl r m⟩
def vn (n:List Nat):List V:=n.map fun k=>V.int ((k:Nat):Int)
theorem A7x {F:Addr->Prop} {H:Hp}:∀n:List Nat,A6 F H (vn n) (numL n)
 | []=>.nil
 | _::n=>.cons (.int _) (A7x n)
theorem B4y {F:Addr->Prop} {H:Hp}:∀{n:List Nat} {us:List V},A6 F H us (numL n)->us=vn n
 | [],_,h=>by cases h;rfl
 | k::n,_,h=>by
  cases h with
  | cons x t=>cases x;rw[B4y t];rfl
theorem B4z {α β:Type} {R:α->β->Prop}:∀{as:List α} {bs:List β} {a:α} {b:β},O5 R as bs->R a b->O5 R (as++[a]) (bs++[b])
 | _,_,_,_,.nil,r=>.cons r .nil
 | _,_,_,_,.cons x t,r=>.cons x (B4z t r)
theorem A7y {α β:Type} {R S:α->β->Prop} (f:∀a b,R a b->S a b):∀{as:List α} {bs:List β},O5 R as bs->O5 S as bs
 | _,_,.nil=>.nil
 | _,_,.cons x t=>.cons (f _ _ x) (A7y f t)
def f7 (H0 H:Hp) (a:Addr) (n:List Nat):Prop:=H0 a=none/\H a=some (.lst (vn n))
theorem B0e {F:Addr->Prop} {H0 H:Hp} (hF:∀a,H0 a=none->F a):∀{as:List Addr} {nss:List (List Nat)},O5 (f7 H0 H) as nss->A6 F H (as.map V.ref) (E6 nss)
 | _,_,.nil=>.nil
 | _,_,.cons x t=>.cons (.lst (hF _ x.1) x.2 (A7x _)) (B0e hF t)
def ShD (nss:List (List Nat)) (H H':Hp) (x:Str) (xs:List V):Prop:=(fsF nss 0=none/\x = "not" /\∃as:List Addr,xs=as.map V.ref/\as.Nodup/\O5 (f7 H H') as nss)\/∃r,fsF nss 0=some r/\x = "all" /\xs=vn r
def D18:Sp:=fun vs H Q _=>∃(m:Nat) (ws:List Wy) (st:Int) (sp:List Sp2) (wk:List (Sp2×Sp2)),A6 TT0 H vs [E8 m ws,.int st,.list (sp.map G1),.list (wk.map wkD)]/\F9 m ws/\0<=st/\st<=1000000000000000000000/\W2 m sp/\(∀x∈wk,A54 m st x)/\wk.length<=3/\∀nss,O5 (B4r m ws st sp) wk nss->∀(t l:Addr) (x:Str) (xs:List V) (H':Hp),Same H H'->H' t=some (.tup [.str x,.ref l])->H' l=some (.lst xs)->ShD nss H H' x xs->Q (.ref t) H'
section
variable {P:Program} {w:World} {K:A7} {mg:Str->Option Value} {base:Heap}
theorem D19 (T:Txt K mg):C9 P w K mg base CX0 11 T.f_shared.a T.f_shared.d ["land", "store", "springs", "walkers"] D18:=by
 have G_needs_of:=@D1p P w K mg base T
 have b_needs_of:=T.f_needs_of.b
 have G_first_shares:=@D1u P w K mg base T
 have b_first_shares:=T.f_first_shares.b
 refine T.f_shared.F.ok B31 (fun vs H Q E h=>?_) (fun cdv A outer s H vs Q E hr h=>?_)
 ·obtain⟨m,ws,st,sp,wk,t,_⟩:=h
  rw[t.len];rfl
 ·obtain⟨m,ws,st,sp,wk,tv,ok,s0,s1,so,hw,hl3,told⟩:=h
  cases tv with
  | @cons vl _ _ _ tl tv=>
  cases tv with
  | @cons vst _ _ _ tst tv=>
  cases tv with
  | @cons vsp _ _ _ tsp tv=>
  cases tv with
  | @cons vw _ _ _ tw tv=>
  cases tv
  cases tst
  obtain⟨aw,uw,rfl,_,ew,tuw⟩:=n6 tw
  have luw:uw.length=wk.length:=by rw[tuw.len,C7]
  refine⟨_,(G4 (A6x (i:=4) B31.nd rfl (A8 rfl) (O1.new (N:=["land", "store", "springs", "walkers", "needs", "sets"]) (osc:=C2 A9w) (by decide +kernel)) rfl (A6o (pv 3)) (fun _=>A8x) (fun _=>(B7 G_needs_of (hr.mono (by decide)) rfl T.f_needs_of.m T.f_needs_of.F.kp b_needs_of .nil B8 (B3 (pv 0) (B3 (pv 1) (B3 (pv 2) (B3 (pv 6) C6 A0) A0) A0) A0) (he:=A0) (hpl:=(A4 A0 (A4 A0 (A4 A0 A3)))))))
   (G4 (C0 (i:=5) B31.nd rfl (A8 rfl) (B7 G_first_shares (hr.mono (by decide)) rfl T.f_first_shares.m T.f_first_shares.F.kp b_first_shares .nil B8 (B3 (pv 4) (B3 C8 C6 E5) A0) (he:=A0) (hpl:=(A4 E5 A3))))
   (G4 (A0a (l5 (W8 l6 (pv 5) B5n (D0 _))
   (S3 (Y6 (A6s (B3 A8f (B3 (pv 4) C6 A0) E5))))
   w6))
   (S3 (Y6 (A6s (B3 A8f (B3 (pv 5) C6 A0) E5))))))),?_⟩
  try dsimp only[i9,Cx.nox]
  refine⟨_,rfl,aw,rfl,⟨uw,SqL.of ew⟩,?_⟩
  refine B1j (xs:=uw) (fun i ys Hn=>Same H Hn/\∃as nss,O5 (B4r m ws st sp) (wk.take i) nss/\ys=as.map V.ref/\as.Nodup/\O5 (f7 H Hn) as nss) ?_ ⟨fun _ _ e=>e,[],[],.nil,rfl,A74,.nil⟩ ?_ ?_ ?_
  ·rw[luw,sizeLine_eq];omega
  ·rintro i ys Hn hi ⟨h1,as,nss,h2,rfl,h3,h4⟩
   refine⟨?_,SqL.of (h1 _ _ ew)⟩
   have e1:=A55 h2
   have e2:=A55 h4
   rw[C7,<-e2,e1,T3]
   omega
  ·rintro i x ys Hn hx ⟨h1,as,nss,h2,rfl,h3,h4⟩ ca
   obtain⟨d,hd,tx⟩:=B4x tuw hx
   rw[O7] at hd
   obtain⟨z,hz,rfl⟩:=B5k.mp hd
   obtain⟨w1,w2,w3,w4⟩:=hw z (Q8 hz)
   unfold A8w
   refine L5 ⟨_,rfl,_,rfl,_,rfl,_,rfl,D14 (E:=E0) (fun s=>∃ts,u8 m ws st sp (U0 m z.1) ts/\s=.ow (numL (U1 z.2 0 [] ts))) (.cons (tl.keep h1) (.cons (.int _) (.cons (tsp.keep h1) (.cons (tx.keep h1) .nil)))) ⟨m,ws,st,sp,z.1,z.2,rfl,ok,s0,s1,so,w1,w2,w3,w4,fun ts hT=>⟨ts,hT,rfl⟩⟩ fun s v H' hs nr s'=>?_⟩
   obtain⟨ts,hT,rfl⟩:=hs
   obtain⟨a,vs,rfl,an,ea,tvs⟩:=nr
   rw[B4y tvs] at ea
   refine⟨h1.tr s',as++[a],nss++[U1 z.2 0 [] ts],?_,?_,?_,?_⟩
   ·rw[A72,hz]
    exact B4z h2 ⟨ts,hT,rfl⟩
   ·rw[P6];rfl
   ·refine List.nodup_append.mpr ⟨h3,A3e.mpr ⟨(fun z=>nomatch z),A74⟩,fun b hb c hc=>?_⟩
    rw[L9.mp hc]
    intro e
    subst e
    have:∀{as:List Addr} {nss:List (List Nat)},O5 (f7 H Hn) as nss->b∈as->∃n,Hn b=some (.lst (vn n)):=by
     intro as nss h
     induction h with
     | nil=>exact fun z=>nomatch z
     | cons x _ ih=>
      intro hb
      rcases N2.mp hb with rfl | hb
      ·exact⟨_,x.2⟩
      ·exact ih hb
    obtain⟨n,en⟩:=this h4 hb
    rw[en] at an;cases an
   ·exact B4z (A7y (fun b n hb=>⟨hb.1,s' _ _ hb.2⟩) h4) ⟨h1.early an,ea⟩
  rintro ys Hn ⟨h1,as,nss,hR,rfl,nd,h4⟩ l hl
  rw[luw,List.take_length] at hR
  have nl:=A55 hR
  obtain⟨H2,hH2⟩:∃H2,H2=upd Hn l (.lst (as.map V.ref)):=⟨_,rfl⟩
  rw[<-hH2]
  have s2:Same Hn H2:=by rw[hH2];exact Same.upd hl
  have el2:H2 l=some (.lst (as.map V.ref)):=by rw[hH2];exact E7
  have sH2:Same H H2:=h1.tr s2
  have h4':O5 (f7 H H2) as nss:=A7y (fun b n hb=>⟨hb.1,s2 _ _ hb.2⟩) h4
  have tn:ThV TT0 H2 (.ref l) (.list (E6 nss)):=.lst trivial el2 (B0e (fun _ _=>trivial) h4')
  refine⟨_,rfl,B0d (E:=E0) (fun d=>d=rsO (fsF nss 0)) (.cons tn (.cons (.int _) .nil)) ⟨nss,0,rfl,by omega,fun n hn=>by have:=B4s so hR n hn;omega,rfl⟩ fun d v H3 hd t3 s3=>?_⟩
  subst hd
  have told:=told nss hR
  cases ef:fsF nss 0 with
  | none=>
   rw[ef] at t3
   cases (show ThV TT0 H3 v .none from t3)
   refine⟨fun _ _=>False,⟨_,rfl,rfl,_,rfl,?_⟩,fun _ _ z=>z.elim⟩
   refine L5 ⟨_,rfl,by show 2<=sizeLine;decide,fun r hr=>?_⟩
   have s4:Same H2 (upd H3 r (.tup [.str "not",.ref l])):=s3.tr (Same.upd hr)
   exact told r l _ _ _ (sH2.tr s4) E7 (s4 _ _ el2) (.inl ⟨ef,rfl,as,rfl,nd,A7y (fun b n hb=>⟨hb.1,s4 _ _ hb.2⟩) h4'⟩)
  | some r=>
   rw[ef] at t3
   obtain⟨ar,ur,rfl,gr,er,tr⟩:=n6 (show ThV TT0 H3 v (.list (numL r)) from t3)
   rw[B4y tr] at er
   refine⟨fun σ' H'=>σ'=[some vl,some (.int st),some vsp,some (.ref aw),some (.ref l),some (.ref ar)]/\H'=H3,⟨_,rfl,rfl,_,rfl,?_⟩,?_⟩
   ·exact M4 ⟨rfl,rfl⟩
   rintro σ' H' ⟨rfl,rfl⟩
   refine⟨_,rfl,by show 2<=sizeLine;decide,fun p hp=>?_⟩
   exact told p ar _ _ _ ((sH2.tr s3).tr (Same.upd hp)) E7 (Same.upd hp _ _ er) (.inr ⟨r,ef,rfl,rfl⟩)
end
theorem C09 {P:PyData->Prop} {xs:List PyData} {u:Int} {Q:PyData->Prop} (h:∃d,atI xs u=some d/\P d) (k:∀d,P d->Q d):bnd (atI xs u) Q:=by
 obtain⟨d,e,p⟩:=h
 rw[e]
 exact k d p
def D2a:DSp:=fun ds Q=>∃(d:PyData) (m:Nat) (st:Int),ds=[d,.int (m:Nat),.int st]/\1<=m/\m<=12/\0<=st/\st<=100000000000000000000/\∀b g:Sp2,b.1 < m->g.1 < m->0<=b.2->b.2<=st->Q (.tuple [N7 b,N7 g])
def D2b:DSp:=fun ds Q=>∃ns:List Nat,ds=[.list (numL ns)]/\ns.length<=900/\Q (.bool true)
def D2c:DSp:=fun ds Q=>∃ns:List (List Nat),ds=[.list (E6 ns)]/\ns.length<=3/\(∀n∈ns,n.length<=6)/\Q (.list (E6 (asG ns [[]])))
theorem D2d {ls:List (List Nat)} {n:List Nat} (h:n.length<=6):(ls.flatMap (Q6 n)).length<=6 * ls.length:=by
 induction ls with
 | nil=>exact D2 _
 | cons a ls ih=>
  rw[List.flatMap_cons,F5,F3]
  have:=D1d n a
  omega
theorem D2e (a b:List (List Nat)):E6 (a++b)=E6 a++E6 b:=by unfold E6;rw[P6]
section
variable {P:Program} {w:World} {K:A7} {mg:Str->Option Value} {base:Heap}
theorem D2f (T:Txt K mg):C9 P w K mg base CX0 1 T.f_law_is_whole.a T.f_law_is_whole.d ["_law_thing"] (spD [.sh] B33):=by
 refine F2 T.f_law_is_whole.F C70 rfl (fun C cdv A outer s H E hr=>⟨_,(@B1 _ _ _ _ (@D7 _ _ _ _ _ (@A30 _ _ _ _ _ _ _ _ (A67 B7n (F8 A6z rfl T.n_isinstance A1n (B3 (pv 0) (B3 (A1d (v:=V.ty "int") rfl T.n_int A80 rfl) C6 A0) A0) (he:=A0) (hpl:=(A4 A0 A3)))) (A1u (B64 (A67 B7o (F8 A6z rfl T.n_isinstance A1n (B3 (pv 0) (B3 (A1d (v:=V.ty "bool") rfl T.n_bool B6w rfl) C6 A0) A0) (he:=A0) (hpl:=(A4 A0 A3))))))))),fun ds Q hl h=>?_⟩)
 obtain⟨d,rfl,q⟩:=h
 left
 unfold A5z at q
 cases d <;> exact q
theorem D2g (T:Txt K mg):C9 P w K mg base CX0 2 T.f_are_needs.a T.f_are_needs.d ["_law_thing"] (spD [.sh] D2b):=by
 have G_law_is_whole:=@D2f P w K mg base T
 have b_law_is_whole:=T.f_law_is_whole.b
 refine F2 T.f_are_needs.F C71 rfl (fun C cdv A outer s H E hr=>⟨_,(@B1 _ _ _ _ (@D7 _ _ _ _ _ (@A30 _ _ _ _ _ _ _ _ (A67 B7p (F8 A6z rfl T.n_isinstance A1n (B3 (pv 0) (B3 (A1d (v:=V.ty "list") rfl T.n_list j3 rfl) C6 A0) A0) (he:=A0) (hpl:=(A4 A0 A3)))) (@A1u _ _ _ _ _ _ (@S8 _ _ _ _ _ _ B1x (@F8 _ _ _ _ _ _ _ _ _ (A8z rfl) rfl T.n_all A81 (A5 (E1 (o8 rfl (j2 (O1.new (N:=["_law_thing"]) (osc:=C2 A9y) (by decide +kernel)) rfl (Z2 (pv 0)) (fun _=>A0i) (fun _=>(C5 (B7 G_law_is_whole (hr.mono (by decide)) rfl T.f_law_is_whole.m T.f_law_is_whole.F.kp b_law_is_whole .nil B8 (A2 (A1 (pv 1)) C4 A0) (he:=A0) (hpl:=A3))))))) C1 Z1) (by decide) (by decide) Z1 A3)))))),fun ds Q hl h=>?_⟩)
 obtain⟨ns,rfl,hn,q⟩:=h
 array_get_dec
 refine⟨⟨rfl,by rw[W1];omega⟩,?_⟩
 rw[show numL ns=ns.map fun n=>PyData.int ((n:Nat):Int) from rfl]
 refine o9 (f:=fun _=>.bool true) (fun n hn Q' q'=>?_) ?_
 ·left
  exact⟨_,rfl,q'⟩
 rw[Q1]
 try unfold gBs
 left
 rw[A7w (fun _=>true)]
 left
 rw[B4t,show (ns.all fun _=>true)=true from B47.mpr fun _ _=>rfl]
 exact q
theorem D2h (T:Txt K mg):C9 P w K mg base CX0 4 T.f_walker.a T.f_walker.d ["_law_hand_here", "_law_many", "_law_store"] (spD [.hd,.sh,.sh] D2a):=by
 have G_draw:=@A7n P w K mg base T
 have b_draw:=T.f_draw.b
 refine F2 T.f_walker.F A97 rfl (fun C cdv A outer s H E hr=>⟨_,(@D5 _ _ _ _ _ _ (E2 (C0 (i:=3) A97.nd rfl (A8 rfl) (S8 A2b (F8 (A1h rfl) rfl T.n_min A1m (A5 (A1 (pv 2)) (A5 (E9 A6r A87 B0 B0) C1 F7) A0) (he:=A0) (hpl:=(A4 F7 A3)))))) (@D5 _ _ _ _ _ _ (@E2 _ _ _ _ _ (@C0 _ _ 4 _ _ _ _ A97.nd rfl (A8 rfl) (@O3 _ _ _ _ _ _ (@A5 _ _ _ _ _ _ (C5 (B7 G_draw (hr.mono (by decide)) rfl T.f_draw.m T.f_draw.F.kp b_draw .nil B8 (K1 (pv 0) (A2 (A1 (pv 1)) C4 A0) A0) (he:=A0) (hpl:=(A4 A0 A3)))) (@A5 _ _ _ _ _ _ (@K0 _ _ _ _ _ _ _ (E1 (G5 (A5 B0 (A5 (C5 (B7 G_draw (hr.mono (by decide)) rfl T.f_draw.m T.f_draw.F.kp b_draw .nil B8 (K1 (pv 0) (A2 (E9 L6 P9 (A1 (pv 3)) B0) C4 F7) A0) (he:=A0) (hpl:=(A4 F7 A3)))) C1 F4) E5))) (C5 (B7 G_draw (hr.mono (by decide)) rfl T.f_draw.m T.f_draw.F.kp b_draw .nil B8 (K1 (pv 0) (A2 B0 C4 E5) A0) (he:=A0) (hpl:=(A4 E5 A3)))) (fun _ _=>rfl)) C1 B4) F4)) (by rfl) (by first | exact .inl rfl | exact .inr rfl | assumption))) (@D5 _ _ _ _ _ _ (@E2 _ _ _ _ _ (@C0 _ _ 5 _ _ _ _ A97.nd rfl (A8 rfl) (@O3 _ _ _ _ _ _ (@A5 _ _ _ _ _ _ (C5 (B7 G_draw (hr.mono (by decide)) rfl T.f_draw.m T.f_draw.F.kp b_draw .nil B8 (K1 (pv 0) (A2 (A1 (pv 1)) C4 A0) A0) (he:=A0) (hpl:=(A4 A0 A3)))) (@A5 _ _ _ _ _ _ (@K0 _ _ _ _ _ _ _ (@E1 _ _ _ _ (@G5 _ _ _ _ _ (@A5 _ _ _ _ _ _ (A1 (pv 3)) (@A5 _ _ _ _ _ _ (C5 (B7 G_draw (hr.mono (by decide)) rfl T.f_draw.m T.f_draw.F.kp b_draw .nil B8 (K1 (pv 0) (A2 (E9 L6 P9 (A1 (pv 3)) B0) C4 F7) A0) (he:=A0) (hpl:=(A4 F7 A3)))) (A5 (C5 (B7 G_draw (hr.mono (by decide)) rfl T.f_draw.m T.f_draw.F.kp b_draw .nil B8 (K1 (pv 0) (A2 (E9 L6 P9 (A1 (pv 3)) B0) C4 F7) A0) (he:=A0) (hpl:=(A4 F7 A3)))) C1 F4) F4) A0))) (C5 (B7 G_draw (hr.mono (by decide)) rfl T.f_draw.m T.f_draw.F.kp b_draw .nil B8 (K1 (pv 0) (A2 B0 C4 E5) A0) (he:=A0) (hpl:=(A4 E5 A3)))) (fun _ _=>rfl)) C1 B4) F4)) (by rfl) (by first | exact .inl rfl | exact .inr rfl | assumption))) (B1 (D7 (O3 (A5 (A1 (pv 4)) (A5 (A1 (pv 5)) C1 A0) A0))))))),fun ds Q hl h=>?_⟩)
 obtain⟨d,m,st,rfl,m1,m2,s0,s1,q⟩:=h
 left
 refine⟨⟨by decide,by decide,by decide⟩,?_⟩
 obtain⟨mo,hmo,mo0,mo1,mo2⟩:∃mo:Int,(if (10:Int) ^ (18:Int).toNat < st then (10:Int) ^ (18:Int).toNat else st)=mo/\0<=mo/\mo<=st/\mo<=1000000000000000000:=by
  have e:(10:Int) ^ (18:Int).toNat=1000000000000000000:=by decide
  rw[e]
  refine⟨_,rfl,?_,?_,?_⟩ <;> split <;> omega
 rw[hmo]
 refine go ?_;left
 refine⟨rfl,_,rfl,by omega,by omega,fun a a0 a1=>?_⟩
 obtain⟨a',rfl,ha⟩:=A51 a0 a1
 left
 refine⟨rfl,_,rfl,by omega,by omega,fun u u0 u1=>?_⟩
 left
 refine⟨by show 2<=1000;decide,rfl,2,rfl,by decide,by decide,fun v v0 v1=>?_⟩
 left
 refine C09 (P:=fun d=>∃x:Int,d=.int x/\0<=x/\x<=st) ?_ ?_
 ·rcases lt2 v0 v1 with rfl | rfl
  ·exact⟨_,rfl,_,rfl,by decide,by omega⟩
  ·exact⟨_,rfl,_,rfl,u0,by omega⟩
 rintro d ⟨x,rfl,x0,x1⟩
 left
 refine⟨by decide,?_⟩
 refine go ?_;left
 refine⟨rfl,_,rfl,by omega,by omega,fun c c0 c1=>?_⟩
 obtain⟨c',rfl,hc⟩:=A51 c0 c1
 left
 refine⟨rfl,_,rfl,by omega,by omega,fun u u0 u1=>?_⟩
 left
 refine⟨rfl,_,rfl,by omega,by omega,fun u' u0' u1'=>?_⟩
 left
 refine⟨by show 3<=1000;decide,rfl,3,rfl,by decide,by decide,fun v v0 v1=>?_⟩
 left
 refine C09 (P:=fun d=>∃y:Int,d=.int y) ?_ ?_
 ·have hv:v=0\/v=1\/v=2:=by omega
  rcases hv with rfl | rfl | rfl
  ·exact⟨_,rfl,_,rfl⟩
  ·exact⟨_,rfl,_,rfl⟩
  ·exact⟨_,rfl,_,rfl⟩
 rintro d ⟨y,rfl⟩
 left
 refine⟨by decide,?_⟩
 refine go ?_;left
 exact⟨by decide,q (a',x) (c',y) ha hc x0 x1⟩
theorem D2i (T:Txt K mg):C9 P w K mg base CX0 1 T.f_all_shares.a T.f_all_shares.d ["_law_needs_here"] (spD [.sh] D2c):=by
 refine F2 T.f_all_shares.F A3d rfl (fun C cdv A outer s H E hr=>⟨_,(@D5 _ _ _ _ _ _ (E2 (C0 (i:=1) A3d.nd rfl (A8 rfl) (E1 (G5 (A5 (E1 (G5 C1)) C1 B6y))))) (@D5 _ _ _ _ _ _ (@O4 _ _ _ _ _ _ (@O0 _ _ _ _ _ _ _ _ M0 rfl (Z2 (pv 0)) (R6 (J7 (i:=2) A3d.nd rfl (A8 rfl))) (@D5 _ _ _ _ _ _ (V2 (C0 (i:=3) A3d.nd rfl (A8 rfl) (G5 C1))) (@D5 _ _ _ _ _ _ (@O4 _ _ _ _ _ _ (@O0 _ _ _ _ _ _ _ _ M0 rfl (Z2 (pv 1)) (R6 (J7 (i:=4) A3d.nd rfl (A8 rfl))) (@B1 _ _ _ _ (@O4 _ _ _ _ _ _ (@O0 _ _ _ _ _ _ _ _ M0 rfl (Z2 (pv 2)) (R6 (J7 (i:=5) A3d.nd rfl (g4 rfl))) (@B1 _ _ _ _ (@K6 _ _ _ _ _ _ _ _ _ (@A0c _ _ _ _ (@S8 _ _ _ _ _ _ B1x (@F8 _ _ _ _ _ _ _ _ _ (A8z rfl) rfl T.n_all A81 (A5 (E1 (o8 rfl (j2 (O1.new (N:=["_law_needs_here", "_law_lists", "_law_some", "_law_more", "_law_one", "_law_need"]) (osc:=C2 A9z) (by decide +kernel)) rfl (Z2 (pv 4)) (fun _=>A0i) (fun _=>(c8 (N3 (K3 hr)) N5 (E9 x6 A0r (A1 (pv 5)) (A1 (pv 6))) B0 (D0 _)))))) C1 Z1) (by decide) (by decide) Z1 A3)) (by intro _;rfl)) (B1 (d3 (S4 (T6 U6 Y4 Y5 V8 (pv 3) (B3 (E1 (n4 (A1 (pv 4)) (E1 (G5 (A5 (A1 (pv 5)) C1 A0))))) C6 F7))))) K5)) (by intro _;rfl)))) (by intro _;rfl))) (B1 (E2 (C0 (i:=1) A3d.nd rfl (A8 rfl) (A1 (pv 3))))))) (by intro _;rfl))) (B1 (D7 (A1 (pv 1)))))),fun ds Q hl h=>?_⟩)
 obtain⟨ns,rfl,hn3,h6,q⟩:=h
 left
 refine⟨by decide,by decide,?_⟩
 refine go ?_
 array_get_dec
 refine⟨fun r ρ=>∃(R ls:List (List Nat)) (z2 z3 z4 z5:Sl),r=E6 R/\ρ=[Sl.sh (.list (E6 ns)),Sl.sh (.list (E6 ls)),z2,z3,z4,z5]/\asG R ls=asG ns [[]]/\(∀n∈R,n.length<=6)/\ls.length * 6 ^ R.length<=216/\(∀o∈ls,o.length + R.length<=3),⟨ns,[[]],_,_,_,_,rfl,rfl,rfl,h6,?_,fun o ho=>?_⟩,?_,?_⟩
 ·have h:ns.length=0\/ns.length=1\/ns.length=2\/ns.length=3:=by omega
  rcases h with h | h | h | h <;> rw[h] <;> decide
 ·rw[L9.mp ho];show 0 + ns.length<=3;omega
 ·rintro x r ρ ⟨R,ls,z2,z3,z4,z5,h1,rfl,hA,hR6,hB,hL⟩
  cases R with
  | nil=>cases h1
  | cons n R=>
   cases (show x::r=PyData.list (numL n)::E6 R from h1)
   have hn6:=hR6 n B2
   have hA:asG R (ls.flatMap (Q6 n))=asG ns [[]]:=hA
   rw[F3,Nat.pow_succ,<-Nat.mul_assoc,Nat.mul_right_comm] at hB
   have hfl:=D2d (ls:=ls) hn6
   have hlen:(ls.flatMap (Q6 n)).length * 6 ^ R.length<=216:=V5 (Nat.mul_le_mul_right _ hfl) (by rw[Nat.mul_comm 6];exact hB)
   have hpow:1<=6 ^ R.length:=C1r (by simp)
   have htot:(ls.flatMap (Q6 n)).length<=216:=V5 (Nat.le_mul_of_pos_right _ hpow) hlen
   sizeOf_list_dec
   refine⟨by decide,?_⟩
   refine go ?_
   array_get_dec
   refine⟨fun r ρ=>∃(L mr:List (List Nat)) (z4 z5:Sl),r=E6 L/\ρ=[Sl.sh (.list (E6 ns)),Sl.sh (.list (E6 ls)),Sl.sh (.list (numL n)),Sl.ow (E6 mr),z4,z5]/\mr++L.flatMap (Q6 n)=ls.flatMap (Q6 n)/\∀o∈L,o∈ls,⟨ls,[],_,_,rfl,rfl,rfl,fun o h=>h⟩,?_,?_⟩
   ·rintro x r ρ ⟨L,mr,z4,z5,h1,rfl,hM,hLs⟩
    cases L with
    | nil=>cases h1
    | cons one L=>
     cases (show x::r=PyData.list (numL one)::E6 L from h1)
     have ho3:=hL one (hLs one B2)
     rw[List.flatMap_cons,<-L1] at hM
     sizeOf_list_dec
     array_get_dec
     refine⟨fun r ρ=>∃(N:List Nat) (mr':List (List Nat)) (z5:Sl),r=numL N/\ρ=[Sl.sh (.list (E6 ns)),Sl.sh (.list (E6 ls)),Sl.sh (.list (numL n)),Sl.ow (E6 mr'),Sl.sh (.list (numL one)),z5]/\mr'++Q6 N one++L.flatMap (Q6 n)=ls.flatMap (Q6 n),⟨n,mr,_,rfl,rfl,hM⟩,?_,?_⟩
     ·rintro x r ρ ⟨N,mr',z5,h1,rfl,hM'⟩
      cases N with
      | nil=>cases h1
      | cons k N=>
       cases (show x::r=PyData.int ((k:Nat):Int)::numL N from h1)
       have hml:mr'.length<=216:=by
        have:=congrArg A6b hM'
        rw[F5,F5] at this
        omega
       sizeOf_list_dec
       refine⟨⟨rfl,by rw[W1];omega⟩,?_⟩
       rw[show numL one=one.map fun n=>PyData.int ((n:Nat):Int) from rfl]
       refine o9 (f:=fun kp=>.bool (djN k kp)) (fun kp hkp Q' q'=>?_) ?_
       ·left
        refine⟨rfl,rfl,N1 _ _,?_⟩
        rw[A53,P3,B0c]
        exact q'
       rw[Q1]
       try unfold gBs
       left
       rw[A7w (fun kp=>djN k kp)]
       left
       rw[B4t]
       unfold Q6 at hM'
       rw[List.filter_cons] at hM'
       cases ek:one.all (fun kp=>djN k kp) with
       | false=>
        rw[ek,if_neg G6] at hM'
        exact M4 ⟨N,mr',_,rfl,rfl,hM'⟩
       | true=>
        rw[ek,if_pos rfl,U4] at hM'
        refine L5 ?_
        left
        refine⟨by decide,by rw[C7];show one.length + 1<=100000;omega,by unfold E6;rw[C7];omega,N,mr'++[one++[k]],Sl.sh (.int ((k:Nat):Int)),rfl,?_,?_⟩
        ·rw[D2e]
         show _=[_,_,_,Sl.ow (E6 mr'++[PyData.list (numL (one++[k]))]),_,_]
         rw[B4u]
         rfl
        ·rw[L1 mr']
         exact hM'
     ·rintro ρ ⟨N,mr',z5,h1,rfl,hM'⟩
      cases N with
      | cons k N=>cases h1
      | nil=>
       have hM':mr'++[]++L.flatMap (Q6 n)=ls.flatMap (Q6 n):=hM'
       rw[Q0] at hM'
       exact⟨L,mr',_,_,rfl,rfl,hM',fun o h=>hLs o (A9 _ h)⟩
   ·rintro ρ ⟨L,mr,z4,z5,h1,rfl,hM,hLs⟩
    cases L with
    | cons one L=>cases h1
    | nil=>
     have hM:mr++[]=ls.flatMap (Q6 n):=hM
     rw[Q0] at hM
     rw[<-hM] at hA hlen
     refine go ?_;left
     refine⟨R,mr,_,_,_,_,rfl,rfl,hA,fun n h=>hR6 n (A9 _ h),hlen,fun o ho=>?_⟩
     rw[hM] at ho
     obtain⟨one,h1,h2⟩:=B0r.mp ho
     have h3:=hL one h1
     unfold Q6 at h2
     obtain⟨s,_,rfl⟩:=O9.mp h2
     rw[F5,A07]
     rw[F3] at h3
     omega
 ·rintro ρ ⟨R,ls,z2,z3,z4,z5,h1,rfl,hA,hR6,hB,hL⟩
  cases R with
  | cons n R=>cases h1
  | nil=>
   have hA:ls=asG ns [[]]:=hA
   rw[<-hA] at q
   refine go ?_;left
   exact q
end
def B0f (K:A7):Sp:=fun vs H Q _=>∃(a:Addr) (ns:List Int),vs=[.ref a]/\SqL K H a (ns.map V.int)/\ns.length<=63/\∀H',Q (.bl true) H'
theorem A7z {α:Type} {o:Option α} {d:α} {f:α->Prop} (h:o=some d) (q:f d):bnd o f:=by rw[h];exact q
theorem D1.spr (q:Sp2):D1 1 (G1 q):=D1.tup (D1.two (.int _) (.int _))
theorem D1.sprs (sp:List Sp2):D1 2 (.list (sp.map G1)):=D1.lst fun d hd=>by
 obtain⟨q,_,rfl⟩:=O9.mp hd
 exact .spr q
theorem D1.wks (wk:List (Sp2×Sp2)):D1 3 (.list (wk.map wkD)):=D1.lst fun d hd=>by
 obtain⟨q,_,rfl⟩:=O9.mp hd
 exact D1.tup (D1.two (D1.tup (D1.two (.int _) (.int _))) (D1.tup (D1.two (.int _) (.int _))))
theorem D1.numL (ns:List Nat):D1 1 (.list (numL ns)):=D1.lst fun d hd=>by
 obtain⟨n,_,rfl⟩:=O9.mp hd
 exact⟨rfl,L4 _⟩
theorem D1.nss (ns:List (List Nat)):D1 2 (.list (E6 ns)):=D1.lst fun d hd=>by
 unfold E6 at hd
 obtain⟨n,_,rfl⟩:=O9.mp hd
 exact .numL n
theorem D2j {F:Addr->Prop} {ms:List Md} {sp:DSp} {vs:List V} {ds:List PyData} {H:Hp} {Q:VK} {E:XK} (hF:(∀b,H b=none->F b)/\∀b xs,H b=some (.tup xs)->F b) (Qd:PyData->Prop) (ar:V1 F none H ms vs ds) (h:sp ds Qd) (k:∀d v H',Qd d->ThV F H' v d->Same H H'->Q v H'):spD ms sp vs H Q E:=
 ⟨F,none,ds,Qd,hF,fun q hq=>(nomatch hq),fun q hq=>(nomatch hq),ar,h,fun d v H' a b c _=>k d v H' a b (B4v c)⟩
def ShE (nss:List (List Nat)) (H H':Hp) (x:Str) (xs:List V) (as:List Addr):Prop:=(fsF nss 0=none/\x = "not" /\xs=as.map V.ref/\as.Nodup/\O5 (f7 H H') as nss)\/(as=[]/\∃r,fsF nss 0=some r/\x = "all" /\xs=vn r)
theorem C1a {H H':Hp} {b:Addr}:∀{as:List Addr} {nss:List (List Nat)},O5 (f7 H H') as nss->b∈as->∃n,f7 H H' b n
 | _,_,.nil,z=>nomatch z
 | _,_,.cons x t,hb=>by
  rcases N2.mp hb with rfl | hb
  ·exact⟨_,x⟩
  ·exact C1a t hb
theorem D2k {nss:List (List Nat)} {H H':Hp} {x:Str} {xs:List V} (h:ShD nss H H' x xs):∃as,ShE nss H H' x xs as/\∀b∈as,∃n,f7 H H' b n:=by
 rcases h with ⟨h1,h2,as,h3,h4,h5⟩ | ⟨r,h1,h2,h3⟩
 ·exact⟨as,.inl ⟨h1,h2,h3,h4,h5⟩,fun b hb=>C1a h5 hb⟩
 ·exact⟨[],.inr ⟨rfl,r,h1,h2,h3⟩,fun b hb=>nomatch hb⟩
theorem C1b {α β:Type} {R S:α->β->Prop}:∀{as:List α} {bs:List β},(∀a∈as,∀b,R a b->S a b)->O5 R as bs->O5 S as bs
 | _,_,_,.nil=>.nil
 | _,_,f,.cons x t=>.cons (f _ B2 _ x) (C1b (fun a ha=>f a (A9 _ ha)) t)
theorem C1c {x:V} {xs:List V}:atI (x::xs) 0=some x:=by
 show atI (x::xs) ((0:Nat):Int)=some x
 exact j0 rfl
theorem C1d {x:V} {xs:List V}:c6 (x::xs) (some 1) none=xs:=by
 unfold c6
 rw[show (some (1:Int))=some (((1:Nat):Int)) from rfl,HT.sIx_nat,HT.sIx_none,F3,A08 (by omega),List.drop_succ_cons,A3m,v5 (by omega)]
theorem D2l {α:Type} {xs:List α} (h:xs.length=12):∃a b c d e f g i j k l m,xs=[a,b,c,d,e,f,g,i,j,k,l,m]:=by
 match xs,h with
 | [a,b,c,d,e,f,g,i,j,k,l,m],_=>exact⟨a,b,c,d,e,f,g,i,j,k,l,m,rfl⟩
theorem B40 {α β:Type} {R:α->β->Prop}:∀{as:List α} {bs:List β} {i:Nat} {a:α},O5 R as bs->as[i]?=some a->∃b,bs[i]?=some b/\R a b
 | _,_,_,_,.nil,e=>nomatch e
 | _,_,0,_,.cons x _,e=>by cases e;exact⟨_,rfl,x⟩
 | _,_,i + 1,_,.cons _ t,e=>B40 (i:=i) t e
section
variable {P:Program} {w:World} {K:A7} {mg:Str->Option Value} {base:Heap}
theorem D2m (T:Txt K mg):C9 P w K mg base CX0 14 T.f_law.a T.f_law.d ["_law_script"] (B0f K):=by
 have G_hand:=@C72 P w K mg base T
 have b_hand:=T.f_hand.b
 have G_shared:=@D19 P w K mg base T
 have b_shared:=T.f_shared.b
 have G_draw:=@A7n P w K mg base T
 have b_draw:=T.f_draw.b
 have G_land:=@C92 P w K mg base T
 have b_land:=T.f_land.b
 have G_springs:=@D0j P w K mg base T
 have b_springs:=T.f_springs.b
 have G_walker:=@D2h P w K mg base T
 have b_walker:=T.f_walker.b
 have G_needs:=@D13 P w K mg base T
 have b_needs:=T.f_needs.b
 have G_all_shares:=@D2i P w K mg base T
 have b_all_shares:=T.f_all_shares.b
 have G_are_needs:=@D2g P w K mg base T
 have b_are_needs:=T.f_are_needs.b
 refine T.f_law.F.ok b5 (fun vs H Q E h=>?_) (fun cdv A outer s H vs Q E hr h=>?_)
 ·obtain⟨a,ns,rfl,_⟩:=h
  rfl
 ·obtain⟨a,ns,rfl,hS,hlen,k⟩:=h
  refine⟨_,(@G4 _ _ _ _ _ (C0 (i:=1) b5.nd rfl (A8 rfl) (B7 G_hand (hr.mono (by decide)) rfl T.f_hand.m T.f_hand.F.kp b_hand .nil B8 (B3 (pv 0) C6 A0) (he:=A0) (hpl:=A3))) (D15 (fun C=>(@G4 _ _ _ _ _ (A58 C (E2 (C0 (i:=2) b5.nd rfl (g4 rfl) (C5 (B7 G_draw (hr.mono (by decide)) rfl T.f_draw.m T.f_draw.F.kp b_draw .nil B8 (K1 (pv 1) (A2 B0 C4 E5) A0) (he:=A0) (hpl:=(A4 E5 A3))))))) (@G4 _ _ _ _ _ (A58 C (@E2 _ _ _ _ _ (@C0 _ _ 3 _ _ _ _ b5.nd rfl (g4 rfl) (@C5 _ _ _ _ _ _ _ (@B7 _ _ _ _ _ _ _ _ _ _ _ _ _ _ _ _ G_land (hr.mono (by decide)) rfl T.f_land.m T.f_land.F.kp b_land .nil B8 (@K1 _ _ _ _ _ _ (pv 1) (@A2 _ _ _ _ _ _ B0 (A2 B0 (A2 (K0 (E1 (G5 (A5 B0 (A5 B0 (A5 B0 C1 E5) E5) E5))) (C5 (B7 G_draw (hr.mono (by decide)) rfl T.f_draw.m T.f_draw.F.kp b_draw .nil B8 (K1 (pv 1) (A2 B0 C4 E5) A0) (he:=A0) (hpl:=(A4 E5 A3)))) (fun _ _=>rfl)) C4 B4) E5) E5) A0) (by decide) A0 ((A4 E5 (A4 E5 (A4 B4 A3)))))) (by rfl) (by first | exact .inl rfl | exact .inr rfl | assumption)))) (@G4 _ _ _ _ _ (A58 C (E2 (C0 (i:=4) b5.nd rfl (g4 rfl) (C5 (B7 G_springs (hr.mono (by decide)) rfl T.f_springs.m T.f_springs.F.kp b_springs .nil B8 (K1 (pv 1) (A2 (B5 (pv 3) B0 (fun _ _=>rfl)) (A2 (A1 (pv 2)) (A2 B0 C4 E5) A0) B4) A0) (he:=A0) (hpl:=(A4 B4 (A4 A0 (A4 E5 A3))))))))) (@G4 _ _ _ _ _ (A58 C (V2 (C0 (i:=5) b5.nd rfl (A8 rfl) (G5 (A5 (C5 (B7 G_walker (hr.mono (by decide)) rfl T.f_walker.m T.f_walker.F.kp b_walker .nil B8 (K1 (pv 1) (A2 (B5 (pv 3) B0 (fun _ _=>rfl)) (A2 (A1 (pv 2)) C4 A0) B4) A0) (he:=A0) (hpl:=(A4 B4 (A4 A0 A3))))) C1 F4))))) (@G4 _ _ _ _ _ (A58 C (@O4 _ _ _ _ _ _ (@O0 _ _ _ _ _ _ _ _ M0 rfl (j6 (i7 rfl T.n_range (A5 (C5 (B7 G_draw (hr.mono (by decide)) rfl T.f_draw.m T.f_draw.F.kp b_draw .nil B8 (K1 (pv 1) (A2 B0 C4 E5) A0) (he:=A0) (hpl:=(A4 E5 A3)))) C1 F4))) (R6 (J7 (i:=6) b5.nd rfl (A8 rfl))) (@B1 _ _ _ _ (@d3 _ _ _ _ _ _ (@S4 _ _ _ _ (@T6 _ _ _ _ _ _ _ _ _ _ _ _ U6 Y4 Y5 V8 (pv 5) (@B3 _ _ _ _ _ (@K0 _ _ _ _ _ _ _ (E1 (G5 (A5 (B5 (pv 5) B0 (fun _ _=>rfl)) (A5 (C5 (B7 G_walker (hr.mono (by decide)) rfl T.f_walker.m T.f_walker.F.kp b_walker .nil B8 (K1 (pv 1) (A2 (B5 (pv 3) B0 (fun _ _=>rfl)) (A2 (A1 (pv 2)) C4 A0) B4) A0) (he:=A0) (hpl:=(A4 B4 (A4 A0 A3))))) C1 F4) B4))) (S8 B7g (l8 B54 rfl T.n_int A80 (A5 (c8 A1g A32 (C5 (B7 G_draw (hr.mono (by decide)) rfl T.f_draw.m T.f_draw.F.kp b_draw .nil B8 (K1 (pv 1) (A2 B0 C4 E5) A0) (he:=A0) (hpl:=(A4 E5 A3)))) B0 (D0 _)) C1 A82) (he:=A82) (hpl:=A3))) (fun _ _=>rfl)) C6 B4) (by rfl) (by rfl) (by rfl) (by rfl) (by rfl)) (by rfl)))) (by intro _;rfl)))) (@G4 _ _ _ _ _ (A58 C (@E2 _ _ _ _ _ (@C0 _ _ 7 _ _ _ _ b5.nd rfl (A8 rfl) (@E1 _ _ _ _ (@G5 _ _ _ _ _ (@A5 _ _ _ _ _ _ (O3 (A5 (B5 (pv 3) B0 (fun _ _=>rfl)) (A5 (E1 (C4p (l8 A1j rfl T.n_list j3 (B3 (B5 (pv 3) B0 (fun _ _=>rfl)) C6 B4) (he:=B4) (hpl:=A3)))) C1 F4) B4)) (A5 (E1 (A65 (l8 A1j rfl T.n_list j3 (B3 (pv 4) C6 A0) (he:=A0) (hpl:=A3)))) (A5 (E1 (A65 (l8 A1j rfl T.n_list j3 (B3 (pv 5) C6 A0) (he:=A0) (hpl:=A3)))) C1 F4) F4) A1o))) (by rfl) (by first | exact .inl rfl | exact .inr rfl | assumption)))) (@G4 _ _ _ _ _ (@C0 _ _ 8 _ _ _ _ b5.nd rfl (A8 rfl) (@B7 _ _ _ _ _ _ _ _ _ _ _ _ _ _ _ _ G_shared (hr.mono (by decide)) rfl T.f_shared.m T.f_shared.F.kp b_shared .nil B8 (B3 (K4 M3 (pv 7) C8 (fun _ _=>rfl)) (B3 (pv 2) (B3 (K4 M3 (pv 7) C8 (fun _ _=>rfl)) (B3 (K4 M3 (pv 7) C8 (fun _ _=>rfl)) C6 B4) B4) A0) B4) (by decide) B4 ((A4 A0 (A4 B4 (A4 B4 A3))))) (by rfl) (by first | exact .inl rfl | exact .inr rfl | assumption)) (@G4 _ _ _ _ _ (@A6x _ _ _ _ _ _ _ _ _ _ _ _ _ 9 _ _ _ _ _ b5.nd rfl (A8 rfl) (O1.new (N:=["_law_script", "_law_hand_here", "_law_store", "_law_land_here", "_law_springs_here", "_law_walkers", "_law_k", "_law_handed", "_law_told", "_law_needs_here", "_law_lists", "_law_right"]) (osc:=C2 d8) (by decide +kernel)) rfl (A6o (pv 5)) (fun _=>A8x) (fun _=>(B7 G_needs (hr.mono (by decide)) rfl T.f_needs.m T.f_needs.F.kp b_needs .nil B8 (B3 (pv 3) (B3 (pv 2) (B3 (pv 4) (B3 (pv 12) C6 A0) A0) A0) A0) (he:=A0) (hpl:=(A4 A0 (A4 A0 (A4 A0 A3)))))) (by rfl) (by first | exact .inl rfl | exact .inr rfl | assumption) (by rfl) (by rfl) (by intro _;rfl)) (@G4 _ _ _ _ _ (C0 (i:=10) b5.nd rfl (A8 rfl) (B7 G_all_shares (hr.mono (by decide)) rfl T.f_all_shares.m T.f_all_shares.F.kp b_all_shares .nil B8 (B3 (pv 9) C6 A0) (he:=A0) (hpl:=A3))) (@G4 _ _ _ _ _ (@A0a _ _ _ (@l5 _ _ _ _ _ _ _ _ (PW.pt (@A6l _ _ _ _ _ _ _ (B0w (B0u (F8 B6t rfl T.n_isinstance A1n (B3 (pv 8) (B3 (A1d (v:=V.ty "tuple") rfl T.n_tuple C3z rfl) C6 A0) A0) (he:=A0) (hpl:=(A4 A0 A3))))) (@A6l _ _ _ _ _ _ _ (W8 C2w (F8 S5 rfl T.n_len S7 (B3 (pv 8) C6 A0) (he:=A0) (hpl:=A3)) C8 (D0 _)) (A6l (B0w (B0u (F8 B6t rfl T.n_isinstance A1n (B3 (K4 A1i (pv 8) C8 (fun _ _=>rfl)) (B3 (A1d (v:=V.ty "list") rfl T.n_list j3 rfl) C6 A0) B4) (he:=B4) (hpl:=(A4 A0 A3))))) (B0v (W8 (A1l (K3 hr)) (K4 M3 (pv 7) C8 (fun _ _=>rfl)) (pv 5) (D0 _))))))) (S3 (Y6 B0t)) w6)) (@G4 _ _ _ _ _ (A0a (l5 (PW.pt (A6l (W8 (A1l (K3 hr)) (K4 M3 (pv 7) C8 (fun _ _=>rfl)) (pv 3) (D0 _)) (B0v (W8 (A1l (K3 hr)) (K4 M3 (pv 7) C8 (fun _ _=>rfl)) (pv 4) (D0 _)))))
   (S3 (Y6 B0t))
   w6)) (@G4 _ _ _ _ _ (@A0a _ _ _ (@l5 _ _ _ _ _ _ _ _ (W8 (N3 (K3 hr)) (pv 10) (B08 C6) (D0 _)) (@G4 _ _ _ _ _ (@C0 _ _ 11 _ _ _ _ b5.nd rfl (A8 rfl) (@A8h _ _ _ _ _ _ _ (A8p (N3 (K3 hr)) (pv 8) (A6s (B3 A8f (B3 (pv 9) C6 A0) E5)) (D0 _)) (@A8g _ _ _ _ _ (@F8 _ _ _ _ _ _ _ _ _ (A8z rfl) rfl T.n_all A81 (@B3 _ _ _ _ _ (@j2 _ _ _ _ _ _ _ _ _ _ _ _ _ _ _ (O1.new (N:=["_law_script", "_law_hand_here", "_law_store", "_law_land_here", "_law_springs_here", "_law_walkers", "_law_k", "_law_handed", "_law_told", "_law_needs_here", "_law_lists", "_law_right"]) (osc:=C2 d8) (by decide +kernel)) rfl (A6o (K4 A1i (pv 8) C8 (fun _ _=>rfl))) (fun _=>A8x) (fun _=>(B7 G_are_needs (hr.mono (by decide)) rfl T.f_are_needs.m T.f_are_needs.F.kp b_are_needs .nil B8 (B3 (pv 12) C6 A0) (he:=A0) (hpl:=A3))) (by rfl) (by rfl) (by intro _;rfl)) C6 Z1) (by decide) (by decide) Z1 A3))) (by rfl) (by first | exact .inl rfl | exact .inr rfl | assumption)) (@G4 _ _ _ _ _ (S4 (T6 U6 Y4 Y5 V8 (K4 M3 (K4 A1i (pv 8) C8 (fun _ _=>rfl)) C8 (fun _ _=>rfl)) (B3 C8 C6 E5))) (S3 (Y6 (A8h (pv 11) (A8g (A8p (N3 (K3 hr)) (A6t A6u (K4 A1i (pv 8) C8 (fun _ _=>rfl)) (A8t C8) A8s) (A6t A6u (pv 9) (A8t C8) A8s) (D0 _)))))))) w6)) (@S3 _ _ _ (Y6 (A8h (A8p (N3 (K3 hr)) (pv 8) (A6s (B3 A8f (B3 (K4 M3 (pv 10) C8 (fun _ _=>rfl)) C6 B4) E5)) (D0 _)) (A8g (B7 G_are_needs (hr.mono (by decide)) rfl T.f_are_needs.m T.f_are_needs.F.kp b_are_needs .nil B8 (B3 (K4 A1i (pv 8) C8 (fun _ _=>rfl)) C6 B4) (he:=B4) (hpl:=A3))))))))))))))))))))),?_⟩
  try dsimp only[i9,Cx.nox]
  refine⟨_,rfl,a,ns,rfl,hS,fun hd hl H1 _ _ d1 _=>?_⟩
  refine D17 (k:=10) d1 (fun ρ=>∃S:Int,0<=S/\S < 10/\ρ=.no::.hd::.sh (.int S)::D9 9 .no) ?_ ?_
  ·simp only[S2,A8c]
   left
   exact⟨rfl,10,rfl,by decide,by decide,fun S s0 s9=>⟨S,s0,s9,rfl⟩⟩
  rintro C ρ σ H2 hC r ⟨S,s0,s9,rfl⟩
  refine A59 r (fun ρ=>∃(m:Nat) (ws:List Wy),F9 m ws/\m<=4/\ρ=.no::.hd::.sh (.int S)::.sh (E8 m ws)::D9 8 .no) ?_ ?_
  ·simp only[S2,A8c]
   left
   refine⟨rfl,by decide,rfl,3,rfl,by decide,by decide,fun u u0 u1=>?_⟩
   obtain⟨sc,hsc,c0,c9⟩:∃sc:Int,atI [PyData.int 3,.int 3,.int 9] u=some (.int sc)/\1<=sc/\sc<=9:=by
    have hu:u=0\/u=1\/u=2:=by omega
    rcases hu with rfl | rfl | rfl
    ·exact⟨3,rfl,by decide,by decide⟩
    ·exact⟨3,rfl,by decide,by decide⟩
    ·exact⟨9,rfl,by decide,by decide⟩
   refine A7z hsc ?_
   exact⟨_,4,8,sc,rfl,by decide,by decide,by decide,c0,by omega,fun m ws ok hm _ _=>⟨m,ws,ok,hm,rfl⟩⟩
  clear r
  rintro ρ σ H3 r ⟨m,ws,ok,hm,rfl⟩
  have m1:=ok.m1
  have m2:=ok.m2
  refine A59 r (fun ρ=>∃sp:List Sp2,W2 m sp/\ρ=.no::.hd::.sh (.int S)::.sh (E8 m ws)::.sh (.list (sp.map G1))::D9 7 .no) ?_ ?_
  ·simp only[S2,A8c]
   right
   exact⟨rfl,_,m,S,4,rfl,m1,m2,s0,by omega,by decide,fun sp so=>⟨sp,so,rfl⟩⟩
  clear r
  rintro ρ σ H4 r ⟨sp,so,rfl⟩
  refine A59 r (fun ρ=>∃x:Sp2×Sp2,A54 m S x/\ρ=.no::.hd::.sh (.int S)::.sh (E8 m ws)::.sh (.list (sp.map G1))::.ow [wkD x]::D9 6 .no) ?_ ?_
  ·simp only[S2,A8c]
   right
   exact⟨rfl,_,m,S,rfl,m1,m2,s0,by omega,fun b g hb hg b0 b1=>⟨by decide,(b,g),⟨hb,hg,b0,b1⟩,rfl⟩⟩
  clear r
  rintro ρ σ H5 r ⟨x,hx,rfl⟩
  refine A59 r (fun ρ=>∃(wk:List (Sp2×Sp2)) (z:Sl),(∀y∈wk,A54 m S y)/\1<=wk.length/\wk.length<=3/\ρ=.no::.hd::.sh (.int S)::.sh (E8 m ws)::.sh (.list (sp.map G1))::.ow (wk.map wkD)::z::D9 5 .no) ?_ ?_
  ·simp only[S2,A8c]
   array_get_dec
   refine⟨rfl,3,rfl,by decide,by decide,fun n n0 n1=>?_⟩
   array_get_dec
   refine⟨⟨by omega,by omega⟩,fun r ρ=>∃(wk:List (Sp2×Sp2)) (z:Sl),(∀y∈wk,A54 m S y)/\1<=wk.length/\wk.length + r.length<=3/\ρ=[.no,.hd,.sh (.int S),.sh (E8 m ws),.sh (.list (sp.map G1)),.ow (wk.map wkD),z,.no,.no,.no,.no,.no],⟨[x],_,fun y hy=>by rw[L9.mp hy];exact hx,D2 _,by unfold J3;rw[C7,U5,A07];omega,rfl⟩,?_,?_⟩
   ·rintro y r ρ ⟨wk,z,hw,l1,l2,rfl⟩
    rw[F3] at l2
    obtain⟨y0,wk',rfl⟩:∃y0 wk',wk=y0::wk':=by
     cases wk with
     | nil=>cases l1
     | cons a b=>exact⟨a,b,rfl⟩
    sizeOf_list_dec
    refine A7z (d:=wkD y0) (show atI (wkD y0::wk'.map wkD) 0=some (wkD y0) from A7a) ⟨rfl,A7z (d:=.int ((m:Nat):Int)) rfl ⟨_,m,S,rfl,m1,m2,s0,by omega,fun b g hb hg b0 b1=>⟨by decide,rfl,3,rfl,by decide,by decide,fun u u0 u1=>?_⟩⟩⟩
    have fin:∀q:Sp2×Sp2,A54 m S q->∃(wk:List (Sp2×Sp2)) (z:Sl),(∀y∈wk,A54 m S y)/\1<=wk.length/\wk.length + r.length<=3/\[Sl.no,Sl.hd,Sl.sh (.int S),Sl.sh (E8 m ws),Sl.sh (.list (sp.map G1)),Sl.ow (g9 wkD (y0::wk')++[wkD q]),Sl.sh y,Sl.no,Sl.no,Sl.no,Sl.no,Sl.no]=[Sl.no,Sl.hd,Sl.sh (.int S),Sl.sh (E8 m ws),Sl.sh (.list (sp.map G1)),Sl.ow (wk.map wkD),z,Sl.no,Sl.no,Sl.no,Sl.no,Sl.no]:=fun q hq=>⟨(y0::wk')++[q],_,fun a ha=>by
      rcases K7.mp ha with h | h
      ·exact hw a h
      ·rw[L9.mp h];exact hq,by rw[F5];omega,by rw[F5,A07];omega,by rw[P6];rfl⟩
    try dsimp only
    by_cases c:(0:Int) < u
    ·rw[decide_eq_true c]
     exact A7z (d:=wkD (b,g)) rfl ⟨by rw[C7];omega,fin (b,g) ⟨hb,hg,b0,b1⟩⟩
    ·rw[decide_eq_false c]
     exact A7z (d:=wkD y0) rfl ⟨by rw[C7];omega,fin y0 (hw y0 B2)⟩
   ·rintro ρ ⟨wk,z,hw,l1,l2,rfl⟩
    exact⟨wk,z,hw,l1,by rw[c5] at l2;omega,rfl⟩
  clear r
  rintro ρ σ H6 r ⟨wk,z6,hw,l1,l2,rfl⟩
  refine A59 r (fun ρ=>ρ=.no::.hd::.sh (.int S)::.sh (E8 m ws)::.sh (.list (sp.map G1))::.ow (wk.map wkD)::z6::.sh (.list [E8 m ws,.list (sp.map G1),.list (wk.map wkD)])::D9 4 .no) ?_ ?_
  ·simp only[S2,A8c]
   right
   exact⟨by decide,by decide,rfl⟩
  clear r
  rintro ρ σ H7 r rfl
  obtain⟨col,r⟩:=r
  subst hC
  obtain⟨y0,y1,y2,y3,y4,y5,y6,y7,y8,y9,y10,y11,rfl⟩:=D2l (xs:=σ) (by rw[<-r.len];rfl)
  obtain⟨v2,e2,t2⟩:=r.sl 2 _ rfl
  obtain⟨v3,e3,t3⟩:=r.sl 3 _ rfl
  obtain⟨v4,e4,t4⟩:=r.sl 4 _ rfl
  obtain⟨aw,uw,e5,_,_,ew,tuw⟩:=r.sl 5 _ rfl
  obtain⟨v7,e7,t7⟩:=r.sl 7 _ rfl
  cases t2
  have hy2:y2=some (.int S):=e2
  have hy3:y3=some v3:=e3
  have hy4:y4=some v4:=e4
  have hy5:y5=some (.ref aw):=e5
  have hy7:y7=some v7:=e7
  clear e2 e3 e4 e5 e7
  subst hy2 hy3 hy4 hy5 hy7
  clear r
  obtain⟨ah,uh,rfl,_,eh,tuh⟩:=n6 t7
  cases tuh with
  | @cons h0 _ _ _ th0 tuh=>
  cases tuh with
  | @cons h1 _ _ _ th1 tuh=>
  cases tuh with
  | @cons h2 _ _ _ th2 tuh=>
  cases tuh
  have hN:2 ^ sp.length * (m * (S.toNat + 1))<=900:=by
   have h1:=pw4 sp.length (by have:=so.few;omega)
   have h2:m * (S.toNat + 1)<=4 * 10:=Nat.mul_le_mul hm (by omega)
   have h3:2 ^ sp.length * (m * (S.toNat + 1))<=16 * 40:=Nat.mul_le_mul h1 h2
   omega
  have luw:uw.length=wk.length:=by rw[tuw.len,C7]
  refine⟨_,rfl,ah,_,_,_,rfl,rfl,SqL.of eh,rfl,_,rfl,_,rfl,ah,_,_,_,rfl,rfl,SqL.of eh,rfl,_,rfl,ah,_,_,_,rfl,rfl,SqL.of eh,rfl,m,ws,S,sp,wk,.cons th0.any (.cons (.int _) (.cons th1.any (.cons th2.any .nil))),ok,s0,by omega,so,hw,l2,fun nss hR t l x xs H8 s8 et el sd=>?_⟩
  have nl:=A55 hR
  obtain⟨as,se,sown⟩:=D2k sd
  have hF:∀{Hx:Hp},Same H8 Hx->(∀b,Hx b=none->b∉as)/\∀b xs,Hx b=some (.tup xs)->b∉as:=fun s=>by
   refine⟨fun b hb z=>?_,fun b xs hb z=>?_⟩
   ·obtain⟨n,_,e⟩:=sown b z
    rw[s _ _ e] at hb;cases hb
   ·obtain⟨n,_,e⟩:=sown b z
    rw[s _ _ e] at hb;cases hb
  have inF:∀{v:V} {d:PyData} {Hx:Hp},ThV (Z col) H7 v d->Same H7 Hx->ThV (fun b=>b∉as) Hx v d:=fun tv s=>tv.mv fun b o _ e=>by
   refine⟨fun z=>?_,s _ _ e⟩
   obtain⟨n,e',_⟩:=sown b z
   rw[e'] at e;cases e
  refine⟨_,rfl,aw,rfl,⟨uw,SqL.of (s8 _ _ ew)⟩,?_⟩
  refine B1j (xs:=uw) (fun i ys Hn=>Same H8 Hn/\A6 (fun b=>b∉as) Hn ys ((E6 nss).take i)) ?_ ⟨fun _ _ e=>e,.nil⟩ ?_ ?_ ?_
  ·rw[luw,sizeLine_eq];omega
  ·rintro i ys Hn hi ⟨h1,h2⟩
   refine⟨?_,SqL.of (h1 _ _ (s8 _ _ ew))⟩
   rw[h2.len,T3]
   omega
  ·rintro i y ys Hn hy ⟨h1,h2⟩ ca
   obtain⟨d,hd',ty⟩:=B4x tuw hy
   rw[O7] at hd'
   obtain⟨z,hz,rfl⟩:=B5k.mp hd'
   obtain⟨w1,w2,w3,w4⟩:=hw z (Q8 hz)
   obtain⟨n,hn,ts,hts,rfl⟩:=B40 hR hz
   have sH:=s8.tr h1
   unfold A8w
   refine L5 ⟨_,rfl,_,rfl,_,rfl,_,rfl,D2j (F:=fun b=>b∉as) (E:=E0) (hF h1) (fun d=>d=.list (numL (U1 z.2 0 [] ts))) (.cons (inF t3 sH) (.cons (.int _) (.cons (inF t4 sH) (.cons (inF ty sH) .nil)))) ⟨m,ws,S,sp,z.1,z.2,rfl,ok,s0,hN,so,w1,w3,w4,fun T' sT hT=>?_⟩ fun d v H9 hd9 t9 s9=>?_⟩
   ·rw[D1x sT fun s=>⟨fun zz=>by
     obtain⟨x,h1,h2⟩:=(hT s).mp zz
     have hs:s < ts.length:=by rw[hts.len];exact (h1.bd ok s0 (A56 w1 w3 w4) so).2.2.2
     exact⟨hs,(C04 ok s0 (A56 w1 w3 w4) so hts z.2 hs).mpr ⟨x,h1,h2⟩⟩,fun ⟨hs,zz⟩=>(hT s).mpr ((C04 ok s0 (A56 w1 w3 w4) so hts z.2 hs).mp zz)⟩]
   ·subst hd9
    refine⟨h1.tr s9,?_⟩
    have:(E6 nss)[i]?=some (.list (numL (U1 z.2 0 [] ts))):=by unfold E6;rw[O7,hn];rfl
    rw[A72,this]
    exact (h2.keep s9).append (.cons t9 .nil)
  rintro ys0 Hn ⟨h1,h2⟩ ln hln
  have lns:(E6 nss).length=uw.length:=by unfold E6;rw[C7,nl,luw]
  rw[<-lns,List.take_length] at h2
  obtain⟨H9,hH9⟩:∃H9,H9=upd Hn ln (.lst ys0):=⟨_,rfl⟩
  rw[<-hH9]
  have s9:Same H8 H9:=by rw[hH9];exact h1.tr (Same.upd hln)
  have eln:H9 ln=some (.lst ys0):=by rw[hH9];exact E7
  have tys:A6 (fun b=>b∉as) H9 ys0 (E6 nss):=by rw[hH9];exact h2.keep (Same.upd hln)
  have nln:ln∉as:=(hF h1).1 _ hln
  clear hH9 h1 h2 hln
  have tn:ThV TT0 H9 (.ref ln) (.list (E6 nss)):=.lst trivial eln (tys.mv fun b o _ e=>⟨trivial,e⟩)
  have six:∀n∈nss,n.length<=6:=B4s so hR
  refine⟨_,rfl,B0d (E:=E0) (fun d=>d=.list (E6 (asG nss [[]]))) (.cons tn .nil) ⟨nss,rfl,by omega,six,rfl⟩ fun d v H10 hd10 t10 s10=>?_⟩
  subst hd10
  obtain⟨la,ul,rfl,_,ela,tul⟩:=n6 t10
  have s80:=s9.tr s10
  unfold Y7
  dsimp only[List.set]
  have s70:=s8.tr s80
  have LW:=D1.wks wk
  have LL:=D1.land m ws
  have LS:=D1.sprs sp
  refine⟨fun σ' H'=>σ'=[y0,y1,some (.int S),some v3,some v4,some (.ref aw),y6,some (.ref ah),some (.ref t),some (.ref ln),some (.ref la),y11]/\H10=H',?_,?_⟩
  ·refine⟨_,rfl,_,_,_,_,_,rfl,rfl,.tup (s80 _ _ et),C4s (.tuple []) _ rfl,_,rfl,M4 ?_⟩
   refine⟨_,rfl,t,_,rfl,.inr (SqT.of (s80 _ _ et)),rfl,_,rfl,M4 ?_⟩
   refine⟨_,rfl,.inr (.inl ⟨t,_,1,_,rfl,rfl,SqT.of (s80 _ _ et),rfl,_,_,_,_,_,rfl,rfl,.lst (s80 _ _ el),B7p (.list []) _ rfl,_,rfl,M4 ?_⟩)⟩
   refine⟨_,rfl,ah,_,_,_,rfl,rfl,SqL.of (s70 _ _ eh),rfl,_,rfl,_,_,ThV.dat (th2.any.keep s70) LW.1,ThV.dat (F:=TT0) (.lst trivial (s70 _ _ ew) (tuw.mv fun b o _ e=>⟨trivial,s70 _ _ e⟩)) LW.1,LW.1,LW.1,LW.dep (by decide) _,_,rfl,?_⟩
   rw[LW.same]
   exact M4 ⟨rfl,rfl⟩
  rintro σ' _ ⟨rfl,rfl⟩
  refine⟨fun σ' H'=>σ'=[y0,y1,some (.int S),some v3,some v4,some (.ref aw),y6,some (.ref ah),some (.ref t),some (.ref ln),some (.ref la),y11]/\H10=H',?_,?_⟩
  ·refine⟨_,rfl,ah,_,_,_,rfl,rfl,SqL.of (s70 _ _ eh),rfl,_,rfl,_,_,ThV.dat (th0.any.keep s70) LL.1,ThV.dat (t3.any.keep s70) LL.1,LL.1,LL.1,LL.dep (by decide) _,_,rfl,?_⟩
   rw[LL.same]
   refine M4 ?_
   refine⟨_,rfl,ah,_,_,_,rfl,rfl,SqL.of (s70 _ _ eh),rfl,_,rfl,_,_,ThV.dat (th1.any.keep s70) LS.1,ThV.dat (t4.any.keep s70) LS.1,LS.1,LS.1,LS.dep (by decide) _,_,rfl,?_⟩
   rw[LS.same]
   exact M4 ⟨rfl,rfl⟩
  rintro σ' _ ⟨rfl,rfl⟩
  have hd0:=D1c nss
  have LNs:=D1.nss nss
  have LE:D1 1 (.list []):=D1.lst fun d hd=>(nomatch hd)
  rcases se with ⟨ef,rfl,rfl,nd,h4⟩ | ⟨_,r,ef,rfl,rfl⟩
  ·-- not
   rw[ef] at hd0
   have e0:asG nss [[]]=[]:=List.head?_eq_none_iff.mp hd0
   obtain⟨n0,nss',rfl⟩:∃n0 nss',nss=n0::nss':=by
    cases nss with
    | nil=>rw[c5] at nl;omega
    | cons a b=>exact⟨a,b,rfl⟩
   obtain⟨a0,as',rfl,hat,h4'⟩:∃a0 as',as=a0::as'/\f7 H7 H8 a0 n0/\O5 (f7 H7 H8) as' nss':=by
    cases h4 with
    | cons x t=>exact⟨_,_,rfl,x,t⟩
   obtain⟨nd1,nd2⟩:=A3e.mp nd
   rw[e0] at tul
   refine⟨fun _ _=>False,?_,fun _ _ z=>z.elim⟩
   refine⟨_,rfl,by show 0<=sizeLine;decide,fun q hq=>⟨_,_,ThV.dat (F:=TT0) (.lst trivial (Same.upd hq _ _ ela) (tul.mv fun b o _ e=>⟨trivial,Same.upd hq _ _ e⟩)) LE.1,ThV.dat (F:=TT0) (.lst trivial E7 .nil) LE.1,LE.1,LE.1,LE.dep (by decide) _,_,rfl,?_⟩⟩
   refine L5 ?_
   obtain⟨HA,hHA⟩:∃HA,HA=upd H10 q (.lst []):=⟨_,rfl⟩
   rw[<-hHA]
   have sA:Same H10 HA:=by rw[hHA];exact Same.upd hq
   clear hHA hq q
   refine⟨_,rfl,_,rfl,by show 2<=sizeLine;decide,fun r hr=>?_⟩
   obtain⟨HB,hHB⟩:∃HB,HB=upd HA r (.tup [.str "not",.ref ln]):=⟨_,rfl⟩
   rw[show upd HA r (.tup [.str (Str.ofString "not"),.ref ln])=HB from hHB.symm]
   have sB0:Same HA HB:=by rw[hHB];exact Same.upd hr
   have erB:HB r=some (.tup [.str "not",.ref ln]):=by rw[hHB];exact E7
   have sB:Same H8 HB:=(s80.tr sA).tr sB0
   have s9B:Same H9 HB:=(s10.tr sA).tr sB0
   clear hHB hr sB0
   have LP:D1 3 (.tuple [.str "not",.list (E6 (n0::nss'))]):=D1.tup (D1.two (D1.str (by decide +kernel)) LNs)
   have tB1:ThV TT0 HB (.ref t) (.tuple [.str "not",.list (E6 (n0::nss'))]):=.tup trivial (sB _ _ et) (.cons (.str _) (.cons (.lst trivial (sB _ _ el) (B0e (H0:=H7) (fun _ _=>trivial) (A7y (fun b n hb=>⟨hb.1,sB _ _ hb.2⟩) h4))) .nil))
   have tB2:ThV TT0 HB (.ref r) (.tuple [.str "not",.list (E6 (n0::nss'))]):=.tup trivial erB (.cons (.str _) (.cons (tn.keep s9B) .nil))
   refine⟨_,_,ThV.dat tB1 LP.1,ThV.dat tB2 LP.1,LP.1,LP.1,LP.dep (by decide) _,?_⟩
   rw[LP.same]
   refine⟨_,rfl,L5 ?_⟩
   refine⟨_,rfl,.inr (.inl ⟨t,_,1,_,rfl,rfl,SqT.of (sB _ _ et),rfl,l,rfl,⟨_,SqL.of (sB _ _ el)⟩,?_⟩)⟩
   refine B1j (xs:=(a0::as').map V.ref) (fun q ys Hn=>Same HB Hn/\ys=(D9 q true).map V.bl) ?_ ⟨(fun _ _ e=>e),rfl⟩ ?_ ?_ ?_
   ·have:=A55 h4
    rw[C7,<-this,nl,sizeLine_eq];omega
   ·rintro q ys Hn hq ⟨sn,rfl⟩
    refine⟨?_,SqL.of (sn _ _ (sB _ _ el))⟩
    rw[C7,k6];exact D2 _
   ·rintro q y ys Hn hy ⟨sn,rfl⟩ ca
    rw[O7] at hy
    obtain⟨b,hb,rfl⟩:=B5k.mp hy
    obtain⟨n,hn,hnb⟩:=B40 h4 hb
    unfold A8w
    refine L5 ⟨_,rfl,B0d (E:=E0) (fun d=>d=.bool true) (.cons (ThV.lst trivial (sn _ _ (sB _ _ hnb.2)) (A7x n)) .nil) ⟨n,rfl,by have:=six n (Q8 hn);omega,rfl⟩ fun d v H11 hd11 t11 s11=>?_⟩
    subst hd11
    cases t11
    exact⟨sn.tr s11,by rw[List.replicate_succ',P6];rfl⟩
   rintro ys Hn ⟨sn,rfl⟩ b2 hb2
   refine⟨b2,_,rfl,SqL.of E7,?_⟩
   rw[show (D9 ((a0::as').map V.ref).length true).all id=true by
    rw[B47];intro x hx;rw[(List.mem_replicate.mp hx).2];rfl]
   obtain⟨HC,hHC⟩:∃HC,HC=upd Hn b2 (.lst ((D9 ((a0::as').map V.ref).length true).map V.bl)):=⟨_,rfl⟩
   rw[<-hHC]
   have sC:Same HB HC:=by rw[hHC];exact sn.tr (Same.upd hb2)
   clear hHC sn hb2
   have s8C:=sB.tr sC
   have s9C:=s9B.tr sC
   dsimp only[List.set]
   have etC:=s8C _ _ et
   have elC:=s8C _ _ el
   have eaC:=s8C _ _ hat.2
   refine⟨_,rfl,.inr (.inl ⟨t,_,1,_,rfl,rfl,SqT.of etC,rfl,l,_,0,V.ref a0,rfl,rfl,SqL.of elC,(show atI (V.ref a0::as'.map V.ref) 0=some (V.ref a0) from C1c),.inl ⟨rfl,_,SqL.of eaC⟩,a0,vn n0,_,rfl,rfl,eaC,by unfold vn;rw[C7,sizeLine_eq];have:=six n0 B2;omega,?_⟩)⟩
   obtain⟨HD,hHD⟩:∃HD,HD=upd HC a0 (.lst (vn n0++[.int 99])):=⟨_,rfl⟩
   rw[<-hHD]
   have kD:∀b o,HC b=some o->b≠a0->HD b=some o:=fun b o e n=>by rw[hHD,B6 n];exact e
   have nt:t≠a0:=fun z=>by rw[z,eaC] at etC;cases etC
   have nla:l≠a0:=fun z=>by
    rw[z,eaC] at elC
    have:=Option.some.inj elC
    injection this with this
    cases n0 with
    | nil=>cases this
    | cons k n=>cases this
   have etD:=kD _ _ etC nt
   have elD:=kD _ _ elC nla
   have elnD:=kD _ _ (s9C _ _ eln) (fun z=>nln (by rw[z];exact B2))
   clear hHD
   refine⟨_,rfl,_,rfl,L5 ⟨_,rfl,.inr (.inl ⟨t,_,1,_,rfl,rfl,SqT.of etD,rfl,1,rfl,l,_,rfl,SqL.of elD,fun p hp=>⟨_,rfl,1,rfl,ln,_,rfl,SqL.of (Same.upd hp _ _ elnD),fun p' hp'=>?_⟩⟩)⟩⟩
   obtain⟨y1',ys',rfl⟩:∃y1' ys',ys0=y1'::ys':=by
    cases ys0 with
    | nil=>cases tys
    | cons a b=>exact⟨a,b,rfl⟩
   have ec:c6 ((a0::as').map V.ref) (some 1) none=as'.map V.ref:=C1d
   rw[ec] at hp' ⊢
   rw[show c6 (y1'::ys') (some 1) none=ys' from C1d]
   have sE:Same HD (upd HD p (.lst (as'.map V.ref))):=Same.upd hp
   have LN':=D1.nss nss'
   have tE1:ThV TT0 (upd (upd HD p (.lst (as'.map V.ref))) p' (.lst ys')) (.ref p) (.list (E6 nss')):=.lst trivial (Same.upd hp' _ _ E7) (B0e (H0:=H7) (fun _ _=>trivial) (C1b (fun b hb n hn=>⟨hn.1,Same.upd hp' _ _ (sE _ _ (kD _ _ (s8C _ _ hn.2) fun z=>nd1 (z▸hb)))⟩) h4'))
   have tE2:ThV TT0 (upd (upd HD p (.lst (as'.map V.ref))) p' (.lst ys')) (.ref p') (.list (E6 nss')):=.lst trivial E7 (by
    cases tys with
    | cons _ tys=>exact tys.mv fun b o z e=>⟨trivial,Same.upd hp' _ _ (sE _ _ (kD _ _ (s9C _ _ e) fun z'=>z (by rw[z'];exact B2)))⟩)
   refine⟨_,_,ThV.dat tE1 LN'.1,ThV.dat tE2 LN'.1,LN'.1,LN'.1,LN'.dep (by decide) _,?_⟩
   rw[LN'.same]
   exact k _
  ·-- all
   rw[ef] at hd0
   obtain⟨M1,e0⟩:∃M1,asG nss [[]]=r::M1:=by
    cases e:asG nss [[]] with
    | nil=>rw[e] at hd0;cases hd0
    | cons a b=>rw[e] at hd0;cases hd0;exact⟨b,rfl⟩
   rw[e0] at tul
   have LA:=D1.nss (r::M1)
   have etX:=s80 _ _ et
   have elX:=s80 _ _ el
   refine⟨fun σ' H'=>σ'=[y0,y1,some (.int S),some v3,some v4,some (.ref aw),y6,some (.ref ah),some (.ref t),some (.ref ln),some (.ref la),y11]/\Same H10 H',?_,?_⟩
   ·refine⟨_,rfl,by show 0<=sizeLine;decide,fun q hq=>⟨_,_,ThV.dat (F:=TT0) (.lst trivial (Same.upd hq _ _ ela) (tul.mv fun b o _ e=>⟨trivial,Same.upd hq _ _ e⟩)) LA.1,ThV.dat (F:=TT0) (.lst trivial E7 .nil) LE.1,LA.1,LE.1,LA.dep (by decide) _,_,rfl,?_⟩⟩
    exact M4 ⟨rfl,Same.upd hq⟩
   rintro σ' HX ⟨rfl,sX⟩
   cases tul with
   | @cons w0 _ ws0 _ tw0 tul=>
   have LR:D1 2 (.tuple [.str "all",.list (numL r)]):=D1.tup (D1.two (D1.str (by decide +kernel)) (D1.numL r))
   refine⟨_,rfl,_,rfl,la,_,0,w0,rfl,rfl,SqL.of (sX _ _ ela),C1c,by show 2<=sizeLine;decide,fun p hp=>⟨_,_,ThV.dat (F:=TT0) (.tup trivial (Same.upd hp _ _ (sX _ _ etX)) (.cons (.str _) (.cons (.lst trivial (Same.upd hp _ _ (sX _ _ elX)) (A7x r)) .nil))) LR.1,ThV.dat (F:=TT0) (.tup trivial E7 (.cons (.str _) (.cons ((tw0.any.keep sX).keep (Same.upd hp)) .nil))) LR.1,LR.1,LR.1,LR.dep (by decide) _,?_⟩⟩
   rw[LR.same]
   refine⟨_,rfl,L5 ?_⟩
   have rl:r.length<=3:=by have:=A7v nss 0 r ef;omega
   refine⟨_,rfl,.inr (.inl ⟨t,_,1,_,rfl,rfl,SqT.of (Same.upd hp _ _ (sX _ _ etX)),rfl,B0d (E:=E0) (fun d=>d=.bool true) (.cons (ThV.lst trivial (Same.upd hp _ _ (sX _ _ elX)) (A7x r)) .nil) ⟨r,rfl,by omega,rfl⟩ fun d v H11 hd11 t11 s11=>?_⟩)⟩
   subst hd11
   cases t11
   exact k _
theorem all_mk {l:PySem.W.OpenLaw} {w:World} {K:A7} {h:Heap} {mg:Str->Option Value} {fa:Addr} (X:K.In h) (G:h.Ns mainGlobals mg) (hfa:mg "law" = some (.ref fa))
  (h0:FH K "is_whole" B2x)
  (h1:FH K "stepped" B2y)
  (h2:FH K "levels_along" B2z)
  (h3:FH K "is_place" B20)
  (h4:FH K "changes_of" A9q)
  (h5:FH K "base_at" B21)
  (h6:FH K "has_enough" B22)
  (h7:FH K "effect_of_none" B23)
  (h8:FH K "effect_of_one" B24)
  (h9:FH K "effect_of" B25)
  (h10:FH K "passed" B26)
  (h11:FH K "joined" B27)
  (h12:FH K "is_more" B28)
  (h13:FH K "behind_way" B29)
  (h14:FH K "first_row" B3a)
  (h15:FH K "row_behind" B3b)
  (h16:FH K "walk_to" B3c)
  (h17:FH K "behind_ways" B3d)
  (h18:FH K "behind_part" B3e)
  (h19:FH K "end_of" B3f)
  (h20:FH K "rows_from" B3g)
  (h21:FH K "still_rises" B3h)
  (h22:FH K "rising_walk" A9r)
  (h23:FH K "parted_at_round" A9s)
  (h24:FH K "parts_by" B3i)
  (h25:FH K "filling_parts" B3j)
  (h26:FH K "settled" A9t)
  (h27:FH K "highest" B3k)
  (h28:FH K "alone" B3l)
  (h29:FH K "numbers_in" A9u)
  (h30:FH K "level_by_spring" B3m)
  (h31:FH K "base_by" B3n)
  (h32:FH K "highest_by" B3o)
  (h33:FH K "is_part" B3p)
  (h34:FH K "needs_of" A9v)
  (h35:FH K "first_shares" B3q)
  (h36:FH K "shared" A9w)
  (h37:FH K "_law_hand" B3r)
  (h38:FH K "_law_next" B3s)
  (h39:FH K "_law_take" B3t)
  (h40:FH K "_law_draw" B3u)
  (h41:FH K "_law_change" B3v)
  (h42:FH K "_law_land" B3w)
  (h43:FH K "_law_springs" B3x)
  (h44:FH K "_law_by_sets" A9x)
  (h45:FH K "_law_needs" A5u)
  (h46:FH K "_law_walker" B3y)
  (h47:FH K "_law_is_whole" B3z)
  (h48:FH K "_law_are_needs" A9y)
  (h49:FH K "_law_all_shares" A9z)
  {f50:Addr} {od50 an50:Option Addr} {sl50:Array (Option Value)} {oc50 kV50 dc50 pm50 cd50 ct50:Value} (a50:G9 K mainGlobals "law" = some (some (.ref f50))) (l50:K.lookup f50=some ⟨oc50,od50,.func (A06 "law" "law" (A1k d8) (j1 d8) (C2 d8) .none kV50 dc50 pm50 an50 cd50 ct50),sl50⟩) (c50:B44 K cd50 "law" = true) (k50:B42 K (.ref f50)=true)
  {tk_MANY:Tok} (q_MANY:G9 K mainGlobals "MANY" = some (some (.int 0 tk_MANY)))
  {tk_WAYS:Tok} (q_WAYS:G9 K mainGlobals "WAYS" = some (some (.int 1 tk_WAYS)))
  {tk_START:Tok} (q_START:G9 K mainGlobals "START" = some (some (.int 0 tk_START)))
  {tk_END:Tok} (q_END:G9 K mainGlobals "END" = some (some (.int 1 tk_END)))
  {tk_CHANGE:Tok} (q_CHANGE:G9 K mainGlobals "CHANGE" = some (some (.int 2 tk_CHANGE)))
  {tk_PLACE_spots:Tok} (q_PLACE_spots:G9 K mainGlobals "PLACE_spots" = some (some (.int 0 tk_PLACE_spots)))
  {tk_LEVEL:Tok} (q_LEVEL:G9 K mainGlobals "LEVEL" = some (some (.int 1 tk_LEVEL)))
  {tk_LEAST:Tok} (q_LEAST:G9 K mainGlobals "LEAST" = some (some (.int 0 tk_LEAST)))
  {tk_GAIN:Tok} (q_GAIN:G9 K mainGlobals "GAIN" = some (some (.int 1 tk_GAIN)))
  {tk_TOP:Tok} (q_TOP:G9 K mainGlobals "TOP" = some (some (.int 2 tk_TOP)))
  {tk_TABLE:Tok} (q_TABLE:G9 K mainGlobals "TABLE" = some (some (.int 0 tk_TABLE)))
  {tk_RISEN:Tok} (q_RISEN:G9 K mainGlobals "RISEN" = some (some (.int 1 tk_RISEN)))
  {tk_FROM:Tok} (q_FROM:G9 K mainGlobals "FROM" = some (some (.int 0 tk_FROM)))
  {tk_BY:Tok} (q_BY:G9 K mainGlobals "BY" = some (some (.int 1 tk_BY)))
  {tk_NUMBERS:Tok} (q_NUMBERS:G9 K mainGlobals "NUMBERS" = some (some (.int 0 tk_NUMBERS)))
  {tk_TIMES:Tok} (q_TIMES:G9 K mainGlobals "TIMES" = some (some (.int 1 tk_TIMES)))
  {tk_PLACE_springs:Tok} (q_PLACE_springs:G9 K mainGlobals "PLACE_springs" = some (some (.int 0 tk_PLACE_springs)))
  {tk_GIFT:Tok} (q_GIFT:G9 K mainGlobals "GIFT" = some (some (.int 1 tk_GIFT)))
  {tk_BEGIN:Tok} (q_BEGIN:G9 K mainGlobals "BEGIN" = some (some (.int 0 tk_BEGIN)))
  {tk_GOAL:Tok} (q_GOAL:G9 K mainGlobals "GOAL" = some (some (.int 1 tk_GOAL)))
  (z_abs:G9 K mainGlobals "abs" = some none)
  (z_all:G9 K mainGlobals "all" = some none)
  (z_any:G9 K mainGlobals "any" = some none)
  (z_bool:G9 K mainGlobals "bool" = some none)
  (z_enumerate:G9 K mainGlobals "enumerate" = some none)
  (z_int:G9 K mainGlobals "int" = some none)
  (z_isinstance:G9 K mainGlobals "isinstance" = some none)
  (z_len:G9 K mainGlobals "len" = some none)
  (z_list:G9 K mainGlobals "list" = some none)
  (z_max:G9 K mainGlobals "max" = some none)
  (z_min:G9 K mainGlobals "min" = some none)
  (z_range:G9 K mainGlobals "range" = some none)
  (z_reversed:G9 K mainGlobals "reversed" = some none)
  (z_sorted:G9 K mainGlobals "sorted" = some none)
  (z_tuple:G9 K mainGlobals "tuple" = some none) :
  ∃fd:FuncData,(∀(s:Shared) (v:Value),BindsTo s fd ⟨[v],[]⟩ [("_law_script",v)])/\∀base:Heap,K.In base->base.Ns mainGlobals mg->C9 l.prog w K mg base CX0 14 fa fd ["_law_script"] (B0f K):=by
 have e:=hfa.symm.trans (P7 X G a50)
 cases e
 obtain⟨t0⟩:=FT.of (ps:=["thing"]) X G h0 (fun _ _ _ _ _ _ us hl=>by obtain⟨_,rfl⟩:=a8 hl;rfl)
 obtain⟨t1⟩:=FT.of (ps:=["store", "level", "change"]) X G h1 (fun _ _ _ _ _ _ us hl=>by obtain⟨_,_,_,rfl⟩:=d7 hl;rfl)
 obtain⟨t2⟩:=FT.of (ps:=["store", "level", "changes"]) X G h2 (fun _ _ _ _ _ _ us hl=>by obtain⟨_,_,_,rfl⟩:=d7 hl;rfl)
 obtain⟨t3⟩:=FT.of (ps:=["many", "thing"]) X G h3 (fun _ _ _ _ _ _ us hl=>by obtain⟨_,_,rfl⟩:=T0 hl;rfl)
 obtain⟨t4⟩:=FT.of (ps:=["land", "numbers"]) X G h4 (fun _ _ _ _ _ _ us hl=>by obtain⟨_,_,rfl⟩:=T0 hl;rfl)
 obtain⟨t5⟩:=FT.of (ps:=["many", "spot"]) X G h5 (fun _ _ _ _ _ _ us hl=>by obtain⟨_,_,rfl⟩:=T0 hl;rfl)
 obtain⟨t6⟩:=FT.of (ps:=["table", "goal"]) X G h6 (fun _ _ _ _ _ _ us hl=>by obtain⟨_,_,rfl⟩:=T0 hl;rfl)
 obtain⟨t7⟩:=FT.of (ps:=["store"]) X G h7 (fun _ _ _ _ _ _ us hl=>by obtain⟨_,rfl⟩:=a8 hl;rfl)
 obtain⟨t8⟩:=FT.of (ps:=["store", "change"]) X G h8 (fun _ _ _ _ _ _ us hl=>by obtain⟨_,_,rfl⟩:=T0 hl;rfl)
 obtain⟨t9⟩:=FT.of (ps:=["store", "changes"]) X G h9 (fun _ _ _ _ _ _ us hl=>by obtain⟨_,_,rfl⟩:=T0 hl;rfl)
 obtain⟨t10⟩:=FT.of (ps:=["effect", "level"]) X G h10 (fun _ _ _ _ _ _ us hl=>by obtain⟨_,_,rfl⟩:=T0 hl;rfl)
 obtain⟨t11⟩:=FT.of (ps:=["one", "other"]) X G h11 (fun _ _ _ _ _ _ us hl=>by obtain⟨_,_,rfl⟩:=T0 hl;rfl)
 obtain⟨t12⟩:=FT.of (ps:=["one", "other"]) X G h12 (fun _ _ _ _ _ _ us hl=>by obtain⟨_,_,rfl⟩:=T0 hl;rfl)
 obtain⟨t13⟩:=FT.of (ps:=["store", "table", "way"]) X G h13 (fun _ _ _ _ _ _ us hl=>by obtain⟨_,_,_,rfl⟩:=d7 hl;rfl)
 obtain⟨t14⟩:=FT.of (ps:=["table"]) X G h14 (fun _ _ _ _ _ _ us hl=>by obtain⟨_,rfl⟩:=a8 hl;rfl)
 obtain⟨t15⟩:=FT.of (ps:=["land", "store", "table", "stayed"]) X G h15 (fun _ _ _ _ _ _ us hl=>by obtain⟨_,_,_,_,rfl⟩:=p8 hl;rfl)
 obtain⟨t16⟩:=FT.of (ps:=["land", "rows", "place"]) X G h16 (fun _ _ _ _ _ _ us hl=>by obtain⟨_,_,_,rfl⟩:=d7 hl;rfl)
 obtain⟨t17⟩:=FT.of (ps:=["land", "place", "numbers"]) X G h17 (fun _ _ _ _ _ _ us hl=>by obtain⟨_,_,_,rfl⟩:=d7 hl;rfl)
 obtain⟨t18⟩:=FT.of (ps:=["land", "place", "part"]) X G h18 (fun _ _ _ _ _ _ us hl=>by obtain⟨_,_,_,rfl⟩:=d7 hl;rfl)
 obtain⟨t19⟩:=FT.of (ps:=["land", "place", "trip"]) X G h19 (fun _ _ _ _ _ _ us hl=>by obtain⟨_,_,_,rfl⟩:=d7 hl;rfl)
 obtain⟨t20⟩:=FT.of (ps:=["land", "store", "table"]) X G h20 (fun _ _ _ _ _ _ us hl=>by obtain⟨_,_,_,rfl⟩:=d7 hl;rfl)
 obtain⟨t21⟩:=FT.of (ps:=["land", "rows"]) X G h21 (fun _ _ _ _ _ _ us hl=>by obtain⟨_,_,rfl⟩:=T0 hl;rfl)
 obtain⟨t22⟩:=FT.of (ps:=["land", "rows"]) X G h22 (fun _ _ _ _ _ _ us hl=>by obtain⟨_,_,rfl⟩:=T0 hl;rfl)
 obtain⟨t23⟩:=FT.of (ps:=["land", "walk"]) X G h23 (fun _ _ _ _ _ _ us hl=>by obtain⟨_,_,rfl⟩:=T0 hl;rfl)
 obtain⟨t24⟩:=FT.of (ps:=["numbers"]) X G h24 (fun _ _ _ _ _ _ us hl=>by obtain⟨_,rfl⟩:=a8 hl;rfl)
 obtain⟨t25⟩:=FT.of (ps:=["land", "store", "level", "walk"]) X G h25 (fun _ _ _ _ _ _ us hl=>by obtain⟨_,_,_,_,rfl⟩:=p8 hl;rfl)
 obtain⟨t26⟩:=FT.of (ps:=["land", "store", "base"]) X G h26 (fun _ _ _ _ _ _ us hl=>by obtain⟨_,_,_,rfl⟩:=d7 hl;rfl)
 obtain⟨t27⟩:=FT.of (ps:=["land", "store", "base"]) X G h27 (fun _ _ _ _ _ _ us hl=>by obtain⟨_,_,_,rfl⟩:=d7 hl;rfl)
 obtain⟨t28⟩:=FT.of (ps:=["number"]) X G h28 (fun _ _ _ _ _ _ us hl=>by obtain⟨_,rfl⟩:=a8 hl;rfl)
 obtain⟨t29⟩:=FT.of (ps:=["springs", "some"]) X G h29 (fun _ _ _ _ _ _ us hl=>by obtain⟨_,_,rfl⟩:=T0 hl;rfl)
 obtain⟨t30⟩:=FT.of (ps:=["store", "springs", "tables", "some", "number"]) X G h30 (fun _ _ _ _ _ _ us hl=>by obtain⟨_,_,_,_,_,rfl⟩:=B9w hl;rfl)
 obtain⟨t31⟩:=FT.of (ps:=["store", "springs", "tables", "base", "some"]) X G h31 (fun _ _ _ _ _ _ us hl=>by obtain⟨_,_,_,_,_,rfl⟩:=B9w hl;rfl)
 obtain⟨t32⟩:=FT.of (ps:=["land", "store", "springs", "base"]) X G h32 (fun _ _ _ _ _ _ us hl=>by obtain⟨_,_,_,_,rfl⟩:=p8 hl;rfl)
 obtain⟨t33⟩:=FT.of (ps:=["one", "other"]) X G h33 (fun _ _ _ _ _ _ us hl=>by obtain⟨_,_,rfl⟩:=T0 hl;rfl)
 obtain⟨t34⟩:=FT.of (ps:=["land", "store", "springs", "walker"]) X G h34 (fun _ _ _ _ _ _ us hl=>by obtain⟨_,_,_,_,rfl⟩:=p8 hl;rfl)
 obtain⟨t35⟩:=FT.of (ps:=["needs", "used"]) X G h35 (fun _ _ _ _ _ _ us hl=>by obtain⟨_,_,rfl⟩:=T0 hl;rfl)
 obtain⟨t36⟩:=FT.of (ps:=["land", "store", "springs", "walkers"]) X G h36 (fun _ _ _ _ _ _ us hl=>by obtain⟨_,_,_,_,rfl⟩:=p8 hl;rfl)
 obtain⟨t37⟩:=FT.of (ps:=["_law_script"]) X G h37 (fun _ _ _ _ _ _ us hl=>by obtain⟨_,rfl⟩:=a8 hl;rfl)
 obtain⟨t38⟩:=FT.of (ps:=["_law_hand_here"]) X G h38 (fun _ _ _ _ _ _ us hl=>by obtain⟨_,rfl⟩:=a8 hl;rfl)
 obtain⟨t39⟩:=FT.of (ps:=["_law_hand_here"]) X G h39 (fun _ _ _ _ _ _ us hl=>by obtain⟨_,rfl⟩:=a8 hl;rfl)
 obtain⟨t40⟩:=FT.of (ps:=["_law_hand_here", "_law_many"]) X G h40 (fun _ _ _ _ _ _ us hl=>by obtain⟨_,_,rfl⟩:=T0 hl;rfl)
 obtain⟨t41⟩:=FT.of (ps:=["_law_hand_here", "_law_scale"]) X G h41 (fun _ _ _ _ _ _ us hl=>by obtain⟨_,_,rfl⟩:=T0 hl;rfl)
 obtain⟨t42⟩:=FT.of (ps:=["_law_hand_here", "_law_places", "_law_ways", "_law_scale"]) X G h42 (fun _ _ _ _ _ _ us hl=>by obtain⟨_,_,_,_,rfl⟩:=p8 hl;rfl)
 obtain⟨t43⟩:=FT.of (ps:=["_law_hand_here", "_law_many", "_law_store", "_law_most"]) X G h43 (fun _ _ _ _ _ _ us hl=>by obtain⟨_,_,_,_,rfl⟩:=p8 hl;rfl)
 obtain⟨t44⟩:=FT.of (ps:=["_law_land_here", "_law_store", "_law_springs_here", "_law_base"]) X G h44 (fun _ _ _ _ _ _ us hl=>by obtain⟨_,_,_,_,rfl⟩:=p8 hl;rfl)
 obtain⟨t45⟩:=FT.of (ps:=["_law_land_here", "_law_store", "_law_springs_here", "_law_walker_here"]) X G h45 (fun _ _ _ _ _ _ us hl=>by obtain⟨_,_,_,_,rfl⟩:=p8 hl;rfl)
 obtain⟨t46⟩:=FT.of (ps:=["_law_hand_here", "_law_many", "_law_store"]) X G h46 (fun _ _ _ _ _ _ us hl=>by obtain⟨_,_,_,rfl⟩:=d7 hl;rfl)
 obtain⟨t47⟩:=FT.of (ps:=["_law_thing"]) X G h47 (fun _ _ _ _ _ _ us hl=>by obtain⟨_,rfl⟩:=a8 hl;rfl)
 obtain⟨t48⟩:=FT.of (ps:=["_law_thing"]) X G h48 (fun _ _ _ _ _ _ us hl=>by obtain⟨_,rfl⟩:=a8 hl;rfl)
 obtain⟨t49⟩:=FT.of (ps:=["_law_needs_here"]) X G h49 (fun _ _ _ _ _ _ us hl=>by obtain⟨_,rfl⟩:=a8 hl;rfl)
 have Fl:=C3v (st:=d8) l50 c50 k50
 let T:Txt K mg:={
  n_abs:=W4 X G z_abs,
  n_all:=W4 X G z_all,
  n_any:=W4 X G z_any,
  n_bool:=W4 X G z_bool,
  n_enumerate:=W4 X G z_enumerate,
  n_int:=W4 X G z_int,
  n_isinstance:=W4 X G z_isinstance,
  n_len:=W4 X G z_len,
  n_list:=W4 X G z_list,
  n_max:=W4 X G z_max,
  n_min:=W4 X G z_min,
  n_range:=W4 X G z_range,
  n_reversed:=W4 X G z_reversed,
  n_sorted:=W4 X G z_sorted,
  n_tuple:=W4 X G z_tuple,
  t_MANY:=tk_MANY,mg_MANY:=P7 X G q_MANY,
  t_WAYS:=tk_WAYS,mg_WAYS:=P7 X G q_WAYS,
  t_START:=tk_START,mg_START:=P7 X G q_START,
  t_END:=tk_END,mg_END:=P7 X G q_END,
  t_CHANGE:=tk_CHANGE,mg_CHANGE:=P7 X G q_CHANGE,
  t_PLACE_spots:=tk_PLACE_spots,mg_PLACE_spots:=P7 X G q_PLACE_spots,
  t_LEVEL:=tk_LEVEL,mg_LEVEL:=P7 X G q_LEVEL,
  t_LEAST:=tk_LEAST,mg_LEAST:=P7 X G q_LEAST,
  t_GAIN:=tk_GAIN,mg_GAIN:=P7 X G q_GAIN,
  t_TOP:=tk_TOP,mg_TOP:=P7 X G q_TOP,
  t_TABLE:=tk_TABLE,mg_TABLE:=P7 X G q_TABLE,
  t_RISEN:=tk_RISEN,mg_RISEN:=P7 X G q_RISEN,
  t_FROM:=tk_FROM,mg_FROM:=P7 X G q_FROM,
  t_BY:=tk_BY,mg_BY:=P7 X G q_BY,
  t_NUMBERS:=tk_NUMBERS,mg_NUMBERS:=P7 X G q_NUMBERS,
  t_TIMES:=tk_TIMES,mg_TIMES:=P7 X G q_TIMES,
  t_PLACE_springs:=tk_PLACE_springs,mg_PLACE_springs:=P7 X G q_PLACE_springs,
  t_GIFT:=tk_GIFT,mg_GIFT:=P7 X G q_GIFT,
  t_BEGIN:=tk_BEGIN,mg_BEGIN:=P7 X G q_BEGIN,
  t_GOAL:=tk_GOAL,mg_GOAL:=P7 X G q_GOAL,
  f_is_whole:=t0,
  f_stepped:=t1,
  f_levels_along:=t2,
  f_is_place:=t3,
  f_changes_of:=t4,
  f_base_at:=t5,
  f_has_enough:=t6,
  f_effect_of_none:=t7,
  f_effect_of_one:=t8,
  f_effect_of:=t9,
  f_passed:=t10,
  f_joined:=t11,
  f_is_more:=t12,
  f_behind_way:=t13,
  f_first_row:=t14,
  f_row_behind:=t15,
  f_walk_to:=t16,
  f_behind_ways:=t17,
  f_behind_part:=t18,
  f_end_of:=t19,
  f_rows_from:=t20,
  f_still_rises:=t21,
  f_rising_walk:=t22,
  f_parted_at_round:=t23,
  f_parts_by:=t24,
  f_filling_parts:=t25,
  f_settled:=t26,
  f_highest:=t27,
  f_alone:=t28,
  f_numbers_in:=t29,
  f_level_by_spring:=t30,
  f_base_by:=t31,
  f_highest_by:=t32,
  f_is_part:=t33,
  f_needs_of:=t34,
  f_first_shares:=t35,
  f_shared:=t36,
  f_hand:=t37,
  f_next:=t38,
  f_take:=t39,
  f_draw:=t40,
  f_change:=t41,
  f_land:=t42,
  f_springs:=t43,
  f_by_sets:=t44,
  f_needs:=t45,
  f_walker:=t46,
  f_law_is_whole:=t47,
  f_are_needs:=t48,
  f_all_shares:=t49,
  f_law:=⟨fa,_,Fl,hfa,Fl.binds (fun _ _ _ _ _ _ us hl=>by obtain⟨_,rfl⟩:=a8 hl;rfl)⟩ }
 exact⟨A06 "law" "law" (A1k d8) (j1 d8) (C2 d8) .none kV50 dc50 pm50 an50 cd50 ct50,fun s v=>.of_eq rfl,fun base _ _=>D2m T⟩
end
theorem walk {l:PySem.W.OpenLaw} {q:Program} {loose:List Str} {XP:(Str->Option Value)->Heap->Prop} {YP:World->Heap->Prop} {d:DefRec} {K:Params->A7} (hn:l.most=some 63) (hdf:d.params.defaults=[])
  (hY:∀(w:World) (h:Heap),YP w h->(K w.params).In h)
  (F:∀(w:World) (mg:Str->Option Value) (fa:Addr) (h:Heap),(K w.params).In h->h.Ns mainGlobals mg->mg d.name=some (.ref fa)->
   ∃fd:FuncData,(∀(s:Shared) (u:Value),BindsTo s fd ⟨[u],[]⟩ [("_law_script",u)])/\∀base:Heap,(K w.params).In base->base.Ns mainGlobals mg->C9 l.prog w (K w.params) mg base CX0 14 fa fd ["_law_script"] (B0f (K w.params))) :
  PySem.W.WalkO q loose XP YP l.row.toRowW d [] (fun f vs=>PySem.call f vs):=
 L2.walk_of (n:=63) (k:=14) (x:= "_law_script") (CX:=fun _=>CX0) (sp:=fun w=>B0f (K w.params)) hn (by decide) hdf ⟨rfl,by decide,by decide,rfl⟩ hY F (fun _ _ a ns hl _ hS=>⟨a,ns,rfl,hS,hl,fun _=>rfl⟩) fun _ _ _ _ _ z=>z
end My
structure PySem.W.Fast:Prop where(tw2053273639061743111 tw12667050940034787560 tw9718122344234435106 tw8099531903820345251 tw409911561713730309 tw4507194317734009499 tw9900600119874699036 tw15988089074661635864 tw6167086509106220595 tw13974526615667857089 tw9400389465734633758 tw14115199694360560820 tw12450406127843198148 tw17253851827536089000 tw10658655806245876432 tw8663006596622961072 tw9316759040170984082 tw1871071805634421877 tw1030796123744106095 tw11990338347653666103 tw15205073411684112876 tw7060043782622379398 tw12088760476790138141 tw6553904936775582618 tw11531043067832713787 tw17607249398682712085 tw18380227507165812451 tw11399747285680883856 tw14145315386852093303 tw3730252445566226251 tw3768341555514744562 tw16470317603182274924 tw2162325757769309262 tw5379960460422515813 tw8410488244382700287 tw13147362124437369613 tw9363200671009899055 tw17629336349411737409 tw3281149443935126257 tw17053643417408388323 tw12902591449803841534 tw6567665821539477510 tw3729021652594785097 tw5983763057808416689 tw178079413950478399 tw4723013151761366569 tw8624307561069300908 tw15600630005215764039 tw8455056029480219548 tw6456530560998814880 tw16166884635532371234 tw3041130388109181177 tw18198636868200834948 tw17482412997193450802 tw17419462968280139712 tw11508541138616475904 tw14082625764405748523 tw12908922055131325977 tw10437179053133435775 tw14660762634074362399 tw16994651619549802098 tw15971435121862953584 tw12430662669652589085 tw1627261420748498348 tw10905835903510398000 tw14098005007196847474 tw7920070503170807655 tw7790097946024650227 tw12897197092544964900 tw14872728798414902068 tw8980366001335475667 tw587845977564910562 tw10556035383201281368 tw6510887749644669655 tw12872946254058768507 tw9920113910313100989 tw7696913734880838446 tw2588848748842331109 tw14593526021361682730 tw16229821372145173603 tw10167106291893573382 tw7716227296556921009 tw18016027969222247420 tw11341585675211943719 tw14564786912344249586 tw14621962850333090675 tw9404799376156506998 tw6305972172859102858 tw2093155498024463167 tw11266393163900849923 tw2902186770623650207 tw781225422787977034 tw7523290864563932919 tw5984343339047191180 tw10742882169546598699 tw17612347659018573322 tw9967841592230019775 tw17678688805268308135 tw9354063356187238999 tw5965333868021832914 tw2646166499176854618 tw14033141823263539537 tw12129849215449257065 tw1756525930606485391 tw10716508280051692394 tw12535763372546799843 tw16968372599492053683 tw14810097595724319543 tw2047229766912690929 tw8934637633198919986 tw15985924578722276465 tw215489780312183894 tw17184375728306574387 tw16015187489625728957 tw15705727070751037731 tw9129477959873922834 tw17676772460716893990 tw3704377426864201307 tw1785371306952006259 tw5044327323168999979 tw5313536778653548872 tw1051766488513791001 tw11305107867082181313 tw11817346152782665992 tw10340445882440093403 tw3729043285994912370 tw11210672873674084216 tw14120620463031051914 tw2397187289251868123 tw7039657098051322712 tw303708544512188412 tw13370218779372543132 tw11721255062586364312 tw8251743507517985080 tw11328914977879611015 tw2696248475829296544 tw5082844449958919335 tw638591237018568547 tw12624887388051585510 tw16642568255387821506 tw535820438206182364 tw3775658789516987041 tw15677123635701684115 tw10759655485364125970 tw3188409980610042244 tw8504695240442842156 tw17666716791177500682 tw469466623171916742 tw3440932858564937261 tw14944318120730593348 tw10244281625851181733 tw13091476785233825481 tw9546035428103714458 tw2904348877548053385 tw9592608118001510287 tw1021266774265944480 tw7400592906747836629 tw5310780170766837731 tw10007811491506039530 tw3862939816563848686 tw17832873288915069548 tw12456208105329184911 tw15170651970352930673 tw18112832918423854808 tw1312617779936988444 tw485486451545483034 tw9882291556981697907 tw14036079601028084018 tw15106878182851419609 tw6293947080730917349 tw6649815971210470060 tw7439883956167402988 tw4315037985544403782 tw12836124093052530218 tw13321666513659581605 tw1041636387058505996 tw5549097543766816338 tw17267471952768208259 tw14192877846139847161 tw2595420504439863213 tw10379549077092930392 tw6368718563962297198 tw14023640583719722069 tw6030507195796347436 tw2271504386828114549 tw17610261772920401744 tw280415031392940385 tw11279448500354172968 tw6638889657781974484 tw4933415862072238185 tw12006391333882254603 tw12480002725911397179 tw13537133925252206342 tw10792924316943729036 tw6951440176914306603 tw706540248605692136 tw10200260487611882193 tw6049815447521812595 tw9786158509164170747 tw3619682023157735886 tw2555773016102523215 tw17255389098006564304 tw5280519410741079863 tw18401677065108833767 tw15903679927486032875 tw16585778886290106453 tw14557473485242419664 tw7285514241307734976 tw7383149960368486636 tw17503926485845294626 tw4363604078602572957 tw9901454481034043081 tw16914571769505819993 tw3479790609919814127 tw16889985857701460284 tw10435939663815712915 tw9519305997626629005 tw17879877828501198226 tw8528485531863743802 tw5313486910079552714 tw6455851197611651290 tw5069085516707219573 tw12005706498152822416 tw13587120159861489425 tw5161664621102618134 tw8498099280061009607 tw11048765025725564929 tw6038037921744000455 tw4421535045922545033 tw4103690346169395990 tw2607557384039159815 tw9941342631104559408 tw11775081923144033635 tw8321836333441226934 tw7345168859895600125 tw12198278139715614746 tw380549547339495436 tw3655924225113061766 tw17211401362687904369 tw16684510715074927794 tw385578873175490323 tw10502141727984418734 tw687638280195310825 tw6433179639867588674 tw1945792874081846025 tw4007200874158036461 tw3312954562100334102 tw18113244506192514239 tw10493606529615875707 tw16425301341220791839 tw12349984860267591893 tw9579968219274915525 tw5359001016586744102 tw17861150270791944047 tw10723180158427448455 tw2637220617125757709 tw5638743966297950594 tw12842919562923736568 tw7603735647073460424 tw9393192540685533210 tw16808993761236686979 tw11849255469613543668 tw12507946630247617404 tw14315032552120899991 tw3095505983911906158 tw2075186424572111814 tw9255733015105236331 tw3124662713295064603 tw16855914828586649402 tw2236387483112473634 tw5870067805973338989 tw8672316101430410491 tw16611075904234605873 tw6415308242763264564 tw5384774252023079279 tw9902458088636193874 tw13753018323648389329 tw17900912275992861786 tw1197950546605644816 tw12458256743188453060 tw17782855666334333810 tw12300482570396957854 tw2048933823544603378 tw11238725138312969260 tw7570625361901029412 tw6730242046653232604 tw1880633025166250560 tw8134792746052808932 tw11844622798655015219 tw859430653452543412 tw12874283498601068877 tw5212049558569435605 tw14660275319724403771 tw11520111138992437312 tw14262684326001356079 tw4047359337968692098 tw8928950705818015611 tw17346771553584084145 tw17448197398693858534 tw9159212932998588139:True)
open PySem PySem.W PyProof.Rows
set_option maxRecDepth 100000 in
set_option maxHeartbeats 0 in
theorem PySem.Challenge.cw_trudge_k86_whole_shares_holds : PySem.Challenge.rw_trudge_k86_whole_shares.Holds := by
 w_on;o_law;k_head;(case hw=>w_witness2)
 k_fill
 refine My.walk (l:=PySem.Challenge.rw_trudge_k86_whole_shares) rfl rfl (fun w h Y=>PySem.W.kIn_of Y) ?F
 case F=>
  intro w mg fa h KX G hmg
  refine' My.all_mk KX G hmg ?h0 ?h1 ?h2 ?h3 ?h4 ?h5 ?h6 ?h7 ?h8 ?h9 ?h10 ?h11 ?h12 ?h13 ?h14 ?h15 ?h16 ?h17 ?h18 ?h19 ?h20 ?h21 ?h22 ?h23 ?h24 ?h25 ?h26 ?h27 ?h28 ?h29 ?h30 ?h31 ?h32 ?h33 ?h34 ?h35 ?h36 ?h37 ?h38 ?h39 ?h40 ?h41 ?h42 ?h43 ?h44 ?h45 ?h46 ?h47 ?h48 ?h49 ?a50 ?l50 ?c50 ?k50 ?q_MANY ?q_WAYS ?q_START ?q_END ?q_CHANGE ?q_PLACE_spots ?q_LEVEL ?q_LEAST ?q_GAIN ?q_TOP ?q_TABLE ?q_RISEN ?q_FROM ?q_BY ?q_NUMBERS ?q_TIMES ?q_PLACE_springs ?q_GIFT ?q_BEGIN ?q_GOAL ?z_abs ?z_all ?z_any ?z_bool ?z_enumerate ?z_int ?z_isinstance ?z_len ?z_list ?z_max ?z_min ?z_range ?z_reversed ?z_sorted ?z_tuple
  all_goals try (exact⟨_,by k_is,_,⟨_,_,_,_,_,_,_,_,_,rfl,by k_is,by k_is⟩,by k_is⟩)
  (case a50=>k_is);(case l50=>k_is);(case c50=>k_is);(case k50=>k_is)
  (case q_MANY=>k_is);(case q_WAYS=>k_is);(case q_START=>k_is);(case q_END=>k_is);(case q_CHANGE=>k_is);(case q_PLACE_spots=>k_is);(case q_LEVEL=>k_is);(case q_LEAST=>k_is);(case q_GAIN=>k_is);(case q_TOP=>k_is);(case q_TABLE=>k_is);(case q_RISEN=>k_is);(case q_FROM=>k_is);(case q_BY=>k_is);(case q_NUMBERS=>k_is);(case q_TIMES=>k_is);(case q_PLACE_springs=>k_is);(case q_GIFT=>k_is);(case q_BEGIN=>k_is);(case q_GOAL=>k_is)
  (case z_abs=>k_is);(case z_all=>k_is);(case z_any=>k_is);(case z_bool=>k_is);(case z_enumerate=>k_is);(case z_int=>k_is);(case z_isinstance=>k_is);(case z_len=>k_is);(case z_list=>k_is);(case z_max=>k_is);(case z_min=>k_is);(case z_range=>k_is);(case z_reversed=>k_is);(case z_sorted=>k_is);(case z_tuple=>k_is)
